import PyProof.Rows.All
import Wide.All
import OpenK.AllK
import Wide.FinOn
import HandS.ForMost
import HandS.Flow
import HandS.Wide
import HandS.Small
import HandS.Style
import HandS.IsInst
import HandS.RaiseMore
import HandS.Codes
import HandS.TupAny
import HandS.Conv
import HandS.TupMul
import PyProof.ReprBulk
import PyProof.ReprRoads
import PyProof.Rows.ReprShort
import HandS.SortInts
import KE.SortKeyHeap
import KE.KDictPairs
import HandS.Walk
import HandS.Zip
import HandS.TupLe
import PySem.Challenge.RW_mostclauses_k21_nets_mean_counts
set_option Elab.async false
set_option linter.all false
set_option maxRecDepth 100000
set_option maxHeartbeats 4000000
namespace Mc
open PySem PySem.Spec PyProof.Rows L2
/-! ### the text by places -/
def top (i : Nat) : Stmt := PySem.Challenge.pw_mostclauses_k21_nets_mean_counts.main.body.getD i (.Pass ⟨0, 0, 0, 0⟩)

abbrev s_net_knot : Stmt := top 2
abbrev nm_net_knot : List Str := ["one", "other", "cap", "first", "net", "outs"]
theorem sc_net_knot : FnScope nm_net_knot ["one", "other", "cap", "first"] (defScope s_net_knot) := ⟨rfl, rfl, rfl, by decide +kernel, rfl, by decide +kernel, by decide +kernel⟩
abbrev s__law_begun : Stmt := top 4
abbrev nm__law_begun : List Str := ["_law_script"]
theorem sc__law_begun : FnScope nm__law_begun ["_law_script"] (defScope s__law_begun) := ⟨rfl, rfl, rfl, by decide +kernel, rfl, by decide +kernel, by decide +kernel⟩
abbrev s__law_draw : Stmt := top 5
abbrev nm__law_draw : List Str := ["_law_tape", "_law_many", "_law_spot", "_law_most", "_law_cell", "_law_found"]
theorem sc__law_draw : FnScope nm__law_draw ["_law_tape", "_law_many"] (defScope s__law_draw) := ⟨rfl, rfl, rfl, by decide +kernel, rfl, by decide +kernel, by decide +kernel⟩
abbrev s__law_pick : Stmt := top 6
abbrev nm__law_pick : List Str := ["_law_tape", "_law_some"]
theorem sc__law_pick : FnScope nm__law_pick ["_law_tape", "_law_some"] (defScope s__law_pick) := ⟨rfl, rfl, rfl, by decide +kernel, rfl, by decide +kernel, by decide +kernel⟩
abbrev s__law_marks : Stmt := top 7
abbrev nm__law_marks : List Str := ["_law_tape", "_law_many", "_law_by", "_law_far", "_law_first", "_law_names", "_law_signs", "_law_name", "_law_k"]
theorem sc__law_marks : FnScope nm__law_marks ["_law_tape", "_law_many"] (defScope s__law_marks) := ⟨rfl, rfl, rfl, by decide +kernel, rfl, by decide +kernel, by decide +kernel⟩
abbrev s__law_is_so : Stmt := top 8
abbrev nm__law_is_so : List Str := ["_law_on", "_law_mark"]
theorem sc__law_is_so : FnScope nm__law_is_so ["_law_on", "_law_mark"] (defScope s__law_is_so) := ⟨rfl, rfl, rfl, by decide +kernel, rfl, by decide +kernel, by decide +kernel⟩
abbrev s__law_named : Stmt := top 9
abbrev nm__law_named : List Str := ["_law_names", "_law_on", "_law_name", "_law_meaning", "_law_some", "_law_one"]
theorem sc__law_named : FnScope nm__law_named ["_law_names", "_law_on"] (defScope s__law_named) := ⟨rfl, rfl, rfl, by decide +kernel, rfl, by decide +kernel, by decide +kernel⟩
abbrev s__law_is_held : Stmt := top 10
abbrev nm__law_is_held : List Str := ["_law_clauses", "_law_on", "_law_some", "_law_one"]
theorem sc__law_is_held : FnScope nm__law_is_held ["_law_clauses", "_law_on"] (defScope s__law_is_held) := ⟨rfl, rfl, rfl, by decide +kernel, rfl, by decide +kernel, by decide +kernel⟩
abbrev s_law : Stmt := top 11
abbrev nm_law : List Str := ["_law_script", "_law_tape", "_law_turn", "_law_lens", "_law_marks_here", "_law_total", "_law_cap", "_law_ones", "_law_others", "_law_rows", "_law_names", "_law_clauses", "_law_outs", "_law_counts", "_law_some", "_law_on", "_law_due", "_law_k", "_law_at", "_law_one", "_law_mark"]
theorem sc_law : FnScope nm_law ["_law_script"] (defScope s_law) := ⟨rfl, rfl, rfl, by decide +kernel, rfl, by decide +kernel, by decide +kernel⟩
/-- an inner statement of a class -/
def inner (s : Stmt) (j : Nat) : Stmt := match s with
  | .ClassDef _ _ _ b _ _ _ _ _ _ _ => b.getD j (.Pass ⟨0, 0, 0, 0⟩)
  | z => z
abbrev s_Net___init__ : Stmt := inner (top 1) 0
abbrev nm_Net___init__ : List Str := ["self", "first"]
theorem sc_Net___init__ : FnScope nm_Net___init__ ["self", "first"] (defScope s_Net___init__) := ⟨rfl, rfl, rfl, by decide +kernel, rfl, by decide +kernel, by decide +kernel⟩
abbrev s_Net_merged : Stmt := inner (top 1) 1
abbrev nm_Net_merged : List Str := ["self", "one", "other", "many", "odd", "even", "outs", "at"]
theorem sc_Net_merged : FnScope nm_Net_merged ["self", "one", "other", "many"] (defScope s_Net_merged) := ⟨rfl, rfl, rfl, by decide +kernel, rfl, by decide +kernel, by decide +kernel⟩
abbrev s_Net__high_and_low : Stmt := inner (top 1) 2
abbrev nm_Net__high_and_low : List Str := ["self", "one", "other", "many", "high", "low"]
theorem sc_Net__high_and_low : FnScope nm_Net__high_and_low ["self", "one", "other", "many"] (defScope s_Net__high_and_low) := ⟨rfl, rfl, rfl, by decide +kernel, rfl, by decide +kernel, by decide +kernel⟩
abbrev s_Net__name : Stmt := inner (top 1) 3
abbrev nm_Net__name : List Str := ["self", "meaning", "name"]
theorem sc_Net__name : FnScope nm_Net__name ["self", "meaning"] (defScope s_Net__name) := ⟨rfl, rfl, rfl, by decide +kernel, rfl, by decide +kernel, by decide +kernel⟩
/-! ### a def that stands in the top and keeps a promise -/
structure At (K : PySem.W.Frag) (mg : Str → Option Value) (x : Str) (st : Stmt) : Prop where
  ex : ∃ f fd, mg x = some (.ref f) ∧ Fun K x x st f fd
structure Has (P : Program) (w : World) (K : PySem.W.Frag) (mg : Str → Option Value) (base : Heap) (k : Nat) (x : Str) (ps : List Str) (sp : Sp) : Prop where
  ex : ∃ f fd, mg x = some (.ref f) ∧ PySem.W.keepIn K (.ref f) = true ∧ Binds K fd ps [] ∧ FnOk P w K mg base CX0 k f fd ps sp
theorem pe_has {X : Cx} {k : Nat} {x : Str} {ps : List Str} {sp : Sp} {e : Expr} {es : List Expr} {t : TA} {p pos : Pos} (h : Has X.prog X.w X.K X.mg X.base k x ps sp) (hr : Room k X.A) (hg : Gl X x) (ha : PA X (e :: es) t)
    (hdb : (x == ("__debug__" : Str)) = false := by decide) (he : starEach (e :: es) X.env = (false, eval e X.env) :: starEach es X.env := by rfl) (hpl : (backTo pos (starEach es X.env)).any (·.1) = false := by rfl) :
    PE X (.Call (.Name x p) (e :: es) [] pos) (tCall sp [] E0 t) := by
  obtain ⟨f, fd, hm, hk, hb, F⟩ := h.ex
  exact pe_call F hr hg hm hk hb .nil pass0 ha hdb he hpl
abbrev BindsAll (x : Str) (st : Stmt) (ps : List Str) : Prop :=
  ∀ (kV doc pm : Value) (an : Option Addr) (cdv ct : Value) (us : List Value), us.length = ps.length → bindArgs (PySem.W.fnOf x x (defArgs st) (defBody st) (defScope st) .none kV doc pm an cdv ct) ⟨us, []⟩ = pure (ps.zip us)
section
variable {P : Program} {w : World} {K : PySem.W.Frag} {mg : Str → Option Value} {base : Heap}
theorem has_of {x : Str} {st : Stmt} {N ps : List Str} {k : Nat} {sp : Sp} (A : At K mg x st) (S : FnScope N ps (defScope st)) (B : BindsAll x st ps) (len : ∀ vs H Q E, sp vs H Q E → vs.length = ps.length)
    (hbody : ∀ (f : Addr) (cdv : Value) (A : Around) (outer : List Env) (s : Shared) (H : Hp) (vs : List V) (Q : VK) (E : XK), Room k (A.deeper (envOfC x (defScope st) s.heap.objs.size f cdv)) → sp vs H Q E →
      ∃ t, PSs (cxOf CX0 P w K mg base N x (defScope st) f cdv A outer s H E).nox (defBody st) t ∧ t { nx := fun _ H' => Q .non H', rt := Q } (start N vs) H) : Has P w K mg base (k + 1) x ps sp := by
  obtain ⟨f, fd, hm, F⟩ := A.ex
  exact ⟨f, fd, hm, F.kp, F.binds B, F.ok S len fun cdv A outer s H vs Q E hr h => hbody f cdv A outer s H vs Q E hr h⟩
end
theorem pe_const {X : Cx} {x : Str} {i : Int} {pos : Pos} (hm : ∃ t, X.mg x = some (.int i t)) (hg : Gl X x) (hd : (x == ("__debug__" : Str)) = false := by decide) : PE X (.Name x pos) (tC (.int i)) := by
  obtain ⟨t, hm⟩ := hm
  exact pe_glob hg hm ⟨t, rfl⟩ hd
/-! ### repr of a truth -/
def boolText (b : Bool) : Str := if b then "True" else "False"
theorem boolText_inj {a b : Bool} (h : boolText a = boolText b) : a = b := by
  cases a <;> cases b <;> first | rfl | exact absurd h (by decide +kernel)
theorem call_repr_bool {X : Cx} : CallR X (.builtin "repr") (fun xs H Q => ∃ b, xs = [.bl b] ∧ Q (.str (boolText b)) H) := by
  intro pins s σ H xs us Q I r h
  obtain ⟨b, rfl, q⟩ := h
  obtain ⟨u, rfl, ru⟩ := vals1 r
  cases ru
  cases b with
  | true => exact PySem.P.repr_of_bool ⟨.str (boolText true), H, I.tok _, ⟨_, rfl⟩, q⟩
  | false => exact PySem.P.repr_of_bool ⟨.str (boolText false), H, I.tok _, ⟨_, rfl⟩, q⟩
/-! ### heaps -/
/-- all that is known stays, but for what stands at t -/
def Kp (t : Addr) (H H' : Hp) : Prop := ∀ b o, H b = some o → b ≠ t → H' b = some o
theorem Kp.refl {t : Addr} (H : Hp) : Kp t H H := fun _ _ h _ => h
theorem Kp.trans {t : Addr} {H H1 H2 : Hp} (a : Kp t H H1) (b : Kp t H1 H2) : Kp t H H2 := fun c o h n => b c o (a c o h n) n
theorem Kp.new {t p : Addr} {H : Hp} {o : HO} (h : H p = none) : Kp t H (upd H p o) := fun b u e _ => by
  rw [upd_ne (ne_of_none e h)]
  exact e
theorem Kp.at {t : Addr} {H : Hp} {o : HO} : Kp t H (upd H t o) := fun b u e n => by
  rw [upd_ne n]
  exact e
theorem Kp.same {t : Addr} {H H' : Hp} (s : Same H H') : Kp t H H' := fun b o e _ => s b o e
theorem same_new {H : Hp} {p : Addr} {o : HO} (h : H p = none) : Same H (upd H p o) := fun b u e => by
  rw [upd_ne (ne_of_none e h)]
  exact e
/-! ### the tape -/
def tk (c : Addr) (spot left : Int) : List (Key × V) := [(.inr "cells", .ref c), (.inr "spot", .int spot), (.inr "left", .int left)]
structure TapeC (H : Hp) (t c : Addr) (ns : List Int) (spot left : Int) : Prop where
  d : H t = some (.dK (tk c spot left))
  l : H c = some (.lst (ns.map V.int))
  ne : 0 < ns.length
  lt : ns.length ≤ 63
  s0 : 0 ≤ spot
  l0 : 0 ≤ left
/-- a tape at t, its cells at c, of which at most n draws are taken -/
def Tape (H : Hp) (t c : Addr) (n : Nat) : Prop := ∃ ns spot left, TapeC H t c ns spot left ∧ spot ≤ n
theorem Tape.ne {H : Hp} {t c : Addr} {n : Nat} (h : Tape H t c n) : t ≠ c := by
  obtain ⟨ns, spot, left, h, _⟩ := h
  exact ne_of h.d h.l (by intro z; cases z)
theorem Tape.le {H : Hp} {t c : Addr} {n m : Nat} (h : Tape H t c n) (l : n ≤ m) : Tape H t c m := by
  obtain ⟨ns, spot, left, h, e⟩ := h
  exact ⟨ns, spot, left, h, by omega⟩
theorem Tape.stay {H H' : Hp} {t c : Addr} {n : Nat} (h : Tape H t c n) (k : ∀ b o, H b = some o → b = t ∨ b = c → H' b = some o) : Tape H' t c n := by
  obtain ⟨ns, spot, left, h, e⟩ := h
  exact ⟨ns, spot, left, ⟨k _ _ h.d (.inl rfl), k _ _ h.l (.inr rfl), h.ne, h.lt, h.s0, h.l0⟩, e⟩
theorem Tape.same {H H' : Hp} {t c : Addr} {n : Nat} (h : Tape H t c n) (s : Same H H') : Tape H' t c n := h.stay fun b o e _ => s b o e
theorem Tape.new {H : Hp} {t c p : Addr} {n : Nat} {o : HO} (h : Tape H t c n) (hp : H p = none) : Tape (upd H p o) t c n := h.same (same_new hp)
theorem Tape.at_t {H : Hp} {t c : Addr} {n : Nat} (h : Tape H t c n) : ∃ o, H t = some o := by
  obtain ⟨ns, spot, left, h, _⟩ := h
  exact ⟨_, h.d⟩
theorem Tape.at_c {H : Hp} {t c : Addr} {n : Nat} (h : Tape H t c n) : ∃ o, H c = some o := by
  obtain ⟨ns, spot, left, h, _⟩ := h
  exact ⟨_, h.l⟩
theorem k_cells : ¬ (("cells" : Str) = "spot") := by decide +kernel
theorem k_cells2 : ¬ (("cells" : Str) = "left") := by decide +kernel
theorem k_spot : ¬ (("spot" : Str) = "left") := by decide +kernel
theorem tk_cells (c : Addr) (a b : Int) : valV (tk c a b) (Sum.inr "cells" : Key) = some (.ref c) := valV_pos rfl
theorem tk_spot (c : Addr) (a b : Int) : valV (tk c a b) (Sum.inr "spot" : Key) = some (.int a) := by
  unfold tk
  rw [valV_neg (fun e => k_cells (Sum.inr.inj e)), valV_pos rfl]
theorem tk_left (c : Addr) (a b : Int) : valV (tk c a b) (Sum.inr "left" : Key) = some (.int b) := by
  unfold tk
  rw [valV_neg (fun e => k_cells2 (Sum.inr.inj e)), valV_neg (fun e => k_spot (Sum.inr.inj e)), valV_pos rfl]
theorem tk_put_spot (c : Addr) (a b x : Int) : putK (tk c a b) (Sum.inr "spot" : Key) (.int x) = tk c x b := by
  rfl
theorem tk_put_left (c : Addr) (a b x : Int) : putK (tk c a b) (Sum.inr "left" : Key) (.int x) = tk c a x := by
  rfl
theorem dg_cells {H : Hp} {t c : Addr} {a b : Int} (h : H t = some (.dK (tk c a b))) : DGet H t (.str "cells") (some (.ref c)) := by
  have g := DGet.k (k := (Sum.inr "cells" : Key)) h
  rw [tk_cells] at g
  exact g
theorem dg_spot {H : Hp} {t c : Addr} {a b : Int} (h : H t = some (.dK (tk c a b))) : DGet H t (.str "spot") (some (.int a)) := by
  have g := DGet.k (k := (Sum.inr "spot" : Key)) h
  rw [tk_spot] at g
  exact g
theorem dg_left {H : Hp} {t c : Addr} {a b : Int} (h : H t = some (.dK (tk c a b))) : DGet H t (.str "left") (some (.int b)) := by
  have g := DGet.k (k := (Sum.inr "left" : Key)) h
  rw [tk_left] at g
  exact g
theorem dp_spot {H : Hp} {t c : Addr} {a b : Int} (x : Int) (h : H t = some (.dK (tk c a b))) : DPut H t (.str "spot") (.int x) (upd H t (.dK (tk c x b))) := by
  have g := DPut.k (k := (Sum.inr "spot" : Key)) (v := .int x) h (small1000 (by show 3 ≤ 1000; decide))
  rw [tk_put_spot] at g
  exact g
theorem dp_left {H : Hp} {t c : Addr} {a b : Int} (x : Int) (h : H t = some (.dK (tk c a b))) : DPut H t (.str "left") (.int x) (upd H t (.dK (tk c a x))) := by
  have g := DPut.k (k := (Sum.inr "left" : Key)) (v := .int x) h (small1000 (by show 3 ≤ 1000; decide))
  rw [tk_put_left] at g
  exact g
theorem Tape.fresh {H : Hp} {t c p : Addr} {n : Nat} (h : Tape H t c n) (hp : H p = none) : p ≠ t := by
  obtain ⟨o, e⟩ := h.at_t
  exact (ne_of_none e hp).symm
theorem Tape.fresh_c {H : Hp} {t c p : Addr} {n : Nat} (h : Tape H t c n) (hp : H p = none) : p ≠ c := by
  obtain ⟨o, e⟩ := h.at_c
  exact (ne_of_none e hp).symm
/-! ### a list beside the empty list -/
section
variable {X : Cx}
def rEqNil (K : PySem.W.Frag) (neg : Bool) : R2 := fun x y H Q => ∃ a b xs, x = .ref a ∧ y = .ref b ∧ SqL K H a xs ∧ SqL K H b [] ∧ Q (.bl (if neg = true then !xs.isEmpty else xs.isEmpty)) H
theorem op_eqNil (hu : X.A.units + 1 < cLine) : OpR X (compareOp .Eq) (rEqNil X.K false) := by
  intro pins s σ H x y v u Q I rx ry h
  obtain ⟨a, b, xs, rfl, rfl, ha, hb, q⟩ := h
  cases rx
  cases ry
  obtain ⟨us, vs, pl, _⟩ := I.list ha
  obtain ⟨ws, vs2, pl2, _⟩ := I.list hb
  cases vs2
  have l := vs.length
  cases xs with
  | nil =>
    cases vs
    exact SeqAt.RcAt.lists (e := fun _ => true) pl.isList pl2.isList rfl (by omega) (fun j h1 => absurd h1 (Nat.not_lt_zero _)) _ _ _ _ ⟨.bl true, H, I, rfl, q⟩
  | cons z zs => exact SeqAt.RcAt.lists_lengths pl.isList pl2.isList (by rw [List.size_toArray, ← l]; rfl) (by omega) _ _ _ _ ⟨.bl false, H, I, rfl, q⟩
theorem op_neNil (hu : X.A.units + 1 < cLine) : OpR X (compareOp .NotEq) (rEqNil X.K true) := by
  intro pins s σ H x y v u Q I rx ry h
  obtain ⟨a, b, xs, rfl, rfl, ha, hb, q⟩ := h
  cases rx
  cases ry
  obtain ⟨us, vs, pl, _⟩ := I.list ha
  obtain ⟨ws, vs2, pl2, _⟩ := I.list hb
  cases vs2
  have l := vs.length
  cases xs with
  | nil =>
    cases vs
    exact SeqAt.RcNeAt.lists (e := fun _ => true) pl.isList pl2.isList rfl (by omega) (fun j h1 => absurd h1 (Nat.not_lt_zero _)) _ _ _ _ ⟨.bl false, H, I, rfl, q⟩
  | cons z zs => exact SeqAt.RcNeAt.lists_lengths pl.isList pl2.isList (by rw [List.size_toArray, ← l]; rfl) (by omega) _ _ _ _ ⟨.bl true, H, I, rfl, q⟩
end
/-! ### comprehensions that leave what is known as it is -/
theorem take_sel {α β : Type} (t : α → Bool) (f : α → β) {xs : List α} {i : Nat} {x : α} (h : xs[i]? = some x) :
    ((xs.take (i + 1)).filter t).map f = ((xs.take i).filter t).map f ++ (if t x = true then [f x] else []) := by
  rw [List.take_add_one, h, List.filter_append, List.map_append]
  by_cases ht : t x = true
  · rw [if_pos ht]
    simp [ht]
  · rw [if_neg ht]
    simp [ht]
section
variable {K : PySem.W.Frag} {a : Addr} {xs : List V} {tt : TT} {te : TE} {vs : List Nat} {σ : L2.St} {H : Hp} {D : Addr} {Qd : Hp → Prop} {j : Nat}
/-- what a turn asks: the test, the item -/
structure SelT (H : Hp) (σ : L2.St) (vs : List Nat) (j : Nat) (tt : TT) (te : TE) (x : V) (b : Bool) (y : V) : Prop where
  wip : wipe ((wipe σ vs).set j (some x)) vs = wipe σ vs
  tst : ∀ H', Same H H' → ∀ R : Bool → Hp → Prop, (∀ H'', Same H' H'' → R b H'') → tt ((wipe σ vs).set j (some x)) H' R
  elt : b = true → ∀ H', Same H H' → ∀ R : VK, (∀ H'', Same H' H'' → R y H'') → te ((wipe σ vs).set j (some x)) H' R
theorem sel_turn {x y : V} {b : Bool} {acc : List V} {H' : Hp} {P : Hp → Prop} (hD : H D = none) (s : SelT H σ vs j tt te x b y) (hs : Same H H') (ha : H' D = some (.lst acc)) (hz : acc.length < sizeLine)
    (k : ∀ H'', Same H H'' → H'' D = some (.lst (acc ++ (if b = true then [y] else []))) → P H'') :
    gName j x (wipe σ vs) H' fun σ2 H2 => wipe σ2 vs = wipe σ vs ∧ tt σ2 H2 fun c H3 => if c = true then te σ2 H3 fun y H4 => ∃ acc, H4 D = some (.lst acc) ∧ acc.length < sizeLine ∧ P (upd H4 D (.lst (acc ++ [y]))) else P H3 := by
  refine ⟨s.wip, s.tst H' hs _ fun H3 s3 => ?_⟩
  have h3 := s3 D _ ha
  cases b with
  | false =>
    refine iteF (k H3 (hs.trans s3) ?_)
    rw [h3, if_neg Bool.false_ne_true, List.append_nil]
  | true =>
    refine iteT (s.elt rfl H3 (hs.trans s3) _ fun H4 s4 => ⟨acc, s4 D _ h3, hz, k _ (fun c o e => ?_) ?_⟩)
    · rw [upd_ne (ne_of_none e hD)]
      exact s4 c o (s3 c o (hs c o e))
    · rw [upd_same, if_pos rfl]
theorem lc_sel_list (t : V → Bool) (f : V → V) (hx : SqL K H a xs) (hD : H D = none) (hz : xs.length ≤ 1000000) (hs : ∀ x ∈ xs, SelT H σ vs j tt te x (t x) (f x)) (k : ∀ H', Same H H' → H' D = some (.lst ((xs.filter t).map f)) → Qd H') :
    ∃ W : Nat → Nat → Hp → Prop, (∃ m, W 0 m (upd H D (.lst []))) ∧ ∀ i m H, W i m H →
      ((Itl K a).stop i H ∧ Qd H) ∨ ((Itl K a).go i H ∧ ∃ Nx : Hp → Prop, (∀ H', Nx H' → ∃ m', m' < m ∧ W (i + 1) m' H') ∧ ∀ x H', (Itl K a).yld i H x H' → gName j x (wipe σ vs) H' fun σ2 H2 => wipe σ2 vs = wipe σ vs ∧ tt σ2 H2 fun b H3 =>
        if b = true then te σ2 H3 fun y H4 => ∃ acc, H4 D = some (.lst acc) ∧ acc.length < sizeLine ∧ Nx (upd H4 D (.lst (acc ++ [y]))) else Nx H3) := by
  have line : 1000000 < sizeLine := by decide
  refine lc_list (xs := xs) (fun i H' => Same H H' ∧ H' D = some (.lst (((xs.take i).filter t).map f))) ⟨same_new hD, upd_same⟩ (fun i H' _ p => p.1.seq hx) (fun i x H' hi p => ?_) fun H' p => k H' p.1 (by rw [p.2, List.take_length])
  refine sel_turn hD (hs x (List.mem_of_getElem? hi)) p.1 p.2 ?_ fun H'' s'' e => ⟨s'', by rw [e, take_sel t f hi]⟩
  have l1 := List.length_filter_le t (xs.take i)
  have l2 := List.length_take_le i xs
  have l3 : (xs.take i).length ≤ xs.length := by rw [List.length_take]; omega
  rw [List.length_map]
  omega
theorem Same.seqT {H H' : Hp} (e : Same H H') (h : SqT K H a xs) : SqT K H' a xs := by
  rcases h with (h | ⟨o, h⟩) | h
  · exact .inl (.inl (e _ _ h))
  · exact .inl (.inr ⟨o, e _ _ h⟩)
  · exact .inr h
theorem lc_sel_tup (t : V → Bool) (f : V → V) (hx : SqT K H a xs) (hD : H D = none) (hz : xs.length ≤ 1000000) (hs : ∀ x ∈ xs, SelT H σ vs j tt te x (t x) (f x)) (k : ∀ H', Same H H' → H' D = some (.lst ((xs.filter t).map f)) → Qd H') :
    ∃ W : Nat → Nat → Hp → Prop, (∃ m, W 0 m (upd H D (.lst []))) ∧ ∀ i m H, W i m H →
      ((Itt K a).stop i H ∧ Qd H) ∨ ((Itt K a).go i H ∧ ∃ Nx : Hp → Prop, (∀ H', Nx H' → ∃ m', m' < m ∧ W (i + 1) m' H') ∧ ∀ x H', (Itt K a).yld i H x H' → gName j x (wipe σ vs) H' fun σ2 H2 => wipe σ2 vs = wipe σ vs ∧ tt σ2 H2 fun b H3 =>
        if b = true then te σ2 H3 fun y H4 => ∃ acc, H4 D = some (.lst acc) ∧ acc.length < sizeLine ∧ Nx (upd H4 D (.lst (acc ++ [y]))) else Nx H3) := by
  have line : 1000000 < sizeLine := by decide
  refine lc_tup (xs := xs) (fun i H' => Same H H' ∧ H' D = some (.lst (((xs.take i).filter t).map f))) ⟨same_new hD, upd_same⟩ (fun i H' _ p => Same.seqT p.1 hx) (fun i x H' hi p => ?_) fun H' p => k H' p.1 (by rw [p.2, List.take_length])
  refine sel_turn hD (hs x (List.mem_of_getElem? hi)) p.1 p.2 ?_ fun H'' s'' e => ⟨s'', by rw [e, take_sel t f hi]⟩
  have l1 := List.length_filter_le t (xs.take i)
  have l3 : (xs.take i).length ≤ xs.length := by rw [List.length_take]; omega
  rw [List.length_map]
  omega
theorem take_range {n i : Nat} (h : i < n) : (List.range n)[i]? = some i := by
  rw [List.getElem?_range h]
theorem lc_sel_range {lo : Int} {n : Nat} (t : Nat → Bool) (f : Nat → V) (hD : H D = none) (hz : n ≤ 1000000) (hs : ∀ i, i < n → SelT H σ vs j tt te (.int (lo + i)) (t i) (f i)) (k : ∀ H', Same H H' → H' D = some (.lst (((List.range n).filter t).map f)) → Qd H') :
    ∃ W : Nat → Nat → Hp → Prop, (∃ m, W 0 m (upd H D (.lst []))) ∧ ∀ i m H, W i m H →
      ((Itr lo n).stop i H ∧ Qd H) ∨ ((Itr lo n).go i H ∧ ∃ Nx : Hp → Prop, (∀ H', Nx H' → ∃ m', m' < m ∧ W (i + 1) m' H') ∧ ∀ x H', (Itr lo n).yld i H x H' → gName j x (wipe σ vs) H' fun σ2 H2 => wipe σ2 vs = wipe σ vs ∧ tt σ2 H2 fun b H3 =>
        if b = true then te σ2 H3 fun y H4 => ∃ acc, H4 D = some (.lst acc) ∧ acc.length < sizeLine ∧ Nx (upd H4 D (.lst (acc ++ [y]))) else Nx H3) := by
  have line : 1000000 < sizeLine := by decide
  refine lc_range (fun i H' => Same H H' ∧ H' D = some (.lst ((((List.range n).take i).filter t).map f))) ⟨same_new hD, upd_same⟩ (fun i H' hi p => ?_) fun H' p => k H' p.1 (by rw [p.2, List.take_of_length_le (by rw [List.length_range]; omega)])
  refine sel_turn hD (hs i hi) p.1 p.2 ?_ fun H'' s'' e => ⟨s'', by rw [e, take_sel t f (take_range hi)]⟩
  have l1 := List.length_filter_le t ((List.range n).take i)
  have l3 : ((List.range n).take i).length ≤ n := by rw [List.length_take, List.length_range]; omega
  rw [List.length_map]
  omega
end
theorem filter_all {α : Type} (xs : List α) : xs.filter (fun _ => true) = xs := List.filter_eq_self.mpr fun _ _ => rfl
theorem Kp.free {t D : Addr} {H H' : Hp} (k : Kp t H H') (h : H' D = none) (n : D ≠ t) : H D = none := by
  cases e : H D with
  | none => rfl
  | some o =>
    rw [k D o e n] at h
    cases h
theorem Kp.mut {t p : Addr} {H H' : Hp} {o : HO} (k : Kp t H H') (h : H p = none) : Kp t H (upd H' p o) := fun b u e n => by
  rw [upd_ne (ne_of_none e h)]
  exact k b u e n
theorem Tape.mut {H : Hp} {t c p : Addr} {n : Nat} {o : HO} (h : Tape H t c n) (n1 : p ≠ t) (n2 : p ≠ c) : Tape (upd H p o) t c n := h.stay fun b u e z => by
  rw [upd_ne]
  · exact e
  · rcases z with rfl | rfl
    · exact n1.symm
    · exact n2.symm
theorem yes_go {σ : L2.St} {H : Hp} {A B : Hp → Prop} (h : A H) : tYes σ H (fun b H' => if b = true then A H' else B H') := by
  show (if true = true then A H else B H)
  rw [if_pos rfl]
  exact h
/-! ### d.update(e) of two dicts -/
theorem mt_update {X : Cx} : MtR X "dict.update" (fun x xs H Q => ∃ (a b : Addr) (ks ms : List (Key × V)), x = .ref a ∧ xs = [.ref b] ∧ H a = some (.dK ks) ∧ H b = some (.dK ms) ∧ a ≠ b ∧ ks.length + ms.length ≤ sizeLine ∧
    Q .non (upd H a (.dK (mergeK ks ms)))) := by
  intro pins s σ H x xs v us Q I rx rxs h
  obtain ⟨a, b, ks, ms, rfl, rfl, ha, hb, ne, few, q⟩ := h
  cases rx
  obtain ⟨u, rfl, ru⟩ := vals1 rxs
  cases ru
  obtain ⟨za, da, va, ra, dda⟩ := dk_of I.hok ha
  obtain ⟨zb, db, vb, rb, ddb⟩ := dk_of I.hok hb
  refine call_meetsIn PySem.F.slot_dict_update dda.typeIs PySem.F.entry_dict_update (PySem.F.args_dict_update_2 _ _) (meets_dict_update (mixKind X.prog X.w) a b ne db) ⟨va, vb, dda, ddb, by rw [← ra.length, ← rb.length]; exact few, fun h' d1 d2 same => ?_⟩
  have there : ∃ o, h'.get? a = some o := by
    obtain ⟨o, _, _, ho, _⟩ := id d1
    exact ⟨o, ho⟩
  have small : (mergeK ks ms).length ≤ sizeLine := Nat.le_trans (length_mergeK ms ks) few
  exact ⟨.non, _, d_write (t' := s.toks) I (by rw [ha]; exact True.intro) same there (dk_new small da (rb.merge ra) d1), rfl, q⟩
/-! ### rules whose reading names the written part, for use within a comprehension -/
section
variable {X : Cx} {K : PySem.W.Frag}
theorem op_inK (h : X.K = K) : OpR X (compareOp .In) (rIn K false) := h ▸ op_in_seq
theorem op_notInK (h : X.K = K) : OpR X (compareOp .NotIn) (rIn K true) := h ▸ op_notIn_seq
theorem op_eqNilK (h : X.K = K) (hu : X.A.units + 1 < cLine) : OpR X (compareOp .Eq) (rEqNil K false) := h ▸ op_eqNil hu
theorem op_neNilK (h : X.K = K) (hu : X.A.units + 1 < cLine) : OpR X (compareOp .NotEq) (rEqNil K true) := h ▸ op_neNil hu
theorem ix_listK (h : X.K = K) : IxR X (rIxL K) := h ▸ ix_list
theorem ix_tupK (h : X.K = K) : IxR X (rIxT K) := h ▸ ix_tup
theorem ix_seqK (h : X.K = K) : IxR X (rIx K) := h ▸ ix_seq
theorem len_seqK (h : X.K = K) : CallR X (.builtin "len") (fun xs H Q => ∃ p ys, xs = [.ref p] ∧ (SqL K H p ys ∨ SqT K H p ys) ∧ Q (.int (ys.length : Nat)) H) := h ▸ call_len_seq
theorem pi_listK {tg l : Expr} {tl : TE} (h : X.K = K) (hl : PE X l tl) : PI X tg l (iList K tl) := h ▸ pi_list hl
theorem pi_tupK {tg l : Expr} {tl : TE} (h : X.K = K) (hl : PE X l tl) : PI X tg l (iTup K tl) := h ▸ pi_tup hl
theorem sl_listK (h : X.K = K) : SlR X (rSlL K) := h ▸ sl_list
theorem sl_tupK (h : X.K = K) : SlR X (rSlT K) := h ▸ sl_tup
theorem cr_sumK (h : X.K = K) (hc : X.calm = true) : CallR X (.builtin "sum") (rSum K) := h ▸ cr_sum hc
theorem cr_maxL (h : X.K = K) (hc : X.calm = true) : CallR X (.builtin "max") (rMax K) := h ▸ cr_max hc
theorem cr_minL (h : X.K = K) (hc : X.calm = true) : CallR X (.builtin "min") (rMin K) := h ▸ cr_min hc
theorem cr_allK (h : X.K = K) (hc : X.calm = true) : CallR X (.builtin "all") (rAll K) := h ▸ cr_all hc
theorem cr_anyK (h : X.K = K) (hc : X.calm = true) : CallR X (.builtin "any") (rAny K) := h ▸ cr_any hc
theorem call_list_ofK (h : X.K = K) : CallR X (.type "list") (fun xs H Q => ∃ p ys, xs = [.ref p] ∧ (SqL K H p ys ∨ SqT K H p ys) ∧ ∀ l, H l = none → Q (.ref l) (upd H l (.lst ys))) := h ▸ call_list_of
theorem call_tuple_ofK (h : X.K = K) : CallR X (.type "tuple") (fun xs H Q => ∃ p ys, xs = [.ref p] ∧ ((SqL K H p ys ∧ ∀ l, H l = none → Q (.ref l) (upd H l (.tup ys))) ∨ (SqT K H p ys ∧ Q (.ref p) H))) := h ▸ call_tuple_of
theorem op_catTK (h : X.K = K) : OpR X (binaryOp .Add) (rCatT K) := h ▸ op_catT
end
theorem bd_net_knot : BindsAll "net_knot" s_net_knot ["one", "other", "cap", "first"] := fun _ _ _ _ _ _ us hl => match us, hl with | [_, _, _, _], _ => rfl
theorem bd__law_begun : BindsAll "_law_begun" s__law_begun ["_law_script"] := fun _ _ _ _ _ _ us hl => match us, hl with | [_], _ => rfl
theorem bd__law_draw : BindsAll "_law_draw" s__law_draw ["_law_tape", "_law_many"] := fun _ _ _ _ _ _ us hl => match us, hl with | [_, _], _ => rfl
theorem bd__law_pick : BindsAll "_law_pick" s__law_pick ["_law_tape", "_law_some"] := fun _ _ _ _ _ _ us hl => match us, hl with | [_, _], _ => rfl
theorem bd__law_marks : BindsAll "_law_marks" s__law_marks ["_law_tape", "_law_many"] := fun _ _ _ _ _ _ us hl => match us, hl with | [_, _], _ => rfl
theorem bd__law_is_so : BindsAll "_law_is_so" s__law_is_so ["_law_on", "_law_mark"] := fun _ _ _ _ _ _ us hl => match us, hl with | [_, _], _ => rfl
theorem bd__law_named : BindsAll "_law_named" s__law_named ["_law_names", "_law_on"] := fun _ _ _ _ _ _ us hl => match us, hl with | [_, _], _ => rfl
theorem bd__law_is_held : BindsAll "_law_is_held" s__law_is_held ["_law_clauses", "_law_on"] := fun _ _ _ _ _ _ us hl => match us, hl with | [_, _], _ => rfl
theorem bd_law : BindsAll "law" s_law ["_law_script"] := fun _ _ _ _ _ _ us hl => match us, hl with | [_], _ => rfl
/-! ### methods that keep a promise -/
structure MethAt (K : PySem.W.Frag) (C : Addr) (m qual : Str) (st : Stmt) : Prop where
  ex : ∃ f fd, Meth K C m f ∧ Fun K m qual st f fd
structure InitAt (K : PySem.W.Frag) (C : Addr) (qual : Str) (st : Stmt) : Prop where
  ex : ∃ f fd, Mk K C f ∧ Fun K "__init__" qual st f fd
structure HasM (P : Program) (w : World) (K : PySem.W.Frag) (mg : Str → Option Value) (base : Heap) (C : Addr) (k : Nat) (m : Str) (ps : List Str) (sp : Sp) : Prop where
  ex : ∃ f fd, Meth K C m f ∧ Binds K fd ps [] ∧ FnOk P w K mg base CX0 k f fd ps sp
structure HasI (P : Program) (w : World) (K : PySem.W.Frag) (mg : Str → Option Value) (base : Heap) (C : Addr) (k : Nat) (x : Str) (ps : List Str) (sp : Sp) : Prop where
  ex : ∃ f fd, mg x = some (.ref C) ∧ Mk K C f ∧ Binds K fd ps [] ∧ FnOk P w K mg base CX0 k f fd ps sp
section
variable {X : Cx} {k : Nat} {C : Addr} {x m : Str} {ps : List Str} {sp : Sp} {o e : Expr} {es : List Expr} {ta : TE} {t : TA} {p pos apos : Pos}
theorem pe_hasM {pl : Sem Bool} (c : Cls X.K C) (h : HasM X.prog X.w X.K X.mg X.base C k m ps sp) (hr : Room k X.A) (he : PE X o ta) (ha : PA X (e :: es) t)
    (hst : starEach (e :: es) X.env = (false, eval e X.env) :: starEach es X.env := by rfl) (hpl : (backTo pos (starEach es X.env)).any (·.1) = false := by rfl)
    (ht : eval (.Call (.Attribute o m apos) (e :: es) [] pos) X.env = (do
      let ov ← eval o X.env
      standAt apos.atName
      let (f, first) ← holding [ov] (getMethod ov m pl)
      callWith pos f first (backTo pos (starEach (e :: es) X.env)) (backToKw pos (keywordEach [] X.env))) := by rfl) :
    PE X (.Call (.Attribute o m apos) (e :: es) [] pos) (tMeth C m sp [] E0 ta t) := by
  obtain ⟨f, fd, hm, hb, F⟩ := h.ex
  exact pe_meth he c hm F hr hb .nil pass0 ha hst hpl ht
theorem pe_hasM0 {pl : Sem Bool} (c : Cls X.K C) (h : HasM X.prog X.w X.K X.mg X.base C k m ps sp) (hr : Room k X.A) (he : PE X o ta)
    (ht : eval (.Call (.Attribute o m apos) [] [] pos) X.env = (do
      let ov ← eval o X.env
      standAt apos.atName
      let (f, first) ← holding [ov] (getMethod ov m pl)
      callWith pos f first (backTo pos (starEach [] X.env)) (backToKw pos (keywordEach [] X.env))) := by rfl) :
    PE X (.Call (.Attribute o m apos) [] [] pos) (tMeth C m sp [] E0 ta tNil) := by
  obtain ⟨f, fd, hm, hb, F⟩ := h.ex
  exact pe_meth0 he c hm F hr hb .nil pass0 ht
theorem pe_hasI (h : HasI X.prog X.w X.K X.mg X.base C k x ps sp) (hr : Room (k + 1) X.A) (hg : Gl X x) (ha : PA X (e :: es) t)
    (hdb : (x == ("__debug__" : Str)) = false := by decide) (he : starEach (e :: es) X.env = (false, eval e X.env) :: starEach es X.env := by rfl) (hpl : (backTo pos (starEach es X.env)).any (·.1) = false := by rfl) :
    PE X (.Call (.Name x p) (e :: es) [] pos) (tMake C sp [] E0 t) := by
  obtain ⟨f, fd, hm, M, hb, F⟩ := h.ex
  exact pe_make M F hr hg hm hb .nil pass0 ha hdb he hpl
theorem pe_fldK {K : PySem.W.Frag} {f : Str} (h : X.K = K) (he : PE X e ta) (hb : attributeBase e f X.env (eval e X.env) = eval e X.env) : PE X (.Attribute e f pos) (tFld K ta f) := h ▸ pe_fld he hb
/-- what is never reached -/
theorem ps_never {st : Stmt} : PS X st (fun _ _ _ => False) := ⟨fun _ _ _ _ _ _ h => h.elim⟩
/-- xs[i], for xs[i] += .. -/
theorem get_list : PGet X (rIxL X.K) := by
  intro pins s σ H x y v u Q I rx ry h
  obtain ⟨p, xs, i, z, rfl, rfl, hq, he, q⟩ := h
  cases rx
  obtain ⟨t, rfl⟩ := ry
  obtain ⟨its, r, pl, hz⟩ := I.list hq
  obtain ⟨j, h1, h2, h3, h4, h5⟩ := atI_get he
  obtain ⟨w, ew, rw'⟩ := r.get h2
  have hl := r.length
  have hn := line63
  have fin : EP X pins σ Q w s := ⟨z, H, I, rw', q⟩
  by_cases h0 : 0 ≤ i
  · have hj : i.toNat = j := by
      rw [seqIndex_of h0 h5] at h1
      exact Option.some.inj h1
    exact wpAny_getItem_list pl.isList h0 (by omega) (by rw [hj]; simpa using ew) fin
  · have hj : (i + (its.toArray.size : Int)).toNat = j := by
      rw [seqIndex_neg (by omega) h4] at h1
      rw [List.size_toArray, ← hl]
      exact Option.some.inj h1
    exact wpAny_getItem_list_neg pl.isList (by omega) (by rw [List.size_toArray] <;> omega) (by omega) (by rw [hj]; simpa using ew) fin
end
section
variable {P : Program} {w : World} {K : PySem.W.Frag} {mg : Str → Option Value} {base : Heap} {C : Addr}
theorem has_ofM {m qual : Str} {st : Stmt} {N ps : List Str} {k : Nat} {sp : Sp} (A : MethAt K C m qual st) (S : FnScope N ps (defScope st))
    (B : ∀ (kV doc pm : Value) (an : Option Addr) (cdv ct : Value) (us : List Value), us.length = ps.length → bindArgs (PySem.W.fnOf m qual (defArgs st) (defBody st) (defScope st) .none kV doc pm an cdv ct) ⟨us, []⟩ = pure (ps.zip us))
    (len : ∀ vs H Q E, sp vs H Q E → vs.length = ps.length)
    (hbody : ∀ (f : Addr) (cdv : Value) (A : Around) (outer : List Env) (s : Shared) (H : Hp) (vs : List V) (Q : VK) (E : XK), Room k (A.deeper (envOfC qual (defScope st) s.heap.objs.size f cdv)) → sp vs H Q E →
      ∃ t, PSs (cxOf CX0 P w K mg base N qual (defScope st) f cdv A outer s H E).nox (defBody st) t ∧ t { nx := fun _ H' => Q .non H', rt := Q } (start N vs) H) : HasM P w K mg base C (k + 1) m ps sp := by
  obtain ⟨f, fd, hm, F⟩ := A.ex
  exact ⟨f, fd, hm, F.binds B, F.ok S len fun cdv A outer s H vs Q E hr h => hbody f cdv A outer s H vs Q E hr h⟩
theorem has_ofI {x qual : Str} {st : Stmt} {N ps : List Str} {k : Nat} {sp : Sp} (hg : mg x = some (.ref C)) (A : InitAt K C qual st) (S : FnScope N ps (defScope st))
    (B : ∀ (kV doc pm : Value) (an : Option Addr) (cdv ct : Value) (us : List Value), us.length = ps.length → bindArgs (PySem.W.fnOf "__init__" qual (defArgs st) (defBody st) (defScope st) .none kV doc pm an cdv ct) ⟨us, []⟩ = pure (ps.zip us))
    (len : ∀ vs H Q E, sp vs H Q E → vs.length = ps.length)
    (hbody : ∀ (f : Addr) (cdv : Value) (A : Around) (outer : List Env) (s : Shared) (H : Hp) (vs : List V) (Q : VK) (E : XK), Room k (A.deeper (envOfC qual (defScope st) s.heap.objs.size f cdv)) → sp vs H Q E →
      ∃ t, PSs (cxOf CX0 P w K mg base N qual (defScope st) f cdv A outer s H E).nox (defBody st) t ∧ t { nx := fun _ H' => Q .non H', rt := Q } (start N vs) H) : HasI P w K mg base C (k + 1) x ps sp := by
  obtain ⟨f, fd, hm, F⟩ := A.ex
  exact ⟨f, fd, hg, hm, F.binds B, F.ok S len fun cdv A outer s H vs Q E hr h => hbody f cdv A outer s H vs Q E hr h⟩
end

structure Top (K : PySem.W.Frag) (mg : Str → Option Value) (cs : Nat → Addr) : Prop where
  d_net_knot : At K mg "net_knot" s_net_knot
  d__law_begun : At K mg "_law_begun" s__law_begun
  d__law_draw : At K mg "_law_draw" s__law_draw
  d__law_pick : At K mg "_law_pick" s__law_pick
  d__law_marks : At K mg "_law_marks" s__law_marks
  d__law_is_so : At K mg "_law_is_so" s__law_is_so
  d__law_named : At K mg "_law_named" s__law_named
  d__law_is_held : At K mg "_law_is_held" s__law_is_held
  d_law : At K mg "law" s_law
  g_Net : mg "Net" = some (.ref (cs 0))
  cl_Net : Cls K (cs 0)
  i_Net : InitAt K (cs 0) "Net.__init__" s_Net___init__
  m_Net_merged : MethAt K (cs 0) "merged" "Net.merged" s_Net_merged
  m_Net__high_and_low : MethAt K (cs 0) "_high_and_low" "Net._high_and_low" s_Net__high_and_low
  m_Net__name : MethAt K (cs 0) "_name" "Net._name" s_Net__name
  n_Net__first : NoAttr K (cs 0) "_first"
  n_Net_named : NoAttr K (cs 0) "named"
  n_Net_said : NoAttr K (cs 0) "said"
  b_tuple : mg "tuple" = none
  b_len : mg "len" = none
  b_range : mg "range" = none
  b_abs : mg "abs" = none
  b_dict : mg "dict" = none
  b_sum : mg "sum" = none
  b_sorted : mg "sorted" = none
  b_min : mg "min" = none
theorem bd_Net___init__ : ∀ (kV doc pm : Value) (an : Option Addr) (cdv ct : Value) (us : List Value), us.length = (["self", "first"] : List Str).length → bindArgs (PySem.W.fnOf "__init__" "Net.__init__" (defArgs s_Net___init__) (defBody s_Net___init__) (defScope s_Net___init__) .none kV doc pm an cdv ct) ⟨us, []⟩ = pure ((["self", "first"] : List Str).zip us) := fun _ _ _ _ _ _ us hl => match us, hl with | [_, _], _ => rfl
theorem bd_Net_merged : ∀ (kV doc pm : Value) (an : Option Addr) (cdv ct : Value) (us : List Value), us.length = (["self", "one", "other", "many"] : List Str).length → bindArgs (PySem.W.fnOf "merged" "Net.merged" (defArgs s_Net_merged) (defBody s_Net_merged) (defScope s_Net_merged) .none kV doc pm an cdv ct) ⟨us, []⟩ = pure ((["self", "one", "other", "many"] : List Str).zip us) := fun _ _ _ _ _ _ us hl => match us, hl with | [_, _, _, _], _ => rfl
theorem bd_Net__high_and_low : ∀ (kV doc pm : Value) (an : Option Addr) (cdv ct : Value) (us : List Value), us.length = (["self", "one", "other", "many"] : List Str).length → bindArgs (PySem.W.fnOf "_high_and_low" "Net._high_and_low" (defArgs s_Net__high_and_low) (defBody s_Net__high_and_low) (defScope s_Net__high_and_low) .none kV doc pm an cdv ct) ⟨us, []⟩ = pure ((["self", "one", "other", "many"] : List Str).zip us) := fun _ _ _ _ _ _ us hl => match us, hl with | [_, _, _, _], _ => rfl
theorem bd_Net__name : ∀ (kV doc pm : Value) (an : Option Addr) (cdv ct : Value) (us : List Value), us.length = (["self", "meaning"] : List Str).length → bindArgs (PySem.W.fnOf "_name" "Net._name" (defArgs s_Net__name) (defBody s_Net__name) (defScope s_Net__name) .none kV doc pm an cdv ct) ⟨us, []⟩ = pure ((["self", "meaning"] : List Str).zip us) := fun _ _ _ _ _ _ us hl => match us, hl with | [_, _], _ => rfl
/-! ### the draws -/
def spDraw : Sp := fun vs H Q _ => ∃ (t c : Addr) (m : Int) (n : Nat), vs = [.ref t, .int m] ∧ Tape H t c n ∧ n < 2 ^ 40 ∧ 0 < m ∧ m < 2 ^ 8000 ∧
  ∀ (H' : Hp) (r : Int), 0 ≤ r → r < m → Tape H' t c (n + 1) → Kp t H H' → Q (.int r) H'
theorem cell_at {ns : List Int} {spot : Int} (h0 : 0 < ns.length) (hs : 0 ≤ spot) : ∃ x, atI (ns.map V.int) (spot % ((ns.map V.int).length : Int)) = some (.int x) := by
  rw [List.length_map]
  have hp : (0 : Int) < (ns.length : Int) := by omega
  have h1 := Int.emod_nonneg spot (show (ns.length : Int) ≠ 0 by omega)
  have h2 := Int.emod_lt_of_pos spot hp
  have h3 : (spot % (ns.length : Int)).toNat < ns.length := by omega
  refine ⟨ns[(spot % (ns.length : Int)).toNat], at_of (j := (spot % (ns.length : Int)).toNat) (by omega) ?_⟩
  rw [List.getElem?_map, List.getElem?_eq_getElem h3]
  rfl
theorem log2_small {m : Int} (h0 : 0 < m) (h : m < 2 ^ 8000) : m.natAbs.log2 < 9000 := by
  have h2 : m.natAbs < 2 ^ 8000 := by
    have e : ((2 ^ 8000 : Nat) : Int) = (2 : Int) ^ 8000 := by rw [Int.natCast_pow]; rfl
    omega
  exact Nat.lt_of_lt_of_le (PySem.Flt.log2_lt_of (by decide) h2) (by decide)
theorem pow_ok {x spot : Int} {n : Nat} (h0 : 0 ≤ spot) (h1 : spot ≤ n) (h2 : n < 2 ^ 40) : CPow (x % 2147483647 + 69621 * spot + 48271) 17 := by
  have a := Int.emod_nonneg x (show (2147483647 : Int) ≠ 0 by decide)
  have b := Int.emod_lt_of_pos x (show (0 : Int) < 2147483647 by decide)
  refine ⟨by decide, by decide, ?_⟩
  have e : (2 : Nat) ^ 64 = 18446744073709551616 := by decide
  rw [e]
  omega
section
variable {P : Program} {w : World} {K : PySem.W.Frag} {mg : Str → Option Value} {base : Heap}
theorem has_draw {cs : Nat → Addr} (T : Top K mg cs) : Has P w K mg base 1 "_law_draw" ["_law_tape", "_law_many"] spDraw := by
  refine has_of T.d__law_draw sc__law_draw bd__law_draw (fun vs H Q E h => ?_) (fun f cdv A outer s H vs Q E hr h => ?_)
  · obtain ⟨t, c, m, n, rfl, _⟩ := h
    rfl
  · have hu := hu_of hr
    have nd := sc__law_draw.nd
    obtain ⟨t, c, m, n, rfl, ⟨ns, spot, left, tp, hs⟩, hn, hm, hm2, k⟩ := h
    refine ⟨_, (C8.pss_cut (ps_if (pt_cmpR op_lt (pe_dget hu (pv 0) pe_str (fun _ _ => rfl)) (pv 1) (nomark _)) (pss_cons (ps_par (i := 2) (j := 3) (by rfl) nd rfl rfl (by decide) rfl rfl (pa_cons (pe_dget hu (pv 0) pe_str (fun _ _ => rfl)) (pa_cons (pe_callB call_len_seq (by rfl) T.b_len (by decide +kernel) (pa_cons (pe_dget hu (pv 0) pe_str (fun _ _ => rfl)) pa_nil)) pa_nil)) (by rfl))
    (pss_cons (ps_asg (pe_tup (pa_cons (pe_ix ix_list (pe_dget hu (pv 0) pe_str (fun _ _ => rfl)) (pe_op op_mod (pv 2) (pv 3)) (fun _ _ => rfl)) (pa_cons (pe_op op_add (pv 2) pe_int) pa_nil))) (pg_tup (by rfl) (pgs_cons (pg_name (i := 4) nd rfl (.inl rfl)) (pgs_cons (pg_sub (pv 0) pe_str (set_dict hu)) pgs_nil))))
    (pss_cons (ps_dput hu (pv 0) pe_str (pe_op op_mod (pe_op op_pow (pe_op op_add (pe_op op_add (pe_op op_mod (pv 4) pe_int) (pe_op op_mul pe_int (pv 2))) pe_int) pe_int) (pe_op op_add (pe_op op_pow pe_int pe_int) pe_int)) rfl)
    (pss_one (ps_if (PW.pt (pw_and (pt_cmpR op_ge (pv 4) (pe_op op_pow pe_int pe_int) (nomark _)) (pw_and1 (pt_cmpR op_lt (pv 2) (pv 3) (nomark _))))) (pss_one (ps_dput hu (pv 0) pe_str (pe_op op_sub (pv 4) (pe_op op_pow pe_int pe_int)) rfl)) pss_nil))))) pss_nil)
    (pss_cons (ps_asg (pe_tup (pa_cons (pe_op op_mod (pe_dget hu (pv 0) pe_str (fun _ _ => rfl)) (pv 1)) (pa_cons (pe_op op_fdivW (pe_dget hu (pv 0) pe_str (fun _ _ => rfl)) (pv 1)) pa_nil))) (pg_tup (by rfl) (pgs_cons (pg_name (i := 5) nd rfl (.inl rfl)) (pgs_cons (pg_sub (pv 0) pe_str (set_dict hu)) pgs_nil))))
    (pss_one (ps_ret (pv 5))))), ?_⟩
    refine ⟨fun σ' H' => ∃ (v2 v3 v4 v5 : Option V) (spot' left' : Int), σ' = [some (.ref t), some (.int m), v2, v3, v4, v5] ∧ TapeC H' t c ns spot' left' ∧ spot' ≤ ((n + 1 : Nat) : Int) ∧ Kp t H H', ?_, ?_⟩
    · refine ⟨_, rfl, t, _, rfl, dg_left tp.d, _, rfl, _, _, rfl, rfl, _, rfl, ite2 (fun _ => ?_) (fun _ => ?_)⟩
      · obtain ⟨x, hx⟩ := cell_at tp.ne tp.s0
        refine ⟨_, rfl, t, _, rfl, dg_spot tp.d, _, rfl, t, _, rfl, dg_cells tp.d, c, _, rfl, .inl (SqL.of tp.l), _, _, rfl, ?_⟩
        refine ⟨_, rfl, t, _, rfl, dg_cells tp.d, _, rfl, _, rfl, _, _, rfl, rfl, ?_, c, _, _, _, rfl, rfl, SqL.of tp.l, hx, _, rfl, _, _, rfl, rfl, by show 2 ≤ sizeLine; decide, fun p hp => ?_⟩
        · show (0 : Int) < ((ns.map V.int).length : Int)
          rw [List.length_map]
          have := tp.ne
          omega
        have h1 : (upd H p (.tup [.int x, .int (spot + 1)])) t = some (.dK (tk c spot left)) := by
          rw [upd_ne (ne_of_none tp.d hp)]
          exact tp.d
        refine ⟨p, _, rfl, SqT.of upd_same, rfl, _, _, rfl, _, _, rfl, _, rfl, t, _, rfl, dp_spot _ h1, rfl, ?_⟩
        have c1 : (upd (upd H p (.tup [.int x, .int (spot + 1)])) t (.dK (tk c (spot + 1) left))) c = some (.lst (ns.map V.int)) := by
          rw [upd_ne (show c ≠ t from ne_of tp.l tp.d (by intro z; cases z)), upd_ne (ne_of_none tp.l hp)]
          exact tp.l
        refine ⟨_, rfl, _, _, rfl, rfl, by show (0 : Int) < 2147483647; decide, _, rfl, _, _, rfl, rfl, .inl ⟨by decide, by decide⟩, _, _, rfl, rfl, _, _, rfl, rfl, _, _, rfl, rfl, pow_ok tp.s0 hs hn, _, _, rfl, rfl, ⟨by decide, by decide, by decide⟩, _, _, rfl, rfl, _, _, rfl, rfl, ?_, _, rfl, t, _, rfl, dp_left _ upd_same, ?_⟩
        · show (0 : Int) < 10 ^ (50 : Int).toNat + 151
          decide
        have kp : ∀ z, Kp t H (upd (upd (upd H p (.tup [.int x, .int (spot + 1)])) t (.dK (tk c (spot + 1) left))) t (.dK (tk c (spot + 1) z))) := fun z => ((Kp.new hp).trans Kp.at).trans Kp.at
        have tq : ∀ z, 0 ≤ z → TapeC (upd (upd (upd H p (.tup [.int x, .int (spot + 1)])) t (.dK (tk c (spot + 1) left))) t (.dK (tk c (spot + 1) z))) t c ns (spot + 1) z := fun z hz =>
          ⟨upd_same, by rw [upd_ne (show c ≠ t from ne_of tp.l tp.d (by intro z; cases z))]; exact c1, tp.ne, tp.lt, by have := tp.s0; omega, hz⟩
        have h0 : ∀ a : Int, 0 ≤ a % (10 ^ (50 : Int).toNat + 151) := fun a => Int.emod_nonneg _ (by decide)
        refine ⟨_, rfl, _, _, rfl, rfl, ⟨by decide, by decide, by decide⟩, _, _, rfl, rfl, _, rfl, ite2 (fun hc => ?_) (fun _ => iteF ?_)⟩
        · refine ⟨_, rfl, _, rfl, _, _, rfl, rfl, _, rfl, ite2 (fun _ => ?_) (fun _ => ?_)⟩
          · refine ⟨_, rfl, _, _, rfl, rfl, ⟨by decide, by decide, by decide⟩, _, _, rfl, rfl, _, rfl, t, _, rfl, dp_left _ upd_same, ?_⟩
            have hz : (10 : Int) ^ (18 : Int).toNat ≤ x := of_decide_eq_true hc
            exact ⟨_, _, _, _, spot + 1, x - 10 ^ (18 : Int).toNat, rfl, ⟨upd_same, by rw [upd_ne (show c ≠ t from ne_of tp.l tp.d (by intro z; cases z))]; exact (tq _ (h0 _)).l, tp.ne, tp.lt, by have := tp.s0; omega, by omega⟩, by omega, (kp _).trans Kp.at⟩
          · exact ⟨_, _, _, _, _, _, rfl, tq _ (h0 _), by omega, kp _⟩
        · exact ⟨_, _, _, _, _, _, rfl, tq _ (h0 _), by omega, kp _⟩
      · exact ⟨_, _, _, _, _, _, rfl, tp, by omega, Kp.refl _⟩
    · rintro σ' H' ⟨v2, v3, v4, v5, spot', left', rfl, tp', hs', kp⟩
      refine ⟨_, rfl, t, _, rfl, dg_left tp'.d, _, rfl, _, _, rfl, rfl, hm, _, rfl, t, _, rfl, dg_left tp'.d, _, rfl, _, _, rfl, rfl, ⟨hm, ?_⟩, by show 2 ≤ sizeLine; decide, fun p hp => ?_⟩
      · exact log2_small hm hm2
      have h1 : ∀ o, (upd H' p o) t = some (.dK (tk c spot' left')) := fun o => by
          rw [upd_ne (ne_of_none tp'.d hp)]
          exact tp'.d
      refine ⟨p, _, rfl, SqT.of upd_same, rfl, _, _, rfl, _, _, rfl, _, rfl, t, _, rfl, dp_left _ (h1 _), rfl, ?_⟩
      refine ⟨_, rfl, k _ _ (Int.emod_nonneg _ (by omega)) (Int.emod_lt_of_pos _ hm) ?_ ?_⟩
      · exact ⟨ns, spot', _, ⟨upd_same, by rw [upd_ne (show c ≠ t from ne_of tp'.l tp'.d (by intro z; cases z)), upd_ne (ne_of_none tp'.l hp)]; exact tp'.l, tp'.ne, tp'.lt, tp'.s0, Int.ediv_nonneg tp'.l0 (by omega)⟩, hs'⟩
      · exact (kp.trans (Kp.new hp)).trans Kp.at
/-- a pick from a list or a tuple -/
def spPick (K : PySem.W.Frag) : Sp := fun vs H Q _ => ∃ (t c a : Addr) (xs : List V) (n : Nat), vs = [.ref t, .ref a] ∧ Tape H t c n ∧ n < 2 ^ 40 ∧ (∀ H', Kp t H H' → SqL K H' a xs ∨ SqT K H' a xs) ∧ 0 < xs.length ∧ xs.length ≤ 1000000 ∧
  ∀ (H' : Hp) (i : Nat) (v : V), xs[i]? = some v → Tape H' t c (n + 1) → Kp t H H' → Q v H'
theorem has_pick {cs : Nat → Addr} (T : Top K mg cs) (h__law_draw : Has P w K mg base 1 "_law_draw" ["_law_tape", "_law_many"] spDraw) : Has P w K mg base 2 "_law_pick" ["_law_tape", "_law_some"] (spPick K) := by
  refine has_of T.d__law_pick sc__law_pick bd__law_pick (fun vs H Q E h => ?_) (fun f cdv A outer s H vs Q E hr h => ?_)
  · obtain ⟨t, c, a, xs, n, rfl, _⟩ := h
    rfl
  · have hu := hu_of hr
    have nd := sc__law_pick.nd
    obtain ⟨t, c, a, xs, n, rfl, tp, hn, hs, h0, h1, k⟩ := h
    refine ⟨_, (pss_one (ps_ret (pe_ix ix_seq (pv 1) (pe_has h__law_draw (hr.mono (by omega)) (by rfl) (pa_cons (pv 0) (pa_cons (pe_callB call_len_seq (by rfl) T.b_len (by decide +kernel) (pa_cons (pv 1) pa_nil)) pa_nil))) (fun _ _ => rfl)))), ?_⟩
    refine ⟨_, rfl, _, rfl, _, rfl, a, xs, rfl, hs H (Kp.refl _), t, c, _, n, rfl, tp, hn, by omega, ?_, fun H' r r0 r1 tp' kp => ?_⟩
    · exact Int.lt_of_le_of_lt (Int.ofNat_le.mpr h1) (by decide +kernel)
    have hi : r.toNat < xs.length := by omega
    have g : xs[r.toNat]? = some xs[r.toNat] := List.getElem?_eq_getElem hi
    rcases hs H' kp with z | z
    · exact .inl ⟨a, xs, r, _, rfl, rfl, z, at_of (by omega) g, k H' _ _ g tp' kp⟩
    · exact .inr (.inl ⟨a, xs, r, _, rfl, rfl, z, at_of (by omega) g, k H' _ _ g tp' kp⟩)
/-- the tape's beginning -/
def spBegun (K : PySem.W.Frag) : Sp := fun vs H Q _ => ∃ (a : Addr) (ns : List Int), vs = [.ref a] ∧ SqL K H a (ns.map V.int) ∧ ns.length ≤ 63 ∧
  ∀ (H' : Hp) (t c : Addr), H t = none → H c = none → Same H H' → Tape H' t c 0 → Q (.ref t) H'
theorem has_begun {cs : Nat → Addr} (T : Top K mg cs) : Has P w K mg base 1 "_law_begun" ["_law_script"] (spBegun K) := by
  refine has_of T.d__law_begun sc__law_begun bd__law_begun (fun vs H Q E h => ?_) (fun f cdv A outer s H vs Q E hr h => ?_)
  · obtain ⟨a, ns, rfl, _⟩ := h
    rfl
  · have hu := hu_of hr
    have nd := sc__law_begun.nd
    obtain ⟨a, ns, rfl, hS, hl, k⟩ := h
    refine ⟨_, (pss_one (ps_ret (pe_disp (pps_cons pe_str (pe_orT (pe_slice sl_list (pv 0) po_none (po_some pe_int)) (pe_one (pe_lst (pa_cons pe_int pa_nil)))) (pps_cons pe_str pe_int (pps_cons pe_str pe_int pps_nil))) (by rfl) (by rfl) (fun z => by cases z) (by decide)))), ?_⟩
    intro t ht
    have s1 := same_new (o := .dK []) ht
    refine ⟨_, rfl, 63, rfl, a, _, rfl, s1.seq hS, fun q hq => ?_⟩
    have ec : cutV (ns.map V.int) none (some 63) = ns.map V.int := by
      unfold cutV
      rw [HT.sIx_none, show HT.sIx (ns.map V.int).length (ns.map V.int).length (some 63) = min 63 (ns.map V.int).length from HT.sIx_nat _ _ 63, List.drop_zero, List.length_map]
      refine List.take_of_length_le ?_
      rw [List.length_map]
      omega
    rw [ec]
    have nqt : q ≠ t := fun e => by
      rw [e, upd_same] at hq
      cases hq
    have nq : H q = none := by
      rw [← hq, upd_ne nqt]
    cases hns : ns with
    | cons z zs =>
      refine ⟨true, .inl ⟨_, SqL.of upd_same, rfl⟩, iteT ?_⟩
      refine ⟨by rw [upd_ne nqt.symm]; exact upd_same, tk q 0 0, rfl, by show 3 ≤ 15; decide, ?_⟩
      refine k _ t q ht nq (fun b o e => ?_) ⟨z :: zs, 0, 0, ⟨upd_same, by rw [upd_ne nqt]; exact upd_same, by rw [List.length_cons]; omega, by rw [← hns]; exact hl, by decide, by decide⟩, by decide⟩
      rw [upd_ne (ne_of_none e ht), upd_ne (ne_of_none e nq), upd_ne (ne_of_none e ht)]
      exact e
    | nil =>
      refine ⟨false, .inl ⟨_, SqL.of upd_same, rfl⟩, iteF ?_⟩
      refine ⟨by show 1 ≤ sizeLine; decide, fun p hp => ?_⟩
      have npq : p ≠ q := fun e => by
        rw [e, upd_same] at hp
        cases hp
      have npt : p ≠ t := fun e => by
        rw [e, upd_ne nqt.symm, upd_same] at hp
        cases hp
      have np : H p = none := by
        rw [← hp, upd_ne npq, upd_ne npt]
      refine ⟨by rw [upd_ne npt.symm, upd_ne nqt.symm]; exact upd_same, tk p 0 0, rfl, by show 3 ≤ 15; decide, ?_⟩
      refine k _ t p ht np (fun b o e => ?_) ⟨[0], 0, 0, ⟨upd_same, by rw [upd_ne npt]; exact upd_same, by decide, by decide, by decide, by decide⟩, by decide⟩
      rw [upd_ne (ne_of_none e ht), upd_ne (ne_of_none e np), upd_ne (ne_of_none e nq), upd_ne (ne_of_none e ht)]
      exact e
end

/-! ### steps by clauses, as plain functions -/
def tru (on : List Int) : List (Key × V) := on.map fun k => ((Sum.inl k : Key), V.bl true)
def ins (on : List Int) (k : Int) : List Int := if k ∈ on then on else on ++ [k]
theorem tru_val (on : List Int) (k : Int) : valV (tru on) (Sum.inl k : Key) = if k ∈ on then some (V.bl true) else none := by
  induction on with
  | nil => rfl
  | cons a r ih =>
    show valV (((Sum.inl a : Key), V.bl true) :: tru r) (Sum.inl k : Key) = _
    by_cases h : a = k
    · rw [valV_pos (by rw [h]), if_pos (by rw [h]; exact List.mem_cons_self)]
    · rw [valV_neg (fun e => h (Sum.inl.inj e)), ih]
      by_cases hm : k ∈ r
      · rw [if_pos hm, if_pos (List.mem_cons_of_mem _ hm)]
      · rw [if_neg hm, if_neg]
        intro z
        rcases List.mem_cons.mp z with e | e
        · exact h e.symm
        · exact hm e
theorem tru_some (on : List Int) (k : Int) : (valV (tru on) (Sum.inl k : Key)).isSome = decide (k ∈ on) := by
  rw [tru_val]
  by_cases h : k ∈ on
  · rw [if_pos h, decide_eq_true h]
    rfl
  · rw [if_neg h, decide_eq_false h]
    rfl
theorem tru_put (on : List Int) (k : Int) : putK (tru on) (Sum.inl k : Key) (V.bl true) = tru (ins on k) := by
  unfold ins
  by_cases h : k ∈ on
  · rw [if_pos h]
    unfold putK
    rw [if_pos (by rw [valV_any, tru_some, decide_eq_true h])]
    unfold tru
    rw [List.map_map]
    refine List.map_congr_left fun a ha => ?_
    show (if ((Sum.inl a : Key), V.bl true).1 = Sum.inl k then _ else _) = _
    by_cases e : (Sum.inl a : Key) = Sum.inl k
    · rw [if_pos e]
    · rw [if_neg e]
  · rw [if_neg h, putK_new _ (by rw [tru_val, if_neg h])]
    unfold tru
    rw [List.map_append]
    rfl
theorem tru_merge : ∀ (b a : List Int), mergeK (tru a) (tru b) = tru (b.foldl ins a)
  | [], a => rfl
  | k :: r, a => by
    show mergeK (putK (tru a) (Sum.inl k : Key) (V.bl true)) (tru r) = _
    rw [tru_put, tru_merge r]
    rfl
theorem ins_len (on : List Int) (k : Int) : (ins on k).length ≤ on.length + 1 := by
  unfold ins
  split
  · omega
  · rw [List.length_append]
    exact Nat.le_refl _
theorem fold_len : ∀ (b a : List Int), (b.foldl ins a).length ≤ a.length + b.length
  | [], a => Nat.le_refl _
  | k :: r, a => by
    have h := fold_len r (ins a k)
    have h2 := ins_len a k
    show (r.foldl ins (ins a k)).length ≤ a.length + (r.length + 1)
    omega
/-- the marks of a clause that aren't off -/
def left (on c : List Int) : List Int := c.filter fun m => !decide (-m ∈ on)
/-- the clause of a number -/
def clAt (cs : List (List Int)) (r : Int) : Option (List Int) := if 0 ≤ r ∧ r < cs.length then cs[r.toNat]? else none
def step (cs : List (List Int)) (on : List Int) (r : Int) : Option (List Int) :=
  match clAt cs r with
  | none => none
  | some c => match left on c with
    | [x] => if x ∈ on then none else some (ins on x)
    | _ => none
def bring (cs : List (List Int)) : List Int → List Int → Option (List Int)
  | [], on => some on
  | r :: rs, on => match step cs on r with
    | none => none
    | some on' => bring cs rs on'
def broken (cs : List (List Int)) (on : List Int) (r : Int) : Bool :=
  match clAt cs r with
  | none => false
  | some c => (left on c).isEmpty
/-- what the program tells -/
def shownP (cs : List (List Int)) (ps rs : List Int) : Option Int → Bool
  | none => match rs.getLast? with
    | none => false
    | some r => match bring cs rs.dropLast (ps.foldl ins []) with
      | none => false
      | some on => broken cs on r
  | some m => match bring cs rs (ps.foldl ins []) with
    | none => false
    | some on => decide (m ∈ on)
/-- the law's own walk -/
def stepL (cs : List (List Int)) (on : List Int) (r : Int) : Option (List Int × Bool) :=
  match clAt cs r with
  | none => none
  | some c => if (left on c).length > 1 ∨ ((left on c).filter fun m => decide (m ∈ on)) ≠ [] then none else some ((left on c).foldl ins on, (left on c).isEmpty)
def walkL (cs : List (List Int)) : List Int → List Int → Bool → Option (List Int × Bool)
  | [], on, e => some (on, e)
  | r :: rs, on, e => if e = true then none else match stepL cs on r with
    | none => none
    | some (on', e') => walkL cs rs on' e'
def shownL (cs : List (List Int)) (ps rs : List Int) (m : Option Int) : Bool :=
  match walkL cs rs (ps.foldl ins []) false with
  | none => false
  | some (on, e) => match m with
    | none => e
    | some k => !e && decide (k ∈ on)
theorem stepL_of (cs : List (List Int)) (on : List Int) (r : Int) : stepL cs on r = match step cs on r with
    | some on' => some (on', false)
    | none => if broken cs on r = true then some (on, true) else none := by
  unfold stepL step broken
  cases clAt cs r with
  | none => rfl
  | some c =>
    show (if (left on c).length > 1 ∨ ((left on c).filter fun m => decide (m ∈ on)) ≠ [] then none else some ((left on c).foldl ins on, (left on c).isEmpty)) = match (match left on c with | [x] => if x ∈ on then none else some (ins on x) | _ => none) with
      | some on' => some (on', false)
      | none => if (left on c).isEmpty = true then some (on, true) else none
    cases left on c with
    | nil => simp
    | cons x r =>
      cases r with
      | nil =>
        by_cases h : x ∈ on
        · simp [h]
        · simp [h, ins]
      | cons y r => simp
theorem walk_ended (cs : List (List Int)) (rs on : List Int) : walkL cs rs on true = if rs = [] then some (on, true) else none := by
  cases rs with
  | nil => rfl
  | cons r rs => simp [walkL]
theorem walk_mark (cs : List (List Int)) (k : Int) : ∀ (rs on : List Int), (match walkL cs rs on false with
    | none => false
    | some (o, e) => !e && decide (k ∈ o)) = match bring cs rs on with
    | none => false
    | some o => decide (k ∈ o)
  | [], on => rfl
  | r :: rs, on => by
    simp only [walkL, bring]
    rw [if_neg Bool.false_ne_true, stepL_of]
    cases step cs on r with
    | some on' => exact walk_mark cs k rs on'
    | none =>
      by_cases hb : broken cs on r = true
      · simp only [hb, if_true]
        rw [walk_ended]
        cases rs with
        | nil => rfl
        | cons a b => rfl
      · simp only [hb]
        rfl
theorem walk_none (cs : List (List Int)) : ∀ (rs on : List Int), (match walkL cs rs on false with
    | none => false
    | some (_, e) => e) = match rs.getLast? with
    | none => false
    | some r => match bring cs rs.dropLast on with
      | none => false
      | some o => broken cs o r
  | [], on => rfl
  | [r], on => by
    simp only [walkL, bring, List.getLast?_singleton, List.dropLast_singleton]
    rw [if_neg Bool.false_ne_true, stepL_of]
    cases hs : step cs on r with
    | some on' =>
      have nb : broken cs on r = false := by
        unfold step at hs
        unfold broken
        cases hc : clAt cs r with
        | none => rfl
        | some c =>
          rw [hc] at hs
          simp only at hs ⊢
          cases hl : left on c with
          | nil =>
            rw [hl] at hs
            cases hs
          | cons x y => rfl
      rw [nb]
    | none =>
      by_cases hb : broken cs on r = true
      · simp only [hb, if_true]
      · simp only [hb]
        simp
  | r :: r2 :: rs, on => by
    have e1 : (r :: r2 :: rs).getLast? = (r2 :: rs).getLast? := by rw [List.getLast?_cons_cons]
    have e2 : (r :: r2 :: rs).dropLast = r :: (r2 :: rs).dropLast := rfl
    rw [e1, e2]
    simp only [bring]
    rw [show walkL cs (r :: r2 :: rs) on false = match stepL cs on r with | none => none | some (on', e') => walkL cs (r2 :: rs) on' e' by
      show (if false = true then none else _) = _
      rw [if_neg Bool.false_ne_true]]
    rw [stepL_of]
    cases step cs on r with
    | some on' => exact walk_none cs (r2 :: rs) on'
    | none =>
      have z : (match (r2 :: rs).getLast? with | none => false | some r => false) = false := by
        cases (r2 :: rs).getLast? <;> rfl
      by_cases hb : broken cs on r = true
      · simp only [hb, if_true]
        rw [walk_ended]
        simp only [reduceCtorEq, if_false]
        exact z.symm
      · simp only [hb]
        exact z.symm
theorem shown_eq (cs : List (List Int)) (ps rs : List Int) (m : Option Int) : shownL cs ps rs m = shownP cs ps rs m := by
  unfold shownL shownP
  cases m with
  | none => exact walk_none cs rs _
  | some k => exact walk_mark cs k rs _

/-! ### clauses as they stand in the heap -/
structure Cs (H : Hp) (a : Addr) (qs : List Addr) (cs : List (List Int)) : Prop where
  l : H a = some (.lst (qs.map V.ref))
  n : qs.length = cs.length
  t : ∀ (i : Nat) q c, qs[i]? = some q → cs[i]? = some c → H q = some (.tup (c.map V.int))
theorem Cs.same {H H' : Hp} {a : Addr} {qs : List Addr} {cs : List (List Int)} (h : Cs H a qs cs) (s : Same H H') : Cs H' a qs cs := ⟨s _ _ h.l, h.n, fun i q c hq hc => s _ _ (h.t i q c hq hc)⟩
theorem Cs.kp {H H' : Hp} {a d : Addr} {qs : List Addr} {cs : List (List Int)} {kvs : List (Key × V)} (h : Cs H a qs cs) (hd : H d = some (.dK kvs)) (k : Kp d H H') : Cs H' a qs cs :=
  ⟨k _ _ h.l (ne_of h.l hd (by intro z; cases z)), h.n, fun i q c hq hc => k _ _ (h.t i q c hq hc) (ne_of (h.t i q c hq hc) hd (by intro z; cases z))⟩
theorem clAt_some {cs : List (List Int)} {r : Int} {c : List Int} (h : clAt cs r = some c) : 0 ≤ r ∧ r < cs.length ∧ cs[r.toNat]? = some c := by
  unfold clAt at h
  split at h
  · rename_i e
    exact ⟨e.1, e.2, h⟩
  · cases h
theorem clAt_in {cs : List (List Int)} {r : Int} (h0 : 0 ≤ r) (h1 : r < cs.length) : ∃ c, clAt cs r = some c := by
  unfold clAt
  rw [if_pos ⟨h0, h1⟩]
  exact ⟨_, List.getElem?_eq_getElem (by omega)⟩
theorem Cs.at {H : Hp} {a : Addr} {qs : List Addr} {cs : List (List Int)} (h : Cs H a qs cs) {r : Int} {c : List Int} (hc : clAt cs r = some c) : ∃ q, atI (qs.map V.ref) r = some (.ref q) ∧ H q = some (.tup (c.map V.int)) := by
  obtain ⟨h0, h1, h2⟩ := clAt_some hc
  have hn := h.n
  have l : r.toNat < qs.length := by omega
  refine ⟨qs[r.toNat], at_of (j := r.toNat) (by omega) ?_, h.t _ _ _ (List.getElem?_eq_getElem l) h2⟩
  rw [List.getElem?_map, List.getElem?_eq_getElem l]
  rfl
theorem len_zero (l : List Int) : decide (V.int ((l.map V.int).length : Nat) = V.int 0) = l.isEmpty := by
  cases l with
  | nil => rfl
  | cons y r =>
    refine decide_eq_false fun z => ?_
    have z2 := V.int.inj z
    rw [List.length_map, List.length_cons] at z2
    omega
theorem drop_at {α : Type} {xs : List α} {i : Nat} {x : α} (h : xs[i]? = some x) : xs.drop i = x :: xs.drop (i + 1) := by
  obtain ⟨l, e⟩ := List.getElem?_eq_some_iff.mp h
  rw [List.drop_eq_getElem_cons l, e]
theorem int_at {rs : List Int} {i : Nat} {x : V} (h : (rs.map V.int)[i]? = some x) : ∃ r, x = .int r ∧ rs[i]? = some r := by
  rw [List.getElem?_map] at h
  cases e : rs[i]? with
  | none =>
    rw [e] at h
    cases h
  | some r =>
    rw [e] at h
    exact ⟨r, (Option.some.inj h).symm, rfl⟩

/-! ### small things -/
theorem pick_int {zs : List Int} {i : Nat} {v : V} (h : (zs.map V.int)[i]? = some v) : ∃ z, v = .int z ∧ z ∈ zs := by
  obtain ⟨r, e, hr⟩ := int_at h
  exact ⟨r, e, List.mem_of_getElem? hr⟩
theorem seq_in {n : Nat} {i : Int} (h0 : 0 ≤ i) (h1 : i < n) : seqIndex? i n = some i.toNat := by
  have e : ixN n i = some i.toNat := by
    unfold ixN
    rw [if_pos h0, if_pos h1]
  exact (ixN_seq e).1
theorem pow8000 {x : Int} (h : x ≤ 1000000) : x < 2 ^ 8000 := Int.lt_of_le_of_lt h (by decide +kernel)
theorem Tape.sq {H : Hp} {t c p : Addr} {n : Nat} {xs : List V} (h : Tape H t c n) (e : H p = some (.lst xs)) {H' : Hp} (k : Kp t H H') : H' p = some (.lst xs) := k p _ e (by
  obtain ⟨ns, spot, left, tc, _⟩ := h
  exact ne_of e tc.d (by intro z; cases z))
theorem Tape.ne_lst' {H : Hp} {t c p : Addr} {n : Nat} {xs : List V} (h : Tape H t c n) (e : H p = some (.lst xs)) : p ≠ t := by
  obtain ⟨ns, spot, left, tc, _⟩ := h
  exact ne_of e tc.d (by intro z; cases z)
theorem getElem_snoc {α : Type} {xs : List α} {x y : α} {i : Nat} (h : (xs ++ [x])[i]? = some y) : (i < xs.length ∧ xs[i]? = some y) ∨ (i = xs.length ∧ x = y) := by
  by_cases c : i < xs.length
  · rw [List.getElem?_append_left c] at h
    exact .inl ⟨c, h⟩
  · rw [List.getElem?_append_right (by omega)] at h
    have l := (List.getElem?_eq_some_iff.mp h).1
    simp only [List.length_cons, List.length_nil] at l
    have e : i - xs.length = 0 := by omega
    rw [e] at h
    exact .inr ⟨by omega, Option.some.inj h⟩
theorem same_mut {H H' : Hp} {D : Addr} {o : HO} (s : Same H H') (h : H D = none) : Same H (upd H' D o) := fun b u e => by
  rw [upd_ne (ne_of_none e h)]
  exact s b u e
theorem take_snoc {xs : List Int} {i : Nat} {x : Int} (h : xs[i]? = some x) : xs.take (i + 1) = xs.take i ++ [x] := by
  rw [List.take_add_one, h]
  rfl

/-! ### the law's own def, run where the law is asked: nothing is being shown there -/
def RunAt (P : Program) (w : World) (K : PySem.W.Frag) (mg : Str → Option Value) (base : Heap) (f : Addr) (fd : FuncData) (ps : List Str) (sp : Sp) : Prop :=
  ∀ (s : Shared) (H : Hp) (us : List Value) (vs : List V) (Q : VK) (E : XK), Env0 P w K mg base callerA [] s H → BindsTo s fd ⟨us, []⟩ (ps.zip us) → Vals vs us → sp vs H Q E → codeAny (model P w) callerA (.call (.ref f) ⟨us, []⟩) (CR CX0 [] P w H s Q E) s
section
variable {P : Program} {w : World} {K : PySem.W.Frag} {mg : Str → Option Value} {base : Heap}
theorem run_at {x qual : Str} {st : Stmt} {f : Addr} {fd : FuncData} {N ps : List Str} {k : Nat} {sp : Sp} (F : Fun K x qual st f fd) (S : FnScope N ps (defScope st)) (room : Room (k + 1) callerA) (len : ∀ vs H Q E, sp vs H Q E → vs.length = ps.length)
    (body : ∀ (cdv : Value) (s : Shared) (H : Hp) (vs : List V) (Q : VK) (E : XK), Room k (callerA.deeper (envOfC qual (defScope st) s.heap.objs.size f cdv)) → sp vs H Q E →
      ∃ t, PSs (cxOf CX0 P w K mg base N qual (defScope st) f cdv callerA [] s H E).nox (defBody st) t ∧ t { nx := fun _ H' => Q .non H', rt := Q } (start N vs) H) : RunAt P w K mg base f fd ps sp := by
  obtain ⟨oc, od, kV, doc, pm, an, cdv, ct, osl, rfl, lk, hcd⟩ := F.ex
  intro s H us vs Q E e0 hb r hsp
  have few := len _ _ _ _ hsp
  have kin : K.In s.heap := e0.mod.kin.keeps fun b o z => (e0.bs b o z).1
  have lim : s.heap.NoLimit := e0.mod.nolimit.keeps fun b o z => (e0.bs b o z).1
  have kinds : ∀ z ∈ ps.zip us, (defScope st).names.lookup z.1 = some .local ∨ ((defScope st).names.lookup z.1 = some .cell ∧ ((cellsFrom (s.heap.objs.size + 1) (defScope st).names []).lookup z.1).isSome = true) := by
    rintro ⟨n, v⟩ hz
    rcases S.par n (List.of_mem_zip hz).1 with z | z
    · exact .inl z
    · exact .inr ⟨z, PySem.W.cellsFrom_some _ _ _ (.inl z)⟩
  refine codeAny_call_function room.depth (kin _ _ lk) rfl S.co S.gen rfl (PySem.W.codeRec_of kin hcd) (hb _ _ _ _ ?_)
  refine wpAny_newFunctionEnv_cells S.kind kinds fun env he s1 z => ?_
  subst he
  refine ⟨lim.keeps z.toInCall.keep, codeAny_func ?_⟩
  obtain ⟨t, ht, hq⟩ := body cdv s H vs Q E (room.deeper _) hsp
  have I : Inv (cxOf CX0 P w K mg base N qual (defScope st) f cdv callerA [] s H E) [] (start N vs) H s1 := inv_start S room.hd e0 few r z
  refine wpAny_mono (ht.nox.run [] s1 (start N vs) H _ I hq) (fun fl s2 hs => ?_) fun e s2 hs => hs
  cases fl with
  | ret u =>
    obtain ⟨v, σ2, H2, J, rv, q⟩ := hs
    exact ⟨v, H2, J.os, J.bare, J.base, J.hok, rv, q⟩
  | next =>
    obtain ⟨σ2, H2, J, q⟩ := hs
    exact ⟨.non, H2, J.os, J.bare, J.base, J.hok, rfl, q⟩
  | brk =>
    obtain ⟨_, _, _, q⟩ := hs
    exact q.elim
  | cont =>
    obtain ⟨_, _, _, q⟩ := hs
    exact q.elim
theorem law_at {mb : Str → Option Value} {fa p : Addr} {fd : FuncData} {x : Str} {sp : Sp} {s1 : Shared} {vs : List Value} {ns : List Int}
    (kin : K.In s1.heap) (hns : s1.heap.Ns mainGlobals mg) (hb : s1.heap.Ns builtinsNs mb) (hbb : ∀ y : Str, y ≠ "__name__" → mb y = bootBuiltins y) (hlim : s1.heap.NoLimit) (hg : s1.gens = #[])
    (hp : s1.heap.get? p = some { cls := .type "list", data := .seq vs.toArray }) (hi : IntsAre vs ns) (few : ns.length ≤ sizeLine)
    (F : ∀ base : Heap, K.In base → base.Ns mainGlobals mg → RunAt P w K mg base fa fd [x] sp) (binds : ∀ (s : Shared) (u : Value), BindsTo s fd ⟨[u], []⟩ [(x, u)])
    (hsp : ∀ H : Hp, Only H → SqL K H p (ns.map V.int) → sp [.ref p] H (fun v _ => v = .bl true) fun _ _ _ => False) :
    codeAny (model P w) callerA (.call (.ref fa) ⟨[.ref p], []⟩) (fun r s2 => r = .ok (.ret (.bool true)) ∧ OldK s1.heap s2.heap ∧ s2.os = s1.os ∧ AllBare s2.gens) s1 := by
  have rv := vals_ints hi
  have core : ∀ H : Hp, Only H → SqL K H p (ns.map V.int) → HOk P w H s1.heap → (∀ b, H b ≠ none → b = p) → (H p ≠ none → K.lookup p = none) →
      codeAny (model P w) callerA (.call (.ref fa) ⟨[.ref p], []⟩) (fun r s2 => r = .ok (.ret (.bool true)) ∧ OldK s1.heap s2.heap ∧ s2.os = s1.os ∧ AllBare s2.gens) s1 := by
    intro H only seq hok one hK
    have below : ∀ {b : Addr} {o : Obj}, s1.heap.get? b = some o → H b = none → (hidT s1.heap H).get? b = some o := fun e n => hidT_get e n
    have dicts : ∀ {b : Addr} {o : Obj} {es : Array DictEntry} {ep : Nat}, s1.heap.get? b = some o → o.data = .dict es ep → H b = none := by
      intro b o es ep e d
      cases q : H b with
      | none => rfl
      | some u =>
        obtain rfl : b = p := one b (by rw [q]; simp)
        rw [hp] at e
        cases e
        cases (show Data.seq vs.toArray _ = Data.dict es ep from d)
    have spaces : ∀ {b : Addr} {m : Str → Option Value}, s1.heap.Ns b m → (hidT s1.heap H).Ns b m := by
      rintro b m ⟨o, es, ep, e, d, r⟩
      exact ⟨o, es, ep, below e (dicts e d), d, r⟩
    have kin2 : K.In (hidT s1.heap H) := fun b o e => by
      refine below (kin b o e) ?_
      cases q : H b with
      | none => rfl
      | some u =>
        obtain rfl : b = p := one b (by rw [q]; simp)
        rw [hK (by rw [q]; simp)] at e
        cases e
    have mod : Mod K mg (hidT s1.heap H) := by
      obtain ⟨mc, c1, c2⟩ := hlim
      exact ⟨kin2, spaces hns, ⟨mb, spaces hb, hbb⟩, ⟨mc, spaces c1, c2⟩⟩
    have e0 : Env0 P w K mg (hidT s1.heap H) callerA [] s1 H :=
      ⟨rfl, mod, fun b o e => of_hidT e, Nat.le_of_eq (hidT_size _ _), trivial, fun b z => absurd (show b ∈ ([] : List Addr) from z) (by simp), hok, .of_eq hg⟩
    refine codeAny_mono (F _ kin2 (spaces hns) s1 H [.ref p] [.ref p] _ _ e0 (binds s1 (.ref p)) (.cons rfl .nil) (hsp H only seq)) fun r s2 h => ?_
    cases r with
    | error e => exact h.elim
    | ok fl =>
      cases fl with
      | next => exact h.elim
      | brk => exact h.elim
      | cont => exact h.elim
      | ret u =>
        obtain ⟨v, H2, os, bare, un, hok2, rel, q⟩ := h
        obtain rfl : v = .bl true := q
        obtain rfl : u = Value.bool true := rel
        refine ⟨rfl, OldK.of_keep fun b o e => ?_, os, bare⟩
        cases q : H b with
        | none => exact un.keep b o e q (fun z => absurd (show b ∈ ([] : List Addr) from z) (by simp)) (by simp)
        | some u =>
          rcases only b with z | ⟨ob, xs, z⟩
          · rw [q] at z
            cases z
          · obtain ⟨a1, _⟩ := hok b _ z
            obtain ⟨a2, _⟩ := hok2 b _ (un.frzs b ob _ z)
            rw [e] at a1
            cases a1
            exact a2
  cases hk : K.lookup p with
  | some o =>
    have e := kin p o hk
    rw [hp] at e
    cases e
    have lv := hi.length
    refine core (fun _ => none) (fun _ => .inl rfl) (.inr ⟨_, vs.toArray, _, hk, rfl, rfl, rfl, ?_, by simpa using rv⟩) (fun b u z => ?_) (fun b z => absurd rfl z) fun z => absurd rfl z
    · rw [List.size_toArray, lv]
      exact few
    · cases (show (none : Option HO) = some u from z)
  | none =>
    refine core (fun b => if b = p then some (.frz { cls := .type "list", data := .seq vs.toArray } (.lst (ns.map V.int))) else none) (fun b => ?_) (.inl (.inr ⟨{ cls := .type "list", data := .seq vs.toArray }, if_pos rfl⟩)) (fun b u z => ?_) (fun b z => ?_) fun _ => hk
    · by_cases hb : b = p
      · exact .inr ⟨_, _, if_pos hb⟩
      · exact .inl (if_neg hb)
    · by_cases hb : b = p
      · subst hb
        cases (if_pos rfl).symm.trans z
        refine ⟨hp, ?_, vs, _, rv, hp⟩
        rw [List.length_map]
        exact few
      · cases (if_neg hb).symm.trans z
    · by_cases hb : b = p
      · exact hb
      · exact absurd (if_neg hb) z
end
theorem walk_at {l : PySem.W.OpenLaw} {n : Nat} {q : Program} {loose : List Str} {XP : (Str → Option Value) → Heap → Prop} {YP : World → Heap → Prop} {d : DefRec} {K : Params → PySem.W.Frag} {sp : World → Sp} {x : Str}
    (hn : l.most = some n) (hn2 : n ≤ sizeLine) (hdf : d.params.defaults = []) (hY : ∀ (w : World) (h : Heap), YP w h → (K w.params).In h)
    (F : ∀ (w : World) (mg : Str → Option Value) (fa : Addr) (h : Heap), (K w.params).In h → h.Ns mainGlobals mg → mg d.name = some (.ref fa) →
      ∃ fd : FuncData, (∀ (s : Shared) (u : Value), BindsTo s fd ⟨[u], []⟩ [(x, u)]) ∧ ∀ base : Heap, (K w.params).In base → base.Ns mainGlobals mg → RunAt l.prog w (K w.params) mg base fa fd [x] (sp w))
    (hsp : ∀ (w : World) (H : Hp) (a : Addr) (ns : List Int), ns.length ≤ n → Only H → SqL (K w.params) H a (ns.map V.int) → sp w [.ref a] H (fun v _ => v = .bl true) fun _ _ _ => False) :
    PySem.W.WalkO q loose XP YP l.row.toRowW d [] (fun f vs => PySem.call f vs) := by
  refine Att.attach_call hn hdf fun w s0 s1 mg mb fa o pm cd doc a vs ns G Y ho hd hcd hmg hobj hints hlen hg => ?_
  obtain ⟨fd, hb, hF⟩ := F w mg fa _ (hY w _ Y) G.T.g hmg
  exact law_at (hY w _ Y) G.T.g G.T.b G.T.builtins G.T.nolimit hg hobj hints (Nat.le_trans hlen hn2) hF hb fun H only seq => hsp w H a ns hlen only seq

/-! ### promises that hold where nothing is being shown -/
structure FnG (P : Program) (w : World) (K : PySem.W.Frag) (mg : Str → Option Value) (base : Heap) (k : Nat) (f : Addr) (fd : FuncData) (ps : List Str) (sp : Sp) : Prop where
  len : ∀ vs H Q E, sp vs H Q E → vs.length = ps.length
  run : ∀ (A : Around) (out : List Env) (s : Shared) (H : Hp) (us : List Value) (vs : List V) (Q : VK) (E : XK), Room k A → A.guards = some [] → Env0 P w K mg base A out s H → BindsTo s fd ⟨us, []⟩ (ps.zip us) → Vals vs us → sp vs H Q E →
    codeAny (model P w) A (.call (.ref f) ⟨us, []⟩) (CR CX0 out P w H s Q E) s
structure HasG (P : Program) (w : World) (K : PySem.W.Frag) (mg : Str → Option Value) (base : Heap) (k : Nat) (x : Str) (ps : List Str) (sp : Sp) : Prop where
  ex : ∃ f fd, mg x = some (.ref f) ∧ PySem.W.keepIn K (.ref f) = true ∧ Binds K fd ps [] ∧ FnG P w K mg base k f fd ps sp
section
variable {P : Program} {w : World} {K : PySem.W.Frag} {mg : Str → Option Value} {base : Heap}
theorem fnG {x qual : Str} {st : Stmt} {f : Addr} {fd : FuncData} {N ps : List Str} {k : Nat} {sp : Sp} (F : Fun K x qual st f fd) (S : FnScope N ps (defScope st)) (len : ∀ vs H Q E, sp vs H Q E → vs.length = ps.length)
    (body : ∀ (cdv : Value) (A : Around) (out : List Env) (s : Shared) (H : Hp) (vs : List V) (Q : VK) (E : XK), Room k (A.deeper (envOfC qual (defScope st) s.heap.objs.size f cdv)) → (A.deeper (envOfC qual (defScope st) s.heap.objs.size f cdv)).guards = some [] → sp vs H Q E →
      ∃ t, PSs (cxOf CX0 P w K mg base N qual (defScope st) f cdv A out s H E).nox (defBody st) t ∧ t { nx := fun _ H' => Q .non H', rt := Q } (start N vs) H) : FnG P w K mg base (k + 1) f fd ps sp := by
  obtain ⟨oc, od, kV, doc, pm, an, cdv, ct, osl, rfl, lk, hcd⟩ := F.ex
  refine ⟨len, fun A out s H us vs Q E room calm e0 hb r hsp => ?_⟩
  have few := len _ _ _ _ hsp
  have kin : K.In s.heap := e0.mod.kin.keeps fun b o z => (e0.bs b o z).1
  have lim : s.heap.NoLimit := e0.mod.nolimit.keeps fun b o z => (e0.bs b o z).1
  have kinds : ∀ z ∈ ps.zip us, (defScope st).names.lookup z.1 = some .local ∨ ((defScope st).names.lookup z.1 = some .cell ∧ ((cellsFrom (s.heap.objs.size + 1) (defScope st).names []).lookup z.1).isSome = true) := by
    rintro ⟨n, v⟩ hz
    rcases S.par n (List.of_mem_zip hz).1 with z | z
    · exact .inl z
    · exact .inr ⟨z, PySem.W.cellsFrom_some _ _ _ (.inl z)⟩
  refine codeAny_call_function room.depth (kin _ _ lk) rfl S.co S.gen rfl (PySem.W.codeRec_of kin hcd) (hb _ _ _ _ ?_)
  refine wpAny_newFunctionEnv_cells S.kind kinds fun env he s1 z => ?_
  subst he
  refine ⟨lim.keeps z.toInCall.keep, codeAny_func ?_⟩
  obtain ⟨t, ht, hq⟩ := body cdv A out s H vs Q E (room.deeper _) calm hsp
  have I : Inv (cxOf CX0 P w K mg base N qual (defScope st) f cdv A out s H E) [] (start N vs) H s1 := inv_start S room.hd e0 few r z
  refine wpAny_mono (ht.nox.run [] s1 (start N vs) H _ I hq) (fun fl s2 hs => ?_) fun e s2 hs => hs
  cases fl with
  | ret u =>
    obtain ⟨v, σ2, H2, J, rv, q⟩ := hs
    exact ⟨v, H2, J.os, J.bare, J.base, J.hok, rv, q⟩
  | next =>
    obtain ⟨σ2, H2, J, q⟩ := hs
    exact ⟨.non, H2, J.os, J.bare, J.base, J.hok, rfl, q⟩
  | brk =>
    obtain ⟨_, _, _, q⟩ := hs
    exact q.elim
  | cont =>
    obtain ⟨_, _, _, q⟩ := hs
    exact q.elim
theorem has_ofG {x : Str} {st : Stmt} {N ps : List Str} {k : Nat} {sp : Sp} (A : At K mg x st) (S : FnScope N ps (defScope st)) (B : BindsAll x st ps) (len : ∀ vs H Q E, sp vs H Q E → vs.length = ps.length)
    (body : ∀ (f : Addr) (cdv : Value) (A : Around) (out : List Env) (s : Shared) (H : Hp) (vs : List V) (Q : VK) (E : XK), Room k (A.deeper (envOfC x (defScope st) s.heap.objs.size f cdv)) → (A.deeper (envOfC x (defScope st) s.heap.objs.size f cdv)).guards = some [] → sp vs H Q E →
      ∃ t, PSs (cxOf CX0 P w K mg base N x (defScope st) f cdv A out s H E).nox (defBody st) t ∧ t { nx := fun _ H' => Q .non H', rt := Q } (start N vs) H) : HasG P w K mg base (k + 1) x ps sp := by
  obtain ⟨f, fd, hm, F⟩ := A.ex
  exact ⟨f, fd, hm, F.kp, F.binds B, fnG F S len fun cdv A out s H vs Q E hr hg h => body f cdv A out s H vs Q E hr hg h⟩
theorem FnG.at_ {f : Addr} {fd : FuncData} {ps : List Str} {k : Nat} {sp : Sp} (G : FnG P w K mg base k f fd ps sp) (room : Room k callerA) : RunAt P w K mg base f fd ps sp :=
  fun s H us vs Q E e0 hb r hsp => G.run callerA [] s H us vs Q E room rfl e0 hb r hsp
end
section
variable {X : Cx} {k : Nat} {x : Str} {ps : List Str} {sp : Sp} {e : Expr} {es : List Expr} {t : TA} {p pos : Pos}
theorem pe_hasG (h : HasG X.prog X.w X.K X.mg X.base k x ps sp) (hr : Room k X.A) (hgd : X.A.guards = some []) (hg : Gl X x) (ha : PA X (e :: es) t)
    (hdb : (x == ("__debug__" : Str)) = false := by decide) (he : starEach (e :: es) X.env = (false, eval e X.env) :: starEach es X.env := by rfl) (hpl : (backTo pos (starEach es X.env)).any (·.1) = false := by rfl) :
    PE X (.Call (.Name x p) (e :: es) [] pos) (tCall sp [] E0 t) := by
  obtain ⟨f, fd, hm, hk, hb, F⟩ := h.ex
  refine ⟨fun pins s σ H Q I hw => ?_⟩
  refine wpAny_Call_Name_kw (ld_glob I hg hm ?_ hdb)
  refine PySem.W.callWith_K (h₀ := X.base) I.ok.mod.kin hk (thn (ha.run pos pins s σ H _ I hw) fun us s1 ⟨vs, H1, I1, r1, q⟩ => ⟨I1.kIn, ?_⟩) he hpl
  have q : sp vs H1 Q E0 := by
    have z : sp (vs ++ []) H1 Q E0 := q
    rwa [List.append_nil] at z
  have bd := hb s1 us I1.kIn (by rw [List.append_nil, ← r1.length]; exact F.len _ _ _ _ q)
  rw [List.append_nil] at bd
  refine wpAny_call (codeAny_mono (F.run X.A X.stack s1 H1 us vs Q E0 hr hgd I1.env0 bd r1 q) fun r s2 hq => ?_)
  cases r with
  | error e => exact pass0 pins σ H1 s1 e s2 I1 hq
  | ok fl =>
    cases fl with
    | ret u => exact I1.after hq
    | next => exact hq.elim
    | brk => exact hq.elim
    | cont => exact hq.elim
end
/-! ### repr of None, of a whole number, of a list -/
structure Showy (x : PyData) : Prop where
  s : x.showable = true
  n : x.hasDict = false
  d : x.depth ≤ 60
  l : x.shown.length ≤ sizeLine
theorem call_reprV {X : Cx} (hgd : X.A.guards = some []) (hu : X.A.units + 64 < cLine) : CallR X (.builtin "repr") (fun xs H Q => (xs = [.non] ∧ Q (.str "None") H) ∨ (∃ i, xs = [.int i] ∧ i.natAbs.log2 < 1920 ∧ Q (.str (toString i)) H) ∨
    ∃ a d, xs = [.ref a] ∧ Dp X.K H (.ref a) d ∧ Showy d ∧ Q (.str d.shown) H) := by
  intro pins s σ H xs us Q I r h
  rcases h with ⟨rfl, q⟩ | ⟨i, rfl, hi, q⟩ | ⟨a, d, rfl, hd, sh, q⟩
  · obtain ⟨u, rfl, ru⟩ := vals1 r
    cases ru
    exact PySem.P.repr_of_none ⟨.str "None", H, I.tok _, ⟨_, rfl⟩, q⟩
  · obtain ⟨u, rfl, t, rfl⟩ := vals1 r
    exact PySem.P.repr_of_int hi ⟨.str (toString i), H, I.tok _, ⟨_, rfl⟩, q⟩
  · obtain ⟨u, rfl, ru⟩ := vals1 r
    cases ru
    obtain ⟨as, rd⟩ := Dp.reads I d (.ref a) (.ref a) hd rfl
    have h3 := sh.d
    exact repr_of_reads' (s := s) rd sh.s (fun z => by rw [sh.n] at z; cases z) hgd (by omega) (fun _ _ z => z) (fun h2 u tk k => ⟨.str d.shown, H, I.kept (t' := tk) k, ⟨_, rfl⟩, q⟩) sh.l

/-! ### rules: a text a few times, a tuple a few times -/
theorem op_repTK {X : Cx} {K : PySem.W.Frag} (h : X.K = K) : OpR X (binaryOp .Mult) (rRepT K) := h ▸ op_repT
def repS (k : Int) (z : Str) : Str := ⟨(List.replicate k.toNat z.cps).foldl (· ++ ·) #[]⟩
theorem op_repS {X : Cx} : OpR X (binaryOp .Mult) (fun x y H Q => ∃ (z : Str) (k : Int), x = .str z ∧ y = .int k ∧ 2 ≤ k ∧ k ≤ 1000 ∧ 1 ≤ z.length ∧ z.length ≤ 1000 ∧ (repS k z).length ≤ sizeLine ∧ Q (.str (repS k z)) H) := by
  intro pins s σ H x y v u Q I rx ry h
  obtain ⟨z, k, rfl, rfl, h1, h2, h3, h4, h5, q⟩ := h
  obtain ⟨t, rfl⟩ := rx
  obtain ⟨t', rfl⟩ := ry
  have c1 : ¬ k < 1 := by omega
  have c2 : (k == 1 || z.length == 0) = false := by
    rw [Bool.or_eq_false_iff]
    exact ⟨by simp; omega, by simp; omega⟩
  refine PySem.P.mul_str ?_ (fun _ _ => ?_) (fun _ _ => ?_) ?_
  · rw [Bool.or_eq_false_iff]
    exact ⟨decide_eq_false (by omega), decide_eq_false (by omega)⟩
  · have e : (1000 : Int) ≤ (2 ^ 63 - 1) / k := (Int.le_ediv_iff_mul_le (by omega)).mpr (by omega)
    omega
  · have e : z.length * k.toNat ≤ 1000 * 1000 := Nat.mul_le_mul h4 (by omega)
    have e2 : sizeLine = 16777216 := sizeLine_eq
    show decide (_ > sizeLine) = false
    refine decide_eq_false ?_
    omega
  · rw [if_neg c1, if_neg (by rw [c2]; exact Bool.false_ne_true)]
    exact ⟨h5, .str (repS k z), H, I.tok _, ⟨_, rfl⟩, q⟩
/-- a def whose promise can't be asked -/
theorem has_zero {P : Program} {w : World} {K : PySem.W.Frag} {mg : Str → Option Value} {base : Heap} {x : Str} {st : Stmt} {ps : List Str} {sp : Sp} (A : At K mg x st) (B : BindsAll x st ps) (no : ∀ vs H Q E, ¬ sp vs H Q E) : Has P w K mg base 0 x ps sp := by
  obtain ⟨f, fd, hm, F⟩ := A.ex
  exact ⟨f, fd, hm, F.kp, F.binds B, fun vs H Q E h => absurd h (no _ _ _ _), fun A out s H args us vs Q E _ _ _ _ h => absurd h (no _ _ _ _)⟩
/-! ### data made of tuples: they stay whatever becomes of lists -/
mutual
inductive Tp (H : Hp) : V → PyData → Prop
  | non : Tp H .non .none
  | bl (b : Bool) : Tp H (.bl b) (.bool b)
  | int (i : Int) : Tp H (.int i) (.int i)
  | str (x : Str) : Tp H (.str x) (.str x)
  | tup {a : Addr} {xs : List V} {ds : List PyData} : H a = some (.tup xs) → TpAll H xs ds → Tp H (.ref a) (.tuple ds)
inductive TpAll (H : Hp) : List V → List PyData → Prop
  | nil : TpAll H [] []
  | cons {v : V} {vs : List V} {d : PyData} {ds : List PyData} : Tp H v d → TpAll H vs ds → TpAll H (v :: vs) (d :: ds)
end
/-- tuples stay -/
def KT (H H' : Hp) : Prop := ∀ a xs, H a = some (.tup xs) → H' a = some (.tup xs)
theorem KT.refl {H : Hp} : KT H H := fun _ _ h => h
theorem KT.trans {H H1 H2 : Hp} (a : KT H H1) (b : KT H1 H2) : KT H H2 := fun c xs h => b c xs (a c xs h)
theorem KT.same {H H' : Hp} (s : Same H H') : KT H H' := fun a xs h => s a _ h
theorem KT.kp {H H' : Hp} {t c : Addr} {n : Nat} (tp : Tape H t c n) (k : Kp t H H') : KT H H' := fun a xs h => by
  obtain ⟨ns', sp', lf', tc, _⟩ := tp
  exact k _ _ h (ne_of h tc.d (by intro z; cases z))
theorem KT.lst {H : Hp} {D : Addr} {xs : List V} {o : HO} (h : H D = some (.lst xs)) : KT H (upd H D o) := fun a ys e => by
  rw [upd_ne (ne_of e h (by intro z; cases z))]
  exact e
theorem KT.new {H : Hp} {p : Addr} {o : HO} (h : H p = none) : KT H (upd H p o) := KT.same (same_new h)
mutual
theorem Tp.kt {H H' : Hp} (s : KT H H') : ∀ {v : V} {d : PyData}, Tp H v d → Tp H' v d
  | _, _, .non => .non
  | _, _, .bl b => .bl b
  | _, _, .int i => .int i
  | _, _, .str x => .str x
  | _, _, .tup h r => .tup (s _ _ h) (TpAll.kt s r)
theorem TpAll.kt {H H' : Hp} (s : KT H H') : ∀ {vs : List V} {ds : List PyData}, TpAll H vs ds → TpAll H' vs ds
  | _, _, .nil => .nil
  | _, _, .cons h r => .cons (Tp.kt s h) (TpAll.kt s r)
end
mutual
theorem Tp.dp {K : PySem.W.Frag} {H : Hp} : ∀ {v : V} {d : PyData}, Tp H v d → Dp K H v d
  | _, _, .non => .non
  | _, _, .bl b => .bl b
  | _, _, .int i => .int i
  | _, _, .str x => .str x
  | _, _, .tup h r => .tup (SqT.of h) (TpAll.dp r)
theorem TpAll.dp {K : PySem.W.Frag} {H : Hp} : ∀ {vs : List V} {ds : List PyData}, TpAll H vs ds → DpAll K H vs ds
  | _, _, .nil => .nil
  | _, _, .cons h r => .cons (Tp.dp h) (TpAll.dp r)
end
theorem TpAll.snoc {H : Hp} {v : V} {d : PyData} : ∀ {vs : List V} {ds : List PyData}, TpAll H vs ds → Tp H v d → TpAll H (vs ++ [v]) (ds ++ [d])
  | _, _, .nil, h => .cons h .nil
  | _, _, .cons a r, h => .cons a (r.snoc h)
theorem TpAll.app {H : Hp} {ws : List V} {es : List PyData} : ∀ {vs : List V} {ds : List PyData}, TpAll H vs ds → TpAll H ws es → TpAll H (vs ++ ws) (ds ++ es)
  | _, _, .nil, h => h
  | _, _, .cons a r, h => .cons a (r.app h)
theorem TpAll.len {H : Hp} : ∀ {vs : List V} {ds : List PyData}, TpAll H vs ds → vs.length = ds.length
  | _, _, .nil => rfl
  | _, _, .cons _ r => by rw [List.length_cons, List.length_cons, r.len]
theorem TpAll.get {H : Hp} : ∀ {vs : List V} {ds : List PyData} {i : Nat} {d : PyData}, TpAll H vs ds → ds[i]? = some d → ∃ v, vs[i]? = some v ∧ Tp H v d
  | _, _, _, _, .nil, e => by cases e
  | _, _, 0, _, .cons a _, e => ⟨_, rfl, by cases e; exact a⟩
  | _, _, i + 1, _, .cons _ r, e => r.get e
theorem tp_rep {H : Hp} {v : V} {d : PyData} (h : Tp H v d) : ∀ n, TpAll H (List.replicate n v) (List.replicate n d)
  | 0 => .nil
  | n + 1 => .cons h (tp_rep h n)
theorem Tp.new {H : Hp} {p : Addr} {xs : List V} {ds : List PyData} (n : H p = none) (r : TpAll H xs ds) : Tp (upd H p (.tup xs)) (.ref p) (.tuple ds) := .tup upd_same (r.kt (KT.new n))
theorem flat_one {v : V} : ∀ n : Nat, (List.replicate n [v]).flatten = List.replicate n v
  | 0 => rfl
  | n + 1 => by
    rw [List.replicate_succ, List.flatten_cons, flat_one n]
    rfl
/-! ### a comprehension over a range, whose items are new -/
section
variable {K : PySem.W.Frag} {tt : TT} {te : TE} {vs : List Nat} {σ : L2.St} {H : Hp} {D : Addr} {Qd : Hp → Prop} {j : Nat}
theorem lc_rangeC {lo c : Int} {n : Nat} {g : TG} (Pv : Nat → Hp → Prop) (h0 : Pv 0 (upd H D (.lst [])))
    (hs : ∀ i H, i < n → Pv i H → g (.int (lo + (i : Nat) * c)) (wipe σ vs) H fun σ2 H2 => wipe σ2 vs = wipe σ vs ∧ tt σ2 H2 fun b H3 =>
      if b = true then te σ2 H3 fun y H4 => ∃ acc, H4 D = some (.lst acc) ∧ acc.length < sizeLine ∧ Pv (i + 1) (upd H4 D (.lst (acc ++ [y]))) else Pv (i + 1) H3) (hd : ∀ H, Pv n H → Qd H) :
    ∃ W : Nat → Nat → Hp → Prop, (∃ m, W 0 m (upd H D (.lst []))) ∧ ∀ i m H, W i m H →
      ((Itc lo c n).stop i H ∧ Qd H) ∨ ((Itc lo c n).go i H ∧ ∃ Nx : Hp → Prop, (∀ H', Nx H' → ∃ m', m' < m ∧ W (i + 1) m' H') ∧ ∀ x H', (Itc lo c n).yld i H x H' → g x (wipe σ vs) H' fun σ2 H2 => wipe σ2 vs = wipe σ vs ∧ tt σ2 H2 fun b H3 =>
        if b = true then te σ2 H3 fun y H4 => ∃ acc, H4 D = some (.lst acc) ∧ acc.length < sizeLine ∧ Nx (upd H4 D (.lst (acc ++ [y]))) else Nx H3) := by
  refine ⟨fun i m H => m = n - i ∧ i ≤ n ∧ Pv i H, ⟨n, by simp, Nat.zero_le _, h0⟩, ?_⟩
  rintro i m H ⟨rfl, hi, p⟩
  by_cases hlt : i < n
  · refine .inr ⟨hlt, Pv (i + 1), fun H' p' => ⟨n - (i + 1), by omega, rfl, hlt, p'⟩, fun x H' y => ?_⟩
    obtain ⟨rfl, rfl⟩ := y
    exact hs i H' hlt p
  · have e : i = n := by omega
    subst e
    exact .inl ⟨Nat.le_refl _, hd H p⟩
/-- what stands at a turn: so many items that are data -/
structure TpT (H H' : Hp) (D : Addr) (ds : List PyData) : Prop where
  s : Same H H'
  ex : ∃ xs, H' D = some (.lst xs) ∧ TpAll H' xs ds
theorem TpT.new (hD : H D = none) : TpT H (upd H D (.lst [])) D [] := ⟨same_new hD, [], upd_same, .nil⟩
/-- an item more -/
theorem TpT.put {H1 H2 : Hp} {y : V} {d : PyData} {ds : List PyData} (hD : H D = none) (p : TpT H H1 D ds) (s : Same H1 H2) (small : ds.length < sizeLine) (hy : Tp H2 y d) :
    ∃ acc, H2 D = some (.lst acc) ∧ acc.length < sizeLine ∧ TpT H (upd H2 D (.lst (acc ++ [y]))) D (ds ++ [d]) := by
  obtain ⟨xs, e, r⟩ := p.ex
  have e2 := s _ _ e
  refine ⟨xs, e2, by rw [r.len]; exact small, same_mut (p.s.trans s) hD, _, upd_same, ?_⟩
  exact ((r.kt (KT.same s)).snoc hy).kt (KT.lst e2)
end

/-! ### xs[::2], xs[1::2] -/
def stp2 {α : Type} : List α → List α
  | [] => []
  | [x] => [x]
  | x :: _ :: r => x :: stp2 r
theorem stp2_len {α : Type} : ∀ l : List α, (stp2 l).length = (l.length + 1) / 2
  | [] => by
    show 0 = (0 + 1) / 2
    decide
  | [x] => by
    show 1 = (1 + 1) / 2
    decide
  | _ :: _ :: r => by
    rw [stp2, List.length_cons, stp2_len r, List.length_cons, List.length_cons]
    omega
theorem stp2_map {α β : Type} (f : α → β) : ∀ l : List α, stp2 (l.map f) = (stp2 l).map f
  | [] => rfl
  | [_] => rfl
  | _ :: _ :: r => by
    rw [List.map_cons, List.map_cons, stp2, stp2, stp2_map f r, List.map_cons]
theorem stp2_vals : ∀ {xs : List V} {us : List Value}, Vals xs us → Vals (stp2 xs) (stp2 us)
  | _, _, .nil => .nil
  | _, _, .cons a .nil => .cons a .nil
  | _, _, .cons a (.cons _ r) => .cons a (stp2_vals r)
theorem pick2_list {α : Type} : ∀ l : List α, ((List.range ((l.length + 1) / 2)).filterMap fun m => l[2 * m]?) = stp2 l
  | [] => by
    have e : (([] : List α).length + 1) / 2 = 0 := by
      show (0 + 1) / 2 = 0
      decide
    rw [e]
    rfl
  | [x] => by
    have e : ([x].length + 1) / 2 = 1 := by
      show (1 + 1) / 2 = 1
      decide
    rw [e]
    rfl
  | x :: y :: r => by
    have e : ((x :: y :: r).length + 1) / 2 = (r.length + 1) / 2 + 1 := by
      rw [List.length_cons, List.length_cons]
      omega
    rw [e, List.range_succ_eq_map, List.filterMap_cons]
    show x :: _ = _
    rw [stp2, List.filterMap_map, ← pick2_list r]
    rfl
/-- where it begins -/
def st0 (n : Nat) : Option Int → Nat
  | none => 0
  | some _ => min 1 n
theorem pick2 (xs : Array Value) (k : Nat) : ((List.range ((xs.size - k + 1) / 2)).filterMap fun (m : Nat) => xs[((k : Int) + (m : Int) * 2).toNat]?).toArray = (stp2 (xs.toList.drop k)).toArray := by
  congr 1
  rw [← pick2_list, List.length_drop, Array.length_toList]
  congr 1
  funext m
  rw [List.getElem?_drop, show ((k : Int) + (m : Int) * 2).toNat = k + 2 * m by omega, Array.getElem?_toList]
theorem adj2 (o : Option Int) (ho : o = none ∨ o = some 1) (n : Nat) : Builtin.Slice.sliceAdjust o none 2 (n : Int) = (((st0 n o : Nat) : Int), (n : Int)) := by
  rcases ho with rfl | rfl
  · rfl
  · unfold Builtin.Slice.sliceAdjust
    simp only [show ¬ ((2 : Int) < 0) by decide, if_false, show ¬ ((1 : Int) < 0) by decide]
    refine Prod.ext ?_ rfl
    show min (1 : Int) (n : Int) = ((min 1 n : Nat) : Int)
    omega
theorem st0_le (n : Nat) (o : Option Int) : st0 n o ≤ n := by
  cases o with
  | none => exact Nat.zero_le _
  | some _ => exact Nat.min_le_right _ _
theorem places2 (n k : Nat) (h : k ≤ n) : Builtin.Slice.slicePlaces (k : Int) (n : Int) 2 = (n - k + 1) / 2 := by
  unfold Builtin.Slice.slicePlaces
  rw [if_pos (by decide)]
  by_cases c : (k : Int) < (n : Int)
  · rw [if_pos c]
    omega
  · rw [if_neg c]
    omega
theorem slicePick2 (xs : Array Value) (o : Option Int) (ho : o = none ∨ o = some 1) : slicePick xs o none (some 2) = (stp2 (xs.toList.drop (st0 xs.size o))).toArray := by
  have b : sliceBounds o none (some 2) xs.size = (((st0 xs.size o : Nat) : Int), ((xs.size : Nat) : Int), 2) := by
    rcases ho with rfl | rfl
    · rfl
    · show (max 0 (min 1 (xs.size : Int)), _) = _
      refine Prod.ext ?_ rfl
      show max 0 (min 1 (xs.size : Int)) = ((min 1 xs.size : Nat) : Int)
      omega
  have hle := st0_le xs.size o
  unfold slicePick
  rw [b, ← pick2]
  unfold sliceRange
  dsimp only
  rw [List.filterMap_map]
  have e : (if (2 : Int) > 0 then (if ((st0 xs.size o : Nat) : Int) < (xs.size : Int) then (((xs.size : Nat) : Int) - ((st0 xs.size o : Nat) : Int) + 2 - 1) / 2 else 0) else (if ((st0 xs.size o : Nat) : Int) > (xs.size : Int) then (((st0 xs.size o : Nat) : Int) - ((xs.size : Nat) : Int) - 2 - 1) / -2 else 0)).toNat = (xs.size - st0 xs.size o + 1) / 2 := by
    rw [if_pos (by decide)]
    split <;> omega
  rw [e]
  congr 2
  funext m
  show xs[(((st0 xs.size o : Nat) : Int) + 2 * (m : Int)).toNat]? = _
  rw [Int.mul_comm]
section
variable {prog : Program} {w : World} {A : Around} {E : Value → Shared → Prop} {s : Shared}
theorem getItem_tuple_st2 {t sl : Addr} {items : Array Value} {vl vs : Value} {o : Option Int} {Q : Value → Shared → Prop} (ho : o = none ∨ o = some 1) (ht : IsTup s.heap t items) (hs : s.heap.IsSliceOf sl vl .none vs) (pl : IsPart vl o) (ps : IsPart vs (some 2))
    (h : Q (.ref s.heap.objs.size) { s with heap := s.heap.push { cls := .type "tuple", data := .seq (stp2 (items.toList.drop (st0 items.size o))).toArray } }) (hsz : items.size ≤ sizeLine) : wpAny (model prog w) A (getItem (.ref t) (.ref sl)) Q E s := by
  have fits : sizeOk (.seq (stp2 (items.toList.drop (st0 items.size o))).toArray) := by
    show (stp2 (items.toList.drop (st0 items.size o))).toArray.size ≤ sizeLine
    rw [List.size_toArray, stp2_len, List.length_drop, Array.length_toList]
    omega
  obtain ⟨os, hos, hcs, hds⟩ := id hs
  have kind : s.TypeIs (.ref sl) "slice" := ⟨os, hos, hcs⟩
  unfold getItem
  try with_reducible refine wpAny_holding ?_
  first
    | refine wpAny_bind (wpAny_pure ?_)
    | skip
  refine wpAny_bind (wpAny_sequenceKey ht.typeIs (by decide) ?_)
  refine wpAny_bind (wpAny_callSpecial?_slot (name := Str.ofString "__getitem__") ht.typeIs PyProof.Rows.slot_tuple_getitem (wpAny_call_entry PyProof.Rows.slot_tuple_getitem ht.typeIs entry_tuple_getitem ?_ (args_tuple_getitem _ _)))
  show wpAny _ _ (Builtin.Tuple.tupleItemsOf (.ref t) >>= _) _ _ s
  refine wpAny_bind (tupleItemsOf_ ht ?_)
  refine wpAny_bind (wpAny_typeOf kind ?_)
  rw [if_pos (by decide)]
  refine wpAny_bind ?_
  unfold Builtin.Slice.sliceApplied Builtin.Slice.sliceFields
  refine wpAny_bind (wpAny_bind (wpAny_field hos hds (x := vl) rfl (wpAny_bind (wpAny_field hos hds (x := .none) rfl (wpAny_bind (wpAny_field hos hds (x := vs) rfl (wpAny_pure ?_)))))))
  refine wpAny_bind (HT.slicePart_ ps ?_)
  show wpAny _ _ (if ((2 : Int) == 0) = true then _ else _) _ _ s
  rw [if_neg (by decide)]
  refine wpAny_bind (HT.slicePart_ pl (wpAny_bind (HT.slicePart_ .none (wpAny_bind (wpAny_pure ?_)))))
  show wpAny _ _ (match Builtin.Slice.sliceAdjust o none 2 (items.size : Int) with | (lo, hi) => pure (lo, (2 : Int), Builtin.Slice.slicePlaces lo hi 2)) _ _ s
  rw [adj2 o ho]
  show wpAny _ _ (pure (((st0 items.size o : Nat) : Int), (2 : Int), Builtin.Slice.slicePlaces ((st0 items.size o : Nat) : Int) (items.size : Int) 2)) _ _ s
  rw [places2 _ _ (st0_le _ _)]
  refine wpAny_pure ?_
  have hno : ¬ ((((st0 items.size o : Nat) : Int) == 0 && (2 : Int) == 1 && (items.size - st0 items.size o + 1) / 2 == items.size) = true) := by
    rw [show ((2 : Int) == 1) = false from rfl, Bool.and_false, Bool.false_and]
    exact Bool.false_ne_true
  show wpAny _ _ (if ((((st0 items.size o : Nat) : Int) == 0 && (2 : Int) == 1 && (items.size - st0 items.size o + 1) / 2 == items.size) = true) then _ else _) _ _ s
  rw [if_neg hno, pick2]
  first
    | exact wpAny_bind (m := Builtin.Tuple.tupleExact _) (wpAny_newObj_type (wpAny_pure ⟨_, rfl, wpAny_pure h⟩) fits)
    | exact wpAny_bind (m := Builtin.Tuple.tupleExact _) (wpAny_newObj_type (wpAny_bind (wpAny_pure (wpAny_pure ⟨_, rfl, wpAny_pure h⟩))) fits)
    | exact wpAny_bind (wpAny_bind (m := Builtin.Tuple.tupleExact _) (wpAny_newObj_type (wpAny_pure (wpAny_pure ⟨_, rfl, wpAny_pure h⟩)) fits))
    | exact wpAny_bind (wpAny_bind (m := Builtin.Tuple.tupleExact _) (wpAny_newObj_type (wpAny_pure ⟨_, rfl, wpAny_pure h⟩) fits))
end
/-- x[::2], x[1::2] of a tuple or of a list -/
def cut2 (xs : List V) (o : Option Int) : List V := stp2 (xs.drop (st0 xs.length o))
def tSt2 (K : PySem.W.Frag) (te : TE) (tl : TO) : TE := fun σ H Q => te σ H fun x H1 => tl σ H1 fun o H2 => ∃ a xs, x = .ref a ∧ (o = none ∨ o = some 1) ∧
  ((SqT K H2 a xs ∧ ∀ p, H2 p = none → Q (.ref p) (upd H2 p (.tup (cut2 xs o)))) ∨ (SqL K H2 a xs ∧ ∀ p, H2 p = none → Q (.ref p) (upd H2 p (.lst (cut2 xs o)))))
section
variable {X : Cx}
theorem pe_st2 {e : Expr} {te : TE} {lo : Option Expr} {tl : TO} {k : Nat} {p1 p3 pos : Pos} (he : PE X e te) (hl : PO X lo tl) : PE X (.Subscript e (.Slice lo none (some (.Constant (.int 2) k p1)) p3) pos) (tSt2 X.K te tl) := by
  refine ⟨fun pins s σ H Q I h => ?_⟩
  refine Subscript_ (thn (he.run pins s σ H _ I h) fun v s1 ⟨x, H1, I1, r1, q1⟩ => ?_)
  have two : PO X (some (.Constant (.int 2) k p1)) (tPart (tC (.int 2))) := po_some pe_int
  refine wpAny_Slice (thn (hl.run pins s1 σ H1 _ I1 q1) fun vl s2 ⟨o, H2, I2, pl, q2⟩ => ?_)
  refine thn (po_none.run pins s2 σ H2 (fun o H3 => o = none ∧ H3 = H2) I2 ⟨rfl, rfl⟩) fun vu s3 ⟨u, H3, I3, pu, eu, e3⟩ => ?_
  subst eu e3
  refine thn (two.run pins s3 σ H3 (fun o H4 => o = some 2 ∧ H4 = H3) I3 ⟨2, rfl, rfl, rfl⟩) fun vs s4 ⟨o4, H4, I4, ps, eo, e4⟩ => ?_
  subst eo e4
  obtain ⟨a, xs, ex, ho, q⟩ := q2
  subst ex
  cases r1
  cases pu
  have I5 : Inv X pins σ H4 { s4 with heap := s4.heap.push { cls := .type "slice", data := .fields #[vl, .none, vs] } } := I4.kept (t' := s4.toks) fun b ob z => Heap.get?_push_of_some _ z
  show wpAny (model X.prog X.w) X.A (subscriptTail e (.Slice lo none (some (.Constant (.int 2) k p1)) p3) (.ref a) (.ref s4.heap.objs.size)) (EP X pins σ Q) X.xe { s4 with heap := s4.heap.push { cls := .type "slice", data := .fields #[vl, .none, vs] } }
  rcases q with ⟨hx, q⟩ | ⟨hx, q⟩
  · obtain ⟨its, r, ht, hz⟩ := I5.tuple hx
    have hlen := r.length
    refine tail_any (ops := [.ref a, .ref s4.heap.objs.size]) ht.typeIs (PyProof.Rows.slot_tuple_getitem.lookup) ?_ (by with_unfolding_all rfl)
    refine getItem_tuple_st2 ho ht (Heap.IsSliceOf.new _ vl .none vs) pl ps ?_ (by rw [List.size_toArray]; omega)
    refine ⟨.ref _, _, I5.laid (t' := s4.toks) (o := .tup (cut2 xs o)) (fun b ob z => Heap.get?_push_of_some _ z) (Nat.le_refl _) ⟨?_, _, ?_, IsTup.new _ _⟩, rfl, q _ (I5.hok.fresh (Nat.le_refl _))⟩
    · unfold cut2
      rw [stp2_len, List.length_drop]
      omega
    · unfold cut2
      rw [List.size_toArray, ← hlen]
      exact stp2_vals (r.drop _)
  · obtain ⟨its, r, ht, hz⟩ := I5.list hx
    have hlen := r.length
    refine tail_any (ops := [.ref a, .ref s4.heap.objs.size]) ht.isList.typeIs (PySem.slot_list_getitem.lookup) ?_ (by with_unfolding_all rfl)
    refine wpAny_getItem_list_slice ht.isList (Heap.IsSliceOf.new _ vl .none vs) pl .none ps (by decide) ?_ (by rw [List.size_toArray]; omega)
    rw [slicePick2 _ _ ho]
    refine ⟨.ref _, _, I5.laid (t' := s4.toks) (o := .lst (cut2 xs o)) (fun b ob q => Heap.get?_push_of_some _ q) (Nat.le_refl _) ⟨?_, _, 0, ?_, Heap.get?_push_size _ rfl⟩, rfl, q _ (I5.hok.fresh (Nat.le_refl _))⟩
    · unfold cut2
      rw [stp2_len, List.length_drop]
      omega
    · unfold cut2
      rw [List.size_toArray, ← hlen]
      exact stp2_vals (r.drop _)
theorem pe_st2K {K : PySem.W.Frag} {e : Expr} {te : TE} {lo : Option Expr} {tl : TO} {k : Nat} {p1 p3 pos : Pos} (hK : X.K = K) (he : PE X e te) (hl : PO X lo tl) : PE X (.Subscript e (.Slice lo none (some (.Constant (.int 2) k p1)) p3) pos) (tSt2 K te tl) := hK ▸ pe_st2 he hl
end
section
variable {X : Cx}
theorem sl_tupAK {K : PySem.W.Frag} (h : X.K = K) : SlR X (rSlA K) := h ▸ sl_tupA
theorem op_catAK {K : PySem.W.Frag} (h : X.K = K) : OpR X (binaryOp .Add) (rCatA K) := h ▸ op_catA
end

/-! ### a tuple that is known to its object (it has no dict): made by tuple(xs); dict(of it) -/
section
variable {X : Cx}
def rTupF (K : PySem.W.Frag) : List V → Hp → VK → Prop := fun xs H Q => ∃ p ys, xs = [.ref p] ∧ SqL K H p ys ∧ ∀ (l : Addr) (o : Obj), o.dict = none → H l = none → Q (.ref l) (upd H l (.frz o (.tup ys)))
theorem call_tuple_frz : CallR X (.type "tuple") (rTupF X.K) := by
  intro pins s σ H xs us Q I r h
  obtain ⟨p, ys, rfl, hq, q⟩ := h
  obtain ⟨u, rfl, rx⟩ := vals1 r
  cases rx
  obtain ⟨its, r', pl, hz⟩ := I.list hq
  have hlen := r'.length
  refine call_tuple_list pl.isList (fun h' kp => ?_) (by simp only [List.size_toArray] <;> omega)
  have I1 : Inv X pins σ H { s with heap := h' } := I.kept (t' := s.toks) kp
  have I2 : Inv X pins σ (upd H h'.objs.size (.frz { cls := .type "tuple", data := .seq its.toArray } (.tup ys))) { s with heap := h'.push { cls := .type "tuple", data := .seq its.toArray } } :=
    I1.laid (t' := s.toks) (fun b o e => Heap.get?_push_of_some _ e) (Nat.le_refl _) (show ObjOk X.prog X.w _ _ _ (.frz _ (.tup ys)) from ⟨Heap.get?_push_size _ rfl, hz, its, r', IsTup.new _ _⟩)
  exact ⟨.ref h'.objs.size, _, I2, rfl, q _ _ rfl (I1.hok.fresh (Nat.le_refl _))⟩
theorem pairs_ofV {pins : List (Addr × Obj)} {σ : L2.St} {H : Hp} {s : Shared} (I : Inv X pins σ H s) : ∀ {ps : List Addr} {kvs : List (Key × V)}, Paired (fun p kv => SqT X.K H p [kV kv.1, kv.2]) ps kvs →
    ∃ (prs : List (Key × Value)) (vps : List (Value × Value)), KV kvs prs ∧ prs.length = ps.length ∧ vps.length = ps.length ∧ ∀ (j : Nat) (k v : Value), vps[j]? = some (k, v) → ∃ (key : Key) (b : Addr), prs[j]? = some (key, v) ∧ keyIs key k = true ∧ ps[j]? = some b ∧ IsTup s.heap b #[k, v]
  | _, _, .nil => ⟨[], [], .nil, rfl, rfl, fun j k v e => by simp at e⟩
  | _, _, .cons (a := p) (b := kv) h t => by
    obtain ⟨prs, vps, r, hl, hv, hp⟩ := pairs_ofV I t
    obtain ⟨its, rv, ht, _⟩ := I.tuple h
    obtain ⟨u, y, ei, ru, ry⟩ := vals2 rv
    subst ei
    refine ⟨(kv.1, y) :: prs, (u, y) :: vps, .cons ⟨rfl, ry⟩ r, by rw [List.length_cons, List.length_cons, hl], by rw [List.length_cons, List.length_cons, hv], fun j k v e => ?_⟩
    cases j with
    | zero =>
      have e' : (u, y) = (k, v) := Option.some.inj e
      cases e'
      exact ⟨kv.1, p, rfl, kV_is (P := X.prog) (w := X.w) ru, rfl, ht⟩
    | succ j =>
      obtain ⟨key, b, e1, e2, e3, e4⟩ := hp j k v (by simpa using e)
      exact ⟨key, b, by simpa using e1, e2, by simpa using e3, e4⟩
/-- dict(ps) of such a tuple of pairs -/
def rDictF (K : PySem.W.Frag) : List V → Hp → VK → Prop := fun xs H Q => ∃ (a : Addr) (o : Obj) (ps : List Addr) (kvs : List (Key × V)), xs = [.ref a] ∧ H a = some (.frz o (.tup (ps.map V.ref))) ∧ o.dict = none ∧ Paired (fun p kv => SqT K H p [kV kv.1, kv.2]) ps kvs ∧
    ∀ p, H p = none → Q (.ref p) (upd H p (.dK (mergeK [] kvs)))
theorem call_dictF (hcalm : X.calm = true) : CallR X (.type "dict") (rDictF X.K) := by
  intro pins s σ H xs us Q I r q
  obtain ⟨a, o, ps, kvs, ex, hq, hd, hp, q⟩ := q
  subst ex
  obtain ⟨u, eu, rx⟩ := vals1 r
  subst eu
  cases rx
  obtain ⟨ho, hz, its, rv, it⟩ := I.hok _ _ hq
  have ei := refs_at rv
  subst ei
  rw [List.length_map] at hz
  obtain ⟨prs, vps, rel, hl, hv, hpr⟩ := pairs_ofV I hp
  obtain ⟨o', ho', hc, n, hdat⟩ := it
  have eo : o' = o := by
    rw [ho] at ho'
    exact (Option.some.inj ho').symm
  subst eo
  have pi : PairItems s.heap (ps.map Value.ref).toArray (fun j => ps.getD j 0) vps := by
    refine ⟨by rw [List.size_toArray, List.length_map, hv], fun j k v e => ?_⟩
    obtain ⟨key, b, e1, e2, e3, e4⟩ := hpr j k v e
    have eb : ps.getD j 0 = b := by
      rw [List.getD_eq_getElem?_getD, e3]
      rfl
    refine ⟨by simp [e3], .inl ?_⟩
    show s.heap.IsTuple (ps.getD j 0) #[k, v]
    rw [eb]
    exact e4
  refine PySem.call_dict_pairs (knd := mixKind X.prog X.w) (kvs := prs) (PairArg.tuple a (ps.map Value.ref).toArray (fun j => ps.getD j 0) vps) (I.ok.hd hcalm) ⟨⟨o', n, ho, hc, hd, hdat⟩, pi⟩ ⟨by rw [hl, hv], fun j k v e => ?_⟩ (by rw [hv]; exact hz) fun h' tk hd' k => ?_
  · obtain ⟨key, b, e1, e2, e3, e4⟩ := hpr j k v e
    exact ⟨key, e1, e2⟩
  · have hm : (s.heap.objs.size == sysModules) = false := beq_eq_false_iff_ne.mpr (Nat.ne_of_gt I.big)
    have hlen : (mergeK [] kvs).length ≤ sizeLine := by
      refine Nat.le_trans (length_mergeK kvs []) ?_
      rw [List.length_nil, Nat.zero_add, rel.length, hl]
      exact hz
    exact ⟨.ref s.heap.objs.size, upd H s.heap.objs.size (.dK (mergeK [] kvs)), I.laid (t' := tk) (fun b o e => k b o (by simp) e) (Nat.le_refl _) (show ObjOk X.prog X.w _ _ _ (.dK (mergeK [] kvs)) from ⟨hlen, hm, merged [] prs, KV.merge rel .nil, hd'⟩), rfl, q _ (I.hok.fresh (Nat.le_refl _))⟩
theorem call_dictFK {K : PySem.W.Frag} (hK : X.K = K) (hcalm : X.calm = true) : CallR X (.type "dict") (rDictF K) := hK ▸ call_dictF hcalm
end

/-! ### how parts are shown -/
mutual
inductive Lf : PyData → Prop
  | int (i : Int) (h : i.natAbs < 10 ^ 13) : Lf (.int i)
  | str (x : Str) (h : (x.cps.toList.all fun c => decide (c < 16 ^ 8)) = true) : Lf (.str x)
  | tup {ds : List PyData} : LfAll ds → Lf (.tuple ds)
inductive LfAll : List PyData → Prop
  | nil : LfAll []
  | cons {d : PyData} {ds : List PyData} : Lf d → LfAll ds → LfAll (d :: ds)
end
theorem lf_one : Lf (.int 1) := .int 1 (by decide)
mutual
theorem Lf.shows : ∀ {d : PyData}, Lf d → d.showable = true ∧ d.hasDict = false ∧ PyData.leavesShort 14 d = true
  | _, .int i h => by
    have lg : i.natAbs.log2 < 44 := PySem.Flt.log2_lt_of (by decide) (Nat.lt_trans h (by decide))
    refine ⟨?_, by rw [PyData.hasDict], ?_⟩
    · rw [PyData.showable]
      exact decide_eq_true (by omega)
    · rw [PyData.leavesShort]
      refine decide_eq_true ?_
      show (Str.ofString (toString i)).length ≤ 14
      rw [PySem.ofString_length]
      exact int_text_length_le10 (k := 13) (by decide) h
  | _, .str x h => ⟨by rw [PyData.showable], by rw [PyData.hasDict], by rw [PyData.leavesShort]; exact h⟩
  | _, .tup r => by
    obtain ⟨a, b, c⟩ := LfAll.shows r
    exact ⟨by rw [PyData.showable]; exact a, by rw [PyData.hasDict]; exact b, by rw [PyData.leavesShort]; exact c⟩
theorem LfAll.shows : ∀ {ds : List PyData}, LfAll ds → PyData.showableAll ds = true ∧ PyData.hasDictAll ds = false ∧ PyData.leavesShortAll 14 ds = true
  | _, .nil => ⟨rfl, rfl, rfl⟩
  | _, .cons h r => by
    obtain ⟨a, b, c⟩ := Lf.shows h
    obtain ⟨a2, b2, c2⟩ := LfAll.shows r
    exact ⟨by rw [PyData.showableAll, a, a2]; rfl, by rw [PyData.hasDictAll, b, b2]; rfl, by rw [PyData.leavesShortAll, c, c2]; rfl⟩
end
theorem Lf.showy {d : PyData} (h : Lf d) (dp : d.depth ≤ 60) (wt : d.weight ≤ 100000) : Showy d := by
  obtain ⟨a, b, c⟩ := h.shows
  refine ⟨a, b, dp, ?_⟩
  have z := PyData.shown_le 14 (by decide) d c
  have e : sizeLine = 16777216 := sizeLine_eq
  omega
theorem lf_rep {d : PyData} (h : Lf d) : ∀ n, LfAll (List.replicate n d)
  | 0 => .nil
  | n + 1 => .cons h (lf_rep h n)
theorem lf_map {α : Type} {f : α → PyData} : ∀ {l : List α}, (∀ x ∈ l, Lf (f x)) → LfAll (l.map f)
  | [], _ => .nil
  | x :: r, h => .cons (h x List.mem_cons_self) (lf_map fun y hy => h y (List.mem_cons_of_mem _ hy))
theorem dep_map {α : Type} {f : α → PyData} {m : Nat} : ∀ {l : List α}, (∀ x ∈ l, (f x).depth ≤ m) → PyData.depthAll (l.map f) ≤ m
  | [], _ => Nat.zero_le _
  | x :: r, h => by
    rw [List.map_cons, PyData.depthAll]
    exact Nat.max_le.mpr ⟨h x List.mem_cons_self, dep_map fun y hy => h y (List.mem_cons_of_mem _ hy)⟩
theorem wt_map {α : Type} {f : α → PyData} {m : Nat} : ∀ {l : List α}, (∀ x ∈ l, (f x).weight ≤ m) → PyData.weightAll (l.map f) ≤ (m + 1) * l.length
  | [], _ => Nat.zero_le _
  | x :: r, h => by
    have a := h x List.mem_cons_self
    have b := wt_map (l := r) fun y hy => h y (List.mem_cons_of_mem _ hy)
    rw [List.map_cons, PyData.weightAll, List.length_cons, Nat.mul_succ]
    omega
theorem rep_map {d : PyData} (n : Nat) : List.replicate n d = (List.range n).map fun _ => d := by
  rw [List.map_const', List.length_range]
theorem wt_one : (PyData.int 1).weight = 1 := by rfl
theorem dep_one : (PyData.int 1).depth = 0 := by rfl
/-- repr, where nothing is being shown -/
structure RRepr (K : PySem.W.Frag) (xs : List V) (H : Hp) (Q : VK) : Prop where
  h : (xs = [.non] ∧ Q (.str "None") H) ∨ (∃ i, xs = [.int i] ∧ i.natAbs.log2 < 1920 ∧ Q (.str (toString i)) H) ∨ ∃ a d, xs = [.ref a] ∧ Dp K H (.ref a) d ∧ Showy d ∧ Q (.str d.shown) H
theorem call_reprW {X : Cx} (hgd : X.A.guards = some []) (hu : X.A.units + 64 < cLine) : CallR X (.builtin "repr") (RRepr X.K) := fun pins s σ H xs us Q I r h => call_reprV hgd hu pins s σ H xs us Q I r h.h
/-- a tuple's repr -/
theorem tp_reprT {K : PySem.W.Frag} {H : Hp} {v : V} {ds : List PyData} {Q : VK} (t : Tp H v (.tuple ds)) (ok : Showy (.tuple ds)) (q : Q (.str (PyData.tuple ds).shown) H) : RRepr K [v] H Q := by
  cases t with
  | tup h r => exact ⟨.inr (.inr ⟨_, _, rfl, (Tp.tup h r).dp, ok, q⟩)⟩
theorem Lf.showy2 {d : PyData} (h : Lf d) (dp : d.depth ≤ 60) (wt : d.bulk ≤ 900000) : Showy d := by
  obtain ⟨a, b, c⟩ := h.shows
  refine ⟨a, b, dp, ?_⟩
  have z := PyData.shown_le_bulk 14 (by decide) d c
  have e : sizeLine = 16777216 := sizeLine_eq
  omega

/-! ### nets, as told: plain functions -/
def dHigh (h a b : Int) : PyData := .tuple [.int h, .tuple [.tuple [.int a], .tuple [.int b]]]
def dLow (l a b : Int) : PyData := .tuple [.int l, .tuple [.tuple [.int a, .int b]]]
def dCl2 (a h : Int) : PyData := .tuple [.int (0 - a), .int h]
def dCl3 (a b l : Int) : PyData := .tuple [.int (0 - a), .int (0 - b), .int l]
structure Nets where
  ns : List PyData
  cs : List PyData
def Nets.cmp (f : Int) (st : Nets) (a b : Int) (both : Bool) : Nets × List Int :=
  if both = true then (⟨st.ns ++ [dHigh (f + (st.ns.length : Nat)) a b] ++ [dLow (f + (st.ns.length : Nat) + 1) a b], st.cs ++ [dCl2 a (f + (st.ns.length : Nat)), dCl2 b (f + (st.ns.length : Nat))] ++ [dCl3 a b (f + (st.ns.length : Nat) + 1)]⟩, [f + (st.ns.length : Nat), f + (st.ns.length : Nat) + 1])
  else (⟨st.ns ++ [dHigh (f + (st.ns.length : Nat)) a b], st.cs ++ [dCl2 a (f + (st.ns.length : Nat)), dCl2 b (f + (st.ns.length : Nat))]⟩, [f + (st.ns.length : Nat)])
/-- one turn: the outs of what is there -/
def Nets.one (f : Int) (st : Nets) (xs ys : List Int) (many : Nat) : Nets × List Int :=
  match xs, ys with
  | [a], [b] => st.cmp f a b (decide (1 < many))
  | _, _ => (st, xs ++ ys)
def comb (f : Int) (many : Nat) (st : Nets) (outs os es : List Int) : Nets × List Int :=
  if _h : outs.length < many ∧ (os ≠ [] ∨ es ≠ []) then
    comb f many (st.one f (os.take 1) (es.take 1) (many - outs.length)).1 (outs ++ (st.one f (os.take 1) (es.take 1) (many - outs.length)).2) (os.drop 1) (es.drop 1)
  else (st, outs)
  termination_by os.length + es.length
  decreasing_by
    rw [List.length_drop, List.length_drop]
    rcases _h.2 with h | h
    · have := List.length_pos_iff.mpr h
      omega
    · have := List.length_pos_iff.mpr h
      omega
theorem comb_go {f : Int} {many : Nat} {st : Nets} {outs os es : List Int} (h : outs.length < many) (h2 : os ≠ [] ∨ es ≠ []) :
    comb f many st outs os es = comb f many (st.one f (os.take 1) (es.take 1) (many - outs.length)).1 (outs ++ (st.one f (os.take 1) (es.take 1) (many - outs.length)).2) (os.drop 1) (es.drop 1) := by
  rw [comb, dif_pos ⟨h, h2⟩]
theorem comb_end {f : Int} {many : Nat} {st : Nets} {outs os es : List Int} (h : ¬ (outs.length < many ∧ (os ≠ [] ∨ es ≠ []))) : comb f many st outs os es = (st, outs) := by
  rw [comb, dif_neg h]
def mrg (f : Int) : Nat → Nets → List Int → List Int → Nat → Nets × List Int
  | 0, st, _, _, _ => (st, [])
  | j + 1, st, xs, ys, many =>
    if xs = [] ∨ ys = [] ∨ many = 0 then (st, (xs ++ ys).take many)
    else if xs.length = 1 ∧ ys.length = 1 then st.cmp f (xs.headD 0) (ys.headD 0) (decide (1 < many))
    else comb f many (mrg f j (mrg f j st (stp2 xs) (stp2 ys) (many / 2 + 1)).1 (stp2 (xs.drop 1)) (stp2 (ys.drop 1)) (many / 2)).1
      ((mrg f j st (stp2 xs) (stp2 ys) (many / 2 + 1)).2.take 1) ((mrg f j st (stp2 xs) (stp2 ys) (many / 2 + 1)).2.drop 1)
      (mrg f j (mrg f j st (stp2 xs) (stp2 ys) (many / 2 + 1)).1 (stp2 (xs.drop 1)) (stp2 (ys.drop 1)) (many / 2)).2
theorem mrg_none {f : Int} {j : Nat} {st : Nets} {xs ys : List Int} {many : Nat} (h : xs = [] ∨ ys = [] ∨ many = 0) : mrg f (j + 1) st xs ys many = (st, (xs ++ ys).take many) := if_pos h
theorem mrg_one {f : Int} {j : Nat} {st : Nets} {a b : Int} {many : Nat} (h : many ≠ 0) : mrg f (j + 1) st [a] [b] many = st.cmp f a b (decide (1 < many)) := by
  have h1 : ¬ ([a] = [] ∨ [b] = [] ∨ many = 0) := by simp [h]
  exact (if_neg h1).trans (if_pos ⟨rfl, rfl⟩)
theorem mrg_more {f : Int} {j : Nat} {st : Nets} {xs ys : List Int} {many : Nat} (h : ¬ (xs = [] ∨ ys = [] ∨ many = 0)) (h2 : ¬ (xs.length = 1 ∧ ys.length = 1)) :
    mrg f (j + 1) st xs ys many = comb f many (mrg f j (mrg f j st (stp2 xs) (stp2 ys) (many / 2 + 1)).1 (stp2 (xs.drop 1)) (stp2 (ys.drop 1)) (many / 2)).1
      ((mrg f j st (stp2 xs) (stp2 ys) (many / 2 + 1)).2.take 1) ((mrg f j st (stp2 xs) (stp2 ys) (many / 2 + 1)).2.drop 1)
      (mrg f j (mrg f j st (stp2 xs) (stp2 ys) (many / 2 + 1)).1 (stp2 (xs.drop 1)) (stp2 (ys.drop 1)) (many / 2)).2 := (if_neg h).trans (if_neg h2)
theorem short {α : Type} {l : List α} (h : l.length ≤ 1) : l = [] ∨ ∃ a, l = [a] := by
  match l, h with
  | [], _ => exact .inl rfl
  | [a], _ => exact .inr ⟨a, rfl⟩
/-- of what is there at one turn -/
theorem mrg_turn {f : Int} {j : Nat} {st : Nets} {xs ys : List Int} {many : Nat} (hx : xs.length ≤ 1) (hy : ys.length ≤ 1) (hm : many ≠ 0) : mrg f (j + 1) st xs ys many = st.one f xs ys many := by
  rcases short hx with rfl | ⟨a, rfl⟩ <;> rcases short hy with rfl | ⟨b, rfl⟩
  · exact (mrg_none (.inl rfl)).trans (by rw [List.append_nil, List.take_nil]; rfl)
  · exact (mrg_none (.inl rfl)).trans (by rw [List.nil_append, List.take_of_length_le (by rw [List.length_singleton]; omega)]; rfl)
  · exact (mrg_none (.inr (.inl rfl))).trans (by rw [List.append_nil, List.take_of_length_le (by rw [List.length_singleton]; omega)]; rfl)
  · exact mrg_one hm
/-! ### how many, how great -/
structure El (d : PyData) : Prop where
  lf : Lf d
  dp : d.depth ≤ 3
  wt : d.bulk ≤ 20
def Fit (x : Int) : Prop := x.natAbs < 10 ^ 13
structure Few (n : Nat) (st : Nets) : Prop where
  l : st.ns.length ≤ n
  c : st.cs.length ≤ 2 * n
  nl : ∀ d ∈ st.ns, El d
  cl : ∀ d ∈ st.cs, El d
theorem el_high {h a b : Int} (fh : Fit h) (fa : Fit a) (fb : Fit b) : El (dHigh h a b) :=
  ⟨.tup (.cons (.int _ fh) (.cons (.tup (.cons (.tup (.cons (.int _ fa) .nil)) (.cons (.tup (.cons (.int _ fb) .nil)) .nil))) .nil)), by show 3 ≤ 3; decide, by show 6 ≤ 20; decide⟩
theorem el_low {h a b : Int} (fh : Fit h) (fa : Fit a) (fb : Fit b) : El (dLow h a b) :=
  ⟨.tup (.cons (.int _ fh) (.cons (.tup (.cons (.tup (.cons (.int _ fa) (.cons (.int _ fb) .nil))) .nil)) .nil)), by show 3 ≤ 3; decide, by show 5 ≤ 20; decide⟩
theorem fit_neg {a : Int} (h : Fit a) : Fit (0 - a) := by
  unfold Fit at h ⊢
  omega
theorem el_cl2 {a h : Int} (fa : Fit a) (fh : Fit h) : El (dCl2 a h) := ⟨.tup (.cons (.int _ (fit_neg fa)) (.cons (.int _ fh) .nil)), by show 1 ≤ 3; decide, by show 2 ≤ 20; decide⟩
theorem el_cl3 {a b h : Int} (fa : Fit a) (fb : Fit b) (fh : Fit h) : El (dCl3 a b h) := ⟨.tup (.cons (.int _ (fit_neg fa)) (.cons (.int _ (fit_neg fb)) (.cons (.int _ fh) .nil))), by show 1 ≤ 3; decide, by show 3 ≤ 20; decide⟩
theorem Few.more {n m : Nat} {st : Nets} (h : Few n st) (l : n ≤ m) : Few m st := ⟨Nat.le_trans h.l l, Nat.le_trans h.c (by omega), h.nl, h.cl⟩
theorem all_snoc {P : PyData → Prop} {l r : List PyData} (h : ∀ d ∈ l, P d) (h2 : ∀ d ∈ r, P d) : ∀ d ∈ l ++ r, P d := fun d hd => (List.mem_append.mp hd).elim (h d) (h2 d)
/-- first names are small enough -/
def Low (f : Int) : Prop := 0 ≤ f ∧ f ≤ 10 ^ 12
theorem cmp_few {f : Int} {n : Nat} {st : Nets} {a b : Int} {both : Bool} (h : Few n st) (hf : Low f) (hn : n ≤ 1000000) (fa : Fit a) (fb : Fit b) :
    Few (n + 2) (st.cmp f a b both).1 ∧ (∀ x ∈ (st.cmp f a b both).2, Fit x) ∧ 1 ≤ (st.cmp f a b both).2.length ∧ (st.cmp f a b both).2.length ≤ 2 ∧ (both = false → (st.cmp f a b both).2.length = 1) := by
  obtain ⟨h1, h2, h3, h4⟩ := h
  obtain ⟨f1, f2⟩ := hf
  have g1 : Fit (f + (st.ns.length : Nat)) := by
    unfold Fit
    omega
  have g2 : Fit (f + (st.ns.length : Nat) + 1) := by
    unfold Fit
    omega
  have one : ∀ {d : PyData}, El d → ∀ e ∈ [d], El e := fun hd e he => by rw [List.mem_singleton.mp he]; exact hd
  have two : ∀ {d d2 : PyData}, El d → El d2 → ∀ e ∈ [d, d2], El e := fun hd hd2 e he => by
    rcases List.mem_cons.mp he with z | z
    · rw [z]
      exact hd
    · exact one hd2 e z
  cases both with
  | true =>
    refine ⟨⟨?_, ?_, ?_, ?_⟩, ?_, by show 1 ≤ 2; decide, by show 2 ≤ 2; decide, fun z => by cases z⟩
    · show (st.ns ++ [_] ++ [_]).length ≤ n + 2
      rw [List.length_append, List.length_append, List.length_singleton, List.length_singleton]
      omega
    · show (st.cs ++ [_, _] ++ [_]).length ≤ 2 * (n + 2)
      rw [List.length_append, List.length_append, List.length_singleton]
      show st.cs.length + 2 + 1 ≤ _
      omega
    · exact all_snoc (all_snoc h3 (one (el_high g1 fa fb))) (one (el_low g2 fa fb))
    · exact all_snoc (all_snoc h4 (two (el_cl2 fa g1) (el_cl2 fb g1))) (one (el_cl3 fa fb g2))
    · intro x hx
      have hx : x ∈ [f + (st.ns.length : Nat), f + (st.ns.length : Nat) + 1] := hx
      rcases List.mem_cons.mp hx with z | z
      · rw [z]
        exact g1
      · rw [List.mem_singleton.mp z]
        exact g2
  | false =>
    refine ⟨⟨?_, ?_, ?_, ?_⟩, ?_, by show 1 ≤ 1; decide, by show 1 ≤ 2; decide, fun _ => rfl⟩
    · show (st.ns ++ [_]).length ≤ n + 2
      rw [List.length_append, List.length_singleton]
      omega
    · show (st.cs ++ [_, _]).length ≤ 2 * (n + 2)
      rw [List.length_append]
      show st.cs.length + 2 ≤ _
      omega
    · exact all_snoc h3 (one (el_high g1 fa fb))
    · exact all_snoc h4 (two (el_cl2 fa g1) (el_cl2 fb g1))
    · intro x hx
      have hx : x ∈ [f + (st.ns.length : Nat)] := hx
      rw [List.mem_singleton.mp hx]
      exact g1
theorem one_few {f : Int} {n : Nat} {st : Nets} {xs ys : List Int} {many : Nat} (h : Few n st) (hf : Low f) (hn : n ≤ 1000000) (fx : ∀ x ∈ xs, Fit x) (fy : ∀ x ∈ ys, Fit x) :
    Few (n + 2 * ys.length) (st.one f xs ys many).1 ∧ (∀ x ∈ (st.one f xs ys many).2, Fit x) ∧ (st.one f xs ys many).2.length ≤ xs.length + ys.length := by
  unfold Nets.one
  split
  · rename_i a b
    obtain ⟨c1, c2, _, c3, _⟩ := cmp_few (both := decide (1 < many)) h hf hn (fx a List.mem_cons_self) (fy b List.mem_cons_self)
    exact ⟨c1, c2, c3⟩
  · exact ⟨h.more (by omega), fun x hx => (List.mem_append.mp hx).elim (fx x) (fy x), by rw [List.length_append]; exact Nat.le_refl _⟩
theorem all_take {α : Type} {l : List α} {k : Nat} {P : α → Prop} (h : ∀ x ∈ l, P x) : ∀ x ∈ l.take k, P x := fun x hx => h x (List.mem_of_mem_take hx)
theorem all_drop {α : Type} {l : List α} {k : Nat} {P : α → Prop} (h : ∀ x ∈ l, P x) : ∀ x ∈ l.drop k, P x := fun x hx => h x (List.mem_of_mem_drop hx)
theorem mem_stp2 {α : Type} {P : α → Prop} : ∀ {l : List α}, (∀ x ∈ l, P x) → ∀ x ∈ stp2 l, P x
  | [], _, x, hx => by cases hx
  | [_], h, x, hx => h x hx
  | a :: b :: r, h, x, hx => by
    rcases List.mem_cons.mp hx with z | z
    · rw [z]
      exact h a List.mem_cons_self
    · exact mem_stp2 (fun y hy => h y (List.mem_cons_of_mem _ (List.mem_cons_of_mem _ hy))) x z
theorem comb_few {f : Int} (hf : Low f) {many : Nat} : ∀ (k n : Nat) (st : Nets) (outs os es : List Int), os.length + es.length ≤ k → Few n st → n + 2 * es.length ≤ 1000000 → (∀ x ∈ outs, Fit x) → (∀ x ∈ os, Fit x) → (∀ x ∈ es, Fit x) →
    Few (n + 2 * es.length) (comb f many st outs os es).1 ∧ (∀ x ∈ (comb f many st outs os es).2, Fit x) ∧ (comb f many st outs os es).2.length ≤ outs.length + os.length + es.length := by
  intro k
  induction k with
  | zero =>
    intro n st outs os es hk h hn h1 h2 h3
    have e1 : os = [] := List.length_eq_zero_iff.mp (by omega)
    have e2 : es = [] := List.length_eq_zero_iff.mp (by omega)
    subst e1 e2
    rw [comb_end (fun z => z.2.elim (fun y => y rfl) fun y => y rfl)]
    exact ⟨h.more (by omega), h1, Nat.le_refl _⟩
  | succ k ih =>
    intro n st outs os es hk h hn h1 h2 h3
    by_cases c : outs.length < many ∧ (os ≠ [] ∨ es ≠ [])
    · rw [comb_go c.1 c.2]
      obtain ⟨a1, a2, a3⟩ := one_few (many := many - outs.length) h hf (by omega) (all_take (k := 1) h2) (all_take (k := 1) h3)
      have lo := List.length_take (i := 1) (l := os)
      have le := List.length_take (i := 1) (l := es)
      have ld := List.length_drop (i := 1) (l := os)
      have ld2 := List.length_drop (i := 1) (l := es)
      have pos : 1 ≤ os.length + es.length := by
        rcases c.2 with z | z
        · have := List.length_pos_iff.mpr z
          omega
        · have := List.length_pos_iff.mpr z
          omega
      obtain ⟨b1, b2, b3⟩ := ih (n + 2 * (es.take 1).length) (st.one f (os.take 1) (es.take 1) (many - outs.length)).1 (outs ++ (st.one f (os.take 1) (es.take 1) (many - outs.length)).2) (os.drop 1) (es.drop 1) (by omega) a1 (by omega)
        (fun x hx => (List.mem_append.mp hx).elim (h1 x) (a2 x)) (all_drop h2) (all_drop h3)
      rw [List.length_append] at b3
      exact ⟨b1.more (by omega), b2, by omega⟩
    · rw [comb_end c]
      exact ⟨h.more (by omega), h1, by show outs.length ≤ _; omega⟩
/-- the growth of a merge of so many -/
theorem grow {o e : Nat} (h : 1 ≤ o) : 2 * (o * o) + 2 * (e * e) + 2 * e ≤ 2 * ((o + e) * (o + e)) := by
  have h1 : e ≤ o * e := Nat.le_mul_of_pos_left e h
  have h2 : (o + e) * (o + e) = o * o + o * e + (o * e + e * e) := by
    rw [Nat.add_mul, Nat.mul_add, Nat.mul_add, Nat.mul_comm e o]
  omega
theorem mrg_few {f : Int} (hf : Low f) : ∀ (j n : Nat) (st : Nets) (xs ys : List Int) (many : Nat), Few n st → n + 2 * ((xs.length + ys.length) * (xs.length + ys.length)) ≤ 1000000 → (∀ x ∈ xs, Fit x) → (∀ x ∈ ys, Fit x) →
    Few (n + 2 * ((xs.length + ys.length) * (xs.length + ys.length))) (mrg f j st xs ys many).1 ∧ (∀ x ∈ (mrg f j st xs ys many).2, Fit x) ∧ (mrg f j st xs ys many).2.length ≤ xs.length + ys.length
  | 0, n, st, xs, ys, many, h, _, _, _ => ⟨h.more (by omega), fun x hx => (by cases hx), Nat.zero_le _⟩
  | j + 1, n, st, xs, ys, many, h, hn, h1, h2 => by
    by_cases c : xs = [] ∨ ys = [] ∨ many = 0
    · rw [mrg_none c]
      exact ⟨h.more (by omega), all_take (fun x hx => (List.mem_append.mp hx).elim (h1 x) (h2 x)), by show ((xs ++ ys).take many).length ≤ _; rw [List.length_take, List.length_append]; omega⟩
    have xp : 1 ≤ xs.length := List.length_pos_iff.mpr fun z => c (.inl z)
    have yp : 1 ≤ ys.length := List.length_pos_iff.mpr fun z => c (.inr (.inl z))
    by_cases c2 : xs.length = 1 ∧ ys.length = 1
    · obtain ⟨a, rfl⟩ := (short (Nat.le_of_eq c2.1)).resolve_left fun z => c (.inl z)
      obtain ⟨b, rfl⟩ := (short (Nat.le_of_eq c2.2)).resolve_left fun z => c (.inr (.inl z))
      rw [mrg_one (fun z => c (.inr (.inr z)))]
      obtain ⟨c1, c2, _, c3, _⟩ := cmp_few (both := decide (1 < many)) h hf (by omega) (h1 a List.mem_cons_self) (h2 b List.mem_cons_self)
      exact ⟨c1.more (by show n + 2 ≤ n + 8; omega), c2, c3⟩
    · rw [mrg_more c c2]
      have l1 := stp2_len xs
      have l2 := stp2_len ys
      have l3 := stp2_len (xs.drop 1)
      have l4 := stp2_len (ys.drop 1)
      rw [List.length_drop] at l3 l4
      have gr := grow (o := (stp2 xs).length + (stp2 ys).length) (e := (stp2 (xs.drop 1)).length + (stp2 (ys.drop 1)).length) (by omega)
      rw [show (stp2 xs).length + (stp2 ys).length + ((stp2 (xs.drop 1)).length + (stp2 (ys.drop 1)).length) = xs.length + ys.length by omega] at gr
      have e1 : 1 * 1 ≤ ((stp2 (xs.drop 1)).length + (stp2 (ys.drop 1)).length) * ((stp2 (xs.drop 1)).length + (stp2 (ys.drop 1)).length) := Nat.mul_le_mul (by omega) (by omega)
      obtain ⟨a1, a2, a3⟩ := mrg_few hf j n st (stp2 xs) (stp2 ys) (many / 2 + 1) h (by omega) (mem_stp2 h1) (mem_stp2 h2)
      obtain ⟨b1, b2, b3⟩ := mrg_few hf j _ _ (stp2 (xs.drop 1)) (stp2 (ys.drop 1)) (many / 2) a1 (by omega) (mem_stp2 (all_drop h1)) (mem_stp2 (all_drop h2))
      obtain ⟨d1, d2, d3⟩ := comb_few hf (many := many) _ _ _ ((mrg f j st (stp2 xs) (stp2 ys) (many / 2 + 1)).2.take 1) ((mrg f j st (stp2 xs) (stp2 ys) (many / 2 + 1)).2.drop 1) _ (Nat.le_refl _) b1 (by omega) (all_take a2) (all_drop a2) b2
      rw [List.length_take, List.length_drop] at d3
      exact ⟨d1.more (by omega), d2, by omega⟩

/-! ### a net in the heap -/
structure NetR (H : Hp) (C S dx N W : Addr) (f : Int) (st : Nets) : Prop where
  ins : H S = some (.ins C dx [("_first", .int f), ("named", .ref N), ("said", .ref W)])
  ne : N ≠ W
  ex : ∃ vn vc, H N = some (.lst vn) ∧ TpAll H vn st.ns ∧ H W = some (.lst vc) ∧ TpAll H vc st.cs
/-- what stays: all but two -/
structure NK (N W : Addr) (H H' : Hp) : Prop where
  k : ∀ b o, H b = some o → b ≠ N → b ≠ W → H' b = some o
theorem NK.refl {N W : Addr} {H : Hp} : NK N W H H := ⟨fun _ _ h _ _ => h⟩
theorem NK.trans {N W : Addr} {H H1 H2 : Hp} (a : NK N W H H1) (b : NK N W H1 H2) : NK N W H H2 := ⟨fun c o h n m => b.k c o (a.k c o h n m) n m⟩
theorem NK.same {N W : Addr} {H H1 : Hp} (s : Same H H1) : NK N W H H1 := ⟨fun c o h _ _ => s c o h⟩
theorem NK.upN {N W : Addr} {H : Hp} {o : HO} : NK N W H (upd H N o) := ⟨fun c u h n _ => by rw [upd_ne n]; exact h⟩
theorem NK.upW {N W : Addr} {H : Hp} {o : HO} : NK N W H (upd H W o) := ⟨fun c u h _ n => by rw [upd_ne n]; exact h⟩
section
variable {H : Hp} {C S dx N W : Addr} {f : Int} {st : Nets}
theorem NetR.lsts (h : NetR H C S dx N W f st) : (∃ xs, H N = some (.lst xs)) ∧ ∃ xs, H W = some (.lst xs) := by
  obtain ⟨vn, vc, hn, _, hc, _⟩ := h.ex
  exact ⟨⟨_, hn⟩, ⟨_, hc⟩⟩
theorem NetR.kt (h : NetR H C S dx N W f st) {H' : Hp} (k : NK N W H H') : KT H H' := fun a xs e => by
  obtain ⟨⟨a1, h1⟩, ⟨a2, h2⟩⟩ := h.lsts
  exact k.k a _ e (ne_of e h1 (by intro z; cases z)) (ne_of e h2 (by intro z; cases z))
theorem NetR.same (h : NetR H C S dx N W f st) {H' : Hp} (s : Same H H') : NetR H' C S dx N W f st := by
  obtain ⟨vn, vc, hn, tn, hc, tc⟩ := h.ex
  exact ⟨s _ _ h.ins, h.ne, vn, vc, s _ _ hn, tn.kt (KT.same s), s _ _ hc, tc.kt (KT.same s)⟩
theorem NetR.sn (h : NetR H C S dx N W f st) : S ≠ N ∧ S ≠ W := by
  obtain ⟨⟨a1, h1⟩, ⟨a2, h2⟩⟩ := h.lsts
  exact ⟨ne_of h.ins h1 (by intro z; cases z), ne_of h.ins h2 (by intro z; cases z)⟩
/-- a name more -/
theorem NetR.putN (h : NetR H C S dx N W f st) {vn : List V} (hn : H N = some (.lst vn)) (tn : TpAll H vn st.ns) {v : V} {d : PyData} (tv : Tp H v d) : NetR (upd H N (.lst (vn ++ [v]))) C S dx N W f ⟨st.ns ++ [d], st.cs⟩ := by
  obtain ⟨vn', vc, hn', _, hc, tc⟩ := h.ex
  have k : KT H (upd H N (.lst (vn ++ [v]))) := KT.lst hn
  exact ⟨by rw [upd_ne h.sn.1]; exact h.ins, h.ne, _, vc, upd_same, (tn.snoc tv).kt k, by rw [upd_ne h.ne.symm]; exact hc, tc.kt k⟩
/-- a clause more -/
theorem NetR.putW (h : NetR H C S dx N W f st) {vc : List V} (hc : H W = some (.lst vc)) (tc : TpAll H vc st.cs) {v : V} {d : PyData} (tv : Tp H v d) : NetR (upd H W (.lst (vc ++ [v]))) C S dx N W f ⟨st.ns, st.cs ++ [d]⟩ := by
  obtain ⟨vn, vc', hn, tn, hc', _⟩ := h.ex
  have k : KT H (upd H W (.lst (vc ++ [v]))) := KT.lst hc
  exact ⟨by rw [upd_ne h.sn.2]; exact h.ins, h.ne, vn, _, by rw [upd_ne h.ne]; exact hn, tn.kt k, upd_same, (tc.snoc tv).kt k⟩
end
/-! ### a net's methods -/
theorem hasM_zero {P : Program} {w : World} {K : PySem.W.Frag} {mg : Str → Option Value} {base : Heap} {C : Addr} {k : Nat} {m qual : Str} {st : Stmt} {ps : List Str} {sp : Sp} (A : MethAt K C m qual st)
    (B : ∀ (kV doc pm : Value) (an : Option Addr) (cdv ct : Value) (us : List Value), us.length = ps.length → bindArgs (PySem.W.fnOf m qual (defArgs st) (defBody st) (defScope st) .none kV doc pm an cdv ct) ⟨us, []⟩ = pure (ps.zip us))
    (no : ∀ vs H Q E, ¬ sp vs H Q E) : HasM P w K mg base C k m ps sp := by
  obtain ⟨f, fd, hm, F⟩ := A.ex
  exact ⟨f, fd, hm, F.binds B, fun vs H Q E h => absurd h (no _ _ _ _), fun A out s H args us vs Q E _ _ _ _ h => absurd h (no _ _ _ _)⟩
def spName (C : Addr) : Sp := fun vs H Q _ => ∃ (S dx N W : Addr) (f : Int) (st : Nets) (v : V) (d : PyData), vs = [.ref S, v] ∧ NetR H C S dx N W f st ∧ Tp H v d ∧ st.ns.length ≤ 1000000 ∧
  ∀ H', NetR H' C S dx N W f ⟨st.ns ++ [.tuple [.int (f + (st.ns.length : Nat)), d]], st.cs⟩ → NK N W H H' → Q (.int (f + (st.ns.length : Nat))) H'
def spHigh (C : Addr) : Sp := fun vs H Q _ => ∃ (S dx N W : Addr) (f : Int) (st : Nets) (a b : Int) (many : Nat), vs = [.ref S, .int a, .int b, .int many] ∧ NetR H C S dx N W f st ∧ st.ns.length ≤ 900000 ∧ st.cs.length ≤ 1900000 ∧ many ≠ 0 ∧
  ∀ H' p, NetR H' C S dx N W f (st.cmp f a b (decide (1 < many))).1 → NK N W H H' → H' p = some (.tup ((st.cmp f a b (decide (1 < many))).2.map V.int)) → Q (.ref p) H'
def spMrg (C : Addr) (j : Nat) : Sp := fun vs H Q _ => ∃ (S dx N W : Addr) (f : Int) (st : Nets) (p q : Addr) (xs ys : List Int) (many n : Nat), vs = [.ref S, .ref p, .ref q, .int many] ∧ NetR H C S dx N W f st ∧ H p = some (.tup (xs.map V.int)) ∧ H q = some (.tup (ys.map V.int)) ∧
  xs.length + ys.length ≤ j ∧ 1 ≤ j ∧ Low f ∧ Few n st ∧ n + 2 * ((xs.length + ys.length) * (xs.length + ys.length)) ≤ 500000 ∧ (∀ x ∈ xs, Fit x) ∧ (∀ x ∈ ys, Fit x) ∧
  ∀ H' r, NetR H' C S dx N W f (mrg f j st xs ys many).1 → NK N W H H' → H' r = some (.tup ((mrg f j st xs ys many).2.map V.int)) → Q (.ref r) H'
section
variable {P : Program} {w : World} {K : PySem.W.Frag} {mg : Str → Option Value} {base : Heap}
theorem hm_name {cs : Nat → Addr} (T : Top K mg cs) : HasM P w K mg base (cs 0) 1 "_name" ["self", "meaning"] (spName (cs 0)) := by
  refine has_ofM T.m_Net__name sc_Net__name bd_Net__name (fun vs H Q E h => ?_) (fun f cdv Ar outer s H vs Q E hr h => ?_)
  · obtain ⟨S, dx, N, W, f, st, v, d, rfl, _⟩ := h
    rfl
  · have hu := hu_of hr
    have nd := sc_Net__name.nd
    obtain ⟨S, dx, N, W, f, st, v, d, rfl, R, tv, few, k⟩ := h
    refine ⟨_, (pss_cons (ps_set (i := 2) nd rfl (.inl rfl) (pe_op op_add (pe_fld (pv 0) rfl) (pe_callB call_len_seq (by rfl) T.b_len (by decide +kernel) (pa_cons (pe_fld (pv 0) rfl) pa_nil))))
    (pss_cons (ps_expr (pe_bm PySem.F.plainAttrs_list PySem.F.slot_list_append PySem.F.type_list_append mt_append (pe_fld (pv 0) rfl) (pa_cons (pe_tup (pa_cons (pv 2) (pa_cons (pv 1) pa_nil))) pa_nil)))
    (pss_one (ps_ret (pv 2))))), ?_⟩
    obtain ⟨vn, vc, hn, tn, hc, tc⟩ := R.ex
    have ln := tn.len
    have line : (5000000 : Nat) < sizeLine := by decide
    refine ⟨_, rfl, S, cs 0, dx, _, _, rfl, R.ins, T.cl_Net, T.n_Net__first, rfl, _, rfl, S, cs 0, dx, _, _, rfl, R.ins, T.cl_Net, T.n_Net_named, rfl, N, _, rfl, .inl (SqL.of hn), _, _, rfl, rfl, ?_⟩
    refine ⟨_, rfl, S, cs 0, dx, _, _, rfl, R.ins, T.cl_Net, T.n_Net_named, rfl, .inl ⟨rfl, _, SqL.of hn⟩, _, rfl, _, rfl, by show 2 ≤ sizeLine; decide, fun p hp => ⟨N, vn, .ref p, rfl, rfl, same_new hp _ _ hn, by omega, _, rfl, ?_⟩⟩
    rw [ln]
    have s1 := same_new (o := .tup [V.int (f + (st.ns.length : Nat)), v]) hp
    exact k _ ((R.same s1).putN (s1 _ _ hn) (tn.kt (KT.same s1)) (.new hp (.cons (.int _) (.cons tv .nil)))) (NK.trans (NK.same s1) NK.upN)
theorem hm_high {cs : Nat → Addr} (T : Top K mg cs) (h_Net__name : HasM P w K mg base (cs 0) 1 "_name" ["self", "meaning"] (spName (cs 0))) : HasM P w K mg base (cs 0) 2 "_high_and_low" ["self", "one", "other", "many"] (spHigh (cs 0)) := by
  refine has_ofM T.m_Net__high_and_low sc_Net__high_and_low bd_Net__high_and_low (fun vs H Q E h => ?_) (fun f cdv Ar outer s H vs Q E hr h => ?_)
  · obtain ⟨S, dx, N, W, f, st, a, b, many, rfl, _⟩ := h
    rfl
  · have hu := hu_of hr
    have nd := sc_Net__high_and_low.nd
    obtain ⟨S, dx, N, W, f, st, a, b, many, rfl, R, few, few2, hm, k⟩ := h
    refine ⟨_, (pss_cons (ps_set (i := 4) nd rfl (.inl rfl) (pe_hasM T.cl_Net h_Net__name (hr.mono (by omega)) (pv 0) (pa_cons (pe_tup (pa_cons (pe_tup (pa_cons (pv 1) pa_nil)) (pa_cons (pe_tup (pa_cons (pv 2) pa_nil)) pa_nil))) pa_nil)))
    (pss_cons (ps_expr (pe_bm PySem.F.plainAttrs_list PySem.F.slot_list_append PySem.F.type_list_append mt_append (pe_fld (pv 0) rfl) (pa_cons (pe_tup (pa_cons (pe_un un_neg (pv 1)) (pa_cons (pv 4) pa_nil))) pa_nil)))
    (pss_cons (ps_expr (pe_bm PySem.F.plainAttrs_list PySem.F.slot_list_append PySem.F.type_list_append mt_append (pe_fld (pv 0) rfl) (pa_cons (pe_tup (pa_cons (pe_un un_neg (pv 2)) (pa_cons (pv 4) pa_nil))) pa_nil)))
    (pss_cons (ps_if (pt_cmpR op_eq (pv 3) pe_int (nomark _)) (pss_one (ps_ret (pe_tup (pa_cons (pv 4) pa_nil)))) pss_nil)
    (pss_cons (ps_set (i := 5) nd rfl (.inl rfl) (pe_hasM T.cl_Net h_Net__name (hr.mono (by omega)) (pv 0) (pa_cons (pe_tup (pa_cons (pe_tup (pa_cons (pv 1) (pa_cons (pv 2) pa_nil))) pa_nil)) pa_nil)))
    (pss_cons (ps_expr (pe_bm PySem.F.plainAttrs_list PySem.F.slot_list_append PySem.F.type_list_append mt_append (pe_fld (pv 0) rfl) (pa_cons (pe_tup (pa_cons (pe_un un_neg (pv 1)) (pa_cons (pe_un un_neg (pv 2)) (pa_cons (pv 5) pa_nil)))) pa_nil)))
    (pss_one (ps_ret (pe_tup (pa_cons (pv 4) (pa_cons (pv 5) pa_nil))))))))))), ?_⟩
    have line : (5000000 : Nat) < sizeLine := by decide
    refine ⟨_, rfl, S, dx, _, rfl, R.ins, rfl, _, rfl, by show 1 ≤ sizeLine; decide, fun p1 n1 => ⟨_, rfl, by show 1 ≤ sizeLine; decide, fun p2 n2 => ⟨by show 2 ≤ sizeLine; decide, fun p3 n3 => ?_⟩⟩⟩
    have t1 : Tp (upd H p1 (.tup [.int a])) (.ref p1) (.tuple [.int a]) := .new n1 (.cons (.int _) .nil)
    have t2 : Tp (upd (upd H p1 (.tup [.int a])) p2 (.tup [.int b])) (.ref p2) (.tuple [.int b]) := .new n2 (.cons (.int _) .nil)
    have t3 := Tp.new n3 (.cons (t1.kt (KT.new n2)) (.cons t2 .nil))
    have s3 := ((same_new (o := .tup [.int a]) n1).trans (same_new (o := .tup [.int b]) n2)).trans (same_new (o := .tup [V.ref p1, .ref p2]) n3)
    have R3 := R.same s3
    generalize upd (upd (upd H p1 (.tup [.int a])) p2 (.tup [.int b])) p3 (.tup [V.ref p1, .ref p2]) = H3 at t3 s3 R3
    refine ⟨S, dx, N, W, f, st, _, _, rfl, R3, t3, by omega, fun H4 R4 k4 => ?_⟩
    have k4' := NK.trans (NK.same s3) k4
    generalize eh : f + ((st.ns.length : Nat) : Int) = h at R4
    have R4 : NetR H4 (cs 0) S dx N W f ⟨st.ns ++ [dHigh h a b], st.cs⟩ := R4
    -- two clauses
    obtain ⟨vn, vc, hn, tn, hc, tc⟩ := R4.ex
    have lc := tc.len
    have lc : vc.length = st.cs.length := lc
    refine ⟨_, rfl, S, cs 0, dx, _, _, rfl, R4.ins, T.cl_Net, T.n_Net_said, rfl, .inl ⟨rfl, _, SqL.of hc⟩, _, rfl, _, rfl, _, rfl, by show 2 ≤ sizeLine; decide, fun p5 n5 => ⟨W, vc, .ref p5, rfl, rfl, same_new n5 _ _ hc, by omega, ?_⟩⟩
    have s5 := same_new (o := .tup [V.int (-a), .int h]) n5
    have R5 := (R4.same s5).putW (s5 _ _ hc) (tc.kt (KT.same s5)) (.new n5 (.cons (.int _) (.cons (.int _) .nil)))
    have k5 := NK.trans k4' (NK.trans (NK.same s5) (NK.upW (N := N) (W := W) (o := .lst (vc ++ [.ref p5]))))
    generalize upd (upd H4 p5 (.tup [V.int (-a), .int h])) W (.lst (vc ++ [.ref p5])) = H5 at R5 k5
    obtain ⟨vn', vc', hn', tn', hc', tc'⟩ := R5.ex
    have lc' := tc'.len
    have lc' : vc'.length = (st.cs ++ [PyData.tuple [.int (-a), .int h]]).length := lc'
    rw [List.length_append, List.length_singleton] at lc'
    refine ⟨_, rfl, S, cs 0, dx, _, _, rfl, R5.ins, T.cl_Net, T.n_Net_said, rfl, .inl ⟨rfl, _, SqL.of hc'⟩, _, rfl, _, rfl, _, rfl, by show 2 ≤ sizeLine; decide, fun p6 n6 => ⟨W, vc', .ref p6, rfl, rfl, same_new n6 _ _ hc', by omega, ?_⟩⟩
    have s6 := same_new (o := .tup [V.int (-b), .int h]) n6
    have R6 := (R5.same s6).putW (s6 _ _ hc') (tc'.kt (KT.same s6)) (.new n6 (.cons (.int _) (.cons (.int _) .nil)))
    have k6 := NK.trans k5 (NK.trans (NK.same s6) (NK.upW (N := N) (W := W) (o := .lst (vc' ++ [.ref p6]))))
    generalize upd (upd H5 p6 (.tup [V.int (-b), .int h])) W (.lst (vc' ++ [.ref p6])) = H6 at R6 k6
    have R6 : NetR H6 (cs 0) S dx N W f ⟨st.ns ++ [dHigh h a b], st.cs ++ [dCl2 a h, dCl2 b h]⟩ := by
      have z : (st.cs ++ [PyData.tuple [.int (-a), .int h]]) ++ [PyData.tuple [.int (-b), .int h]] = st.cs ++ [dCl2 a h, dCl2 b h] := by
        rw [List.append_assoc]
        unfold dCl2
        rw [Int.zero_sub, Int.zero_sub]
        rfl
      rw [← z]
      exact R6
    refine ⟨_, rfl, rfl, _, rfl, ite2 (fun c => ?_) (fun c => ?_)⟩
    · have c1 := V.int.inj (of_decide_eq_true c)
      have c2 : decide (1 < many) = false := decide_eq_false (by omega)
      rw [c2] at k
      refine ⟨_, rfl, by show 1 ≤ sizeLine; decide, fun p7 n7 => k _ p7 ?_ (NK.trans k6 (NK.same (same_new n7))) ?_⟩
      · have e : (st.cmp f a b false).1 = ⟨st.ns ++ [dHigh h a b], st.cs ++ [dCl2 a h, dCl2 b h]⟩ := by
          rw [← eh]
          rfl
        rw [e]
        exact R6.same (same_new n7)
      · have e : (st.cmp f a b false).2 = [h] := by
          rw [← eh]
          rfl
        rw [e]
        exact upd_same
    · have c2 : decide (1 < many) = true := decide_eq_true (by
        have : ¬ many = 1 := fun z => c (decide_eq_true (by rw [z]; rfl))
        omega)
      rw [c2] at k
      refine ⟨_, rfl, S, dx, _, rfl, R6.ins, rfl, _, rfl, _, rfl, by show 2 ≤ sizeLine; decide, fun p7 n7 => ⟨by show 1 ≤ sizeLine; decide, fun p8 n8 => ?_⟩⟩
      have t7 : Tp (upd H6 p7 (.tup [.int a, .int b])) (.ref p7) (.tuple [.int a, .int b]) := .new n7 (.cons (.int _) (.cons (.int _) .nil))
      have t8 := Tp.new n8 (.cons t7 .nil)
      have s8 := (same_new (o := .tup [.int a, .int b]) n7).trans (same_new (o := .tup [V.ref p7]) n8)
      have R8 := R6.same s8
      have k8 := NK.trans k6 (NK.same (N := N) (W := W) s8)
      generalize upd (upd H6 p7 (.tup [.int a, .int b])) p8 (.tup [V.ref p7]) = H8 at t8 R8 k8
      refine ⟨S, dx, N, W, f, _, _, _, rfl, R8, t8, by show (st.ns ++ [dHigh h a b]).length ≤ _; rw [List.length_append, List.length_singleton]; omega, fun H9 R9 k9 => ?_⟩
      have k9' := NK.trans k8 k9
      have el : f + (((⟨st.ns ++ [dHigh h a b], st.cs ++ [dCl2 a h, dCl2 b h]⟩ : Nets).ns.length : Nat) : Int) = h + 1 := by
        show f + (((st.ns ++ [dHigh h a b]).length : Nat) : Int) = h + 1
        rw [List.length_append, List.length_singleton]
        omega
      rw [el] at R9 ⊢
      have R9 : NetR H9 (cs 0) S dx N W f ⟨st.ns ++ [dHigh h a b] ++ [dLow (h + 1) a b], st.cs ++ [dCl2 a h, dCl2 b h]⟩ := R9
      obtain ⟨vn9, vc9, hn9, tn9, hc9, tc9⟩ := R9.ex
      have lc9 := tc9.len
      have lc9 : vc9.length = (st.cs ++ [dCl2 a h, dCl2 b h]).length := by rw [lc9]
      rw [List.length_append] at lc9
      have lc9 : vc9.length = st.cs.length + 2 := lc9
      refine ⟨_, rfl, S, cs 0, dx, _, _, rfl, R9.ins, T.cl_Net, T.n_Net_said, rfl, .inl ⟨rfl, _, SqL.of hc9⟩, _, rfl, _, rfl, _, rfl, _, rfl, _, rfl, by show 3 ≤ sizeLine; decide, fun pa na => ⟨W, vc9, .ref pa, rfl, rfl, same_new na _ _ hc9, by omega, ?_⟩⟩
      have sa := same_new (o := .tup [V.int (-a), .int (-b), .int (h + 1)]) na
      have Ra := (R9.same sa).putW (sa _ _ hc9) (tc9.kt (KT.same sa)) (.new na (.cons (.int _) (.cons (.int _) (.cons (.int _) .nil))))
      have ka := NK.trans k9' (NK.trans (NK.same sa) (NK.upW (N := N) (W := W) (o := .lst (vc9 ++ [.ref pa]))))
      generalize upd (upd H9 pa (.tup [V.int (-a), .int (-b), .int (h + 1)])) W (.lst (vc9 ++ [.ref pa])) = Ha at Ra ka
      refine ⟨_, rfl, _, rfl, by show 2 ≤ sizeLine; decide, fun pb nb => k _ pb ?_ (NK.trans ka (NK.same (same_new nb))) ?_⟩
      · have e : (st.cmp f a b true).1 = ⟨st.ns ++ [dHigh h a b] ++ [dLow (h + 1) a b], st.cs ++ [dCl2 a h, dCl2 b h] ++ [.tuple [.int (-a), .int (-b), .int (h + 1)]]⟩ := by
          rw [← eh, ← Int.zero_sub a, ← Int.zero_sub b]
          rfl
        rw [e]
        exact Ra.same (same_new nb)
      · have e : (st.cmp f a b true).2 = [h, h + 1] := by
          rw [← eh]
          rfl
        rw [e]
        exact upd_same
end

/-! ### a reading told more shortly -/
theorem pt_wk {X : Cx} {e : Expr} {t : TT} (u : TT) (h : PT X e t) (hw : ∀ σ H R, u σ H R → t σ H R) : PT X e u := ⟨fun pins s σ H Q I hq => h.run pins s σ H Q I (hw σ H Q hq)⟩
theorem ps_or2 {X : Cx} {st : Stmt} {t u : TS} (h : PS X st t) (h2 : PS X st u) : PS X st (fun D σ H => t D σ H ∨ u D σ H) := ⟨fun pins s σ H D I rd => rd.elim (fun z => h.run pins s σ H D I z) fun z => h2.run pins s σ H D I z⟩
/-- a or b, a a dict, frozen or not -/
def tOrD (ta tb : TE) : TE := fun σ H Q => ta σ H fun x H1 => ∃ (a : Addr) (kvs : List (Key × V)), x = .ref a ∧ Rd H1 a (.dK kvs) ∧ if kvs.isEmpty = true then tb σ H1 Q else Q x H1
theorem pe_orD {X : Cx} {a b : Expr} {ta tb : TE} {rest : List Expr} {pos : Pos} (ha : PE X a ta) (hb : PE X (.BoolOp .Or (b :: rest) pos) tb) : PE X (.BoolOp .Or (a :: b :: rest) pos) (tOrD ta tb) := by
  refine ⟨fun pins s σ H Q I h => BoolOp_or (thn (ha.run pins s σ H _ I h) fun v s1 z => ?_)⟩
  obtain ⟨x, H1, I1, rx, d, kvs, rfl, rd, q⟩ := z
  cases rx
  refine d_truth I1 rd fun s' I' => ?_
  cases e : kvs.isEmpty with
  | true =>
    rw [e, if_pos rfl] at q
    rw [Bool.not_true, if_neg Bool.false_ne_true]
    exact hb.run pins s' σ H1 Q I' q
  | false =>
    rw [e, if_neg Bool.false_ne_true] at q
    rw [Bool.not_false, if_pos rfl]
    exact ⟨.ref d, H1, I', rfl, q⟩

/-! ### pieces of tuples -/
theorem cut_nat (xs : List V) (i j : Nat) : cutV xs (some (i : Int)) (some (j : Int)) = (xs.drop i).take (j - i) := by
  unfold cutV
  rw [HT.sIx_nat, HT.sIx_nat]
  by_cases h : i ≤ xs.length
  · rw [Nat.min_eq_left h]
    by_cases h2 : j ≤ xs.length
    · rw [Nat.min_eq_left h2]
    · rw [Nat.min_eq_right (by omega), List.take_of_length_le (by rw [List.length_drop]; omega), List.take_of_length_le (by rw [List.length_drop]; omega)]
  · rw [List.drop_eq_nil_of_le (by omega : xs.length ≤ min i xs.length), List.drop_eq_nil_of_le (by omega : xs.length ≤ i), List.take_nil, List.take_nil]
theorem cut_nat0 (xs : List V) (j : Nat) : cutV xs none (some (j : Int)) = xs.take j := by
  unfold cutV
  rw [HT.sIx_none, HT.sIx_nat, List.drop_zero, Nat.sub_zero]
  by_cases h2 : j ≤ xs.length
  · rw [Nat.min_eq_left h2]
  · rw [Nat.min_eq_right (by omega), List.take_of_length_le (Nat.le_refl _), List.take_of_length_le (by omega)]
section
variable {K : PySem.W.Frag} {H : Hp} {a b : Addr} {xs ys : List V} {Q : VK}
theorem tup_take {m : Nat} (ha : H a = some (.tup xs)) (k : ∀ H' r, Same H H' → H' r = some (.tup (xs.take m)) → Q (.ref r) H') : rSlA K (.ref a) none (some (m : Int)) H Q := by
  refine ⟨a, xs, rfl, SqT.of ha, fun h => ?_, fun _ p hp => ?_⟩
  · rw [HT.sIx_nat] at h
    refine k H a (Same.refl _) ?_
    rw [List.take_of_length_le (by omega)]
    exact ha
  · rw [cut_nat0]
    exact k _ p (same_new hp) upd_same
theorem tup_mid {i j : Nat} (ha : H a = some (.tup xs)) (k : ∀ H' r, Same H H' → H' r = some (.tup ((xs.drop i).take (j - i))) → Q (.ref r) H') : rSlA K (.ref a) (some (i : Int)) (some (j : Int)) H Q := by
  refine ⟨a, xs, rfl, SqT.of ha, fun h => ?_, fun _ p hp => ?_⟩
  · rw [HT.sIx_nat, HT.sIx_nat] at h
    refine k H a (Same.refl _) ?_
    have e : (xs.drop i).take (j - i) = xs := by
      rw [← cut_nat]
      unfold cutV
      rw [HT.sIx_nat, HT.sIx_nat, h.1, h.2, Nat.sub_zero, List.drop_zero, List.take_length]
    rw [e]
    exact ha
  · rw [cut_nat]
    exact k _ p (same_new hp) upd_same
theorem tup_cat (ha : H a = some (.tup xs)) (hb : H b = some (.tup ys)) (small : xs.length + ys.length ≤ sizeLine) (k : ∀ H' r, Same H H' → H' r = some (.tup (xs ++ ys)) → Q (.ref r) H') : rCatA K (.ref a) (.ref b) H Q := by
  refine ⟨a, b, xs, ys, rfl, rfl, SqT.of ha, SqT.of hb, small, fun e => ?_, fun _ e => ?_, fun _ _ p hp => k _ p (same_new hp) upd_same⟩
  · subst e
    exact k H b (Same.refl _) hb
  · subst e
    refine k H a (Same.refl _) ?_
    rw [List.append_nil]
    exact ha
end
theorem drop_map (xs : List Int) (i : Nat) : (xs.map V.int).drop i = (xs.drop i).map V.int := (List.map_drop ..).symm
theorem cut2_none (xs : List Int) : cut2 (xs.map V.int) none = (stp2 xs).map V.int := by
  unfold cut2 st0
  rw [List.drop_zero, stp2_map]
theorem cut2_one (xs : List Int) : cut2 (xs.map V.int) (some 1) = (stp2 (xs.drop 1)).map V.int := by
  unfold cut2 st0
  cases xs with
  | nil => rfl
  | cons x r =>
    rw [Nat.min_eq_left (by rw [List.length_map, List.length_cons]; omega), drop_map, stp2_map]
/-! ### tests whose ways meet again -/
def tNone : TT := fun σ H R => ∃ (p q : Addr) (xs ys : List Int) (m : Nat), σ[1]? = some (some (.ref p)) ∧ σ[2]? = some (some (.ref q)) ∧ σ[3]? = some (some (.int m)) ∧ H p = some (.tup (xs.map V.int)) ∧ H q = some (.tup (ys.map V.int)) ∧ R (decide (xs = [] ∨ ys = [] ∨ m = 0)) H
def tBoth : TT := fun σ H R => ∃ (p q : Addr) (xs ys : List Int), σ[1]? = some (some (.ref p)) ∧ σ[2]? = some (some (.ref q)) ∧ H p = some (.tup (xs.map V.int)) ∧ H q = some (.tup (ys.map V.int)) ∧ R (decide (xs.length = 1 ∧ ys.length = 1)) H
def tTurn : TT := fun σ H R => ∃ (u o e : Addr) (us os es : List Int) (m i : Nat), σ[3]? = some (some (.int m)) ∧ σ[4]? = some (some (.ref o)) ∧ σ[5]? = some (some (.ref e)) ∧ σ[6]? = some (some (.ref u)) ∧ σ[7]? = some (some (.int i)) ∧
  H u = some (.tup (us.map V.int)) ∧ H o = some (.tup (os.map V.int)) ∧ H e = some (.tup (es.map V.int)) ∧ R (decide (us.length < m ∧ (os.drop (i + 1) ≠ [] ∨ es.drop i ≠ []))) H
theorem dec_eq {p q : Prop} [Decidable p] [Decidable q] (h : p ↔ q) : decide p = decide q := decide_eq_decide.mpr h
theorem grow2 {o e : Nat} (h : 2 ≤ o) (h1 : 1 ≤ e) : 2 * (o * o) + 2 * (e * e) + 2 * e + 6 ≤ 2 * ((o + e) * (o + e)) := by
  have h1 : 2 * e ≤ o * e := Nat.mul_le_mul_right e h
  have h2 : (o + e) * (o + e) = o * o + o * e + (o * e + e * e) := by
    rw [Nat.add_mul, Nat.mul_add, Nat.mul_add, Nat.mul_comm e o]
  omega
theorem mrg_turn2 {f : Int} {st : Nets} {xs ys : List Int} {many : Nat} (hx : xs.length ≤ 1) (hy : ys.length ≤ 1) (hm : many ≠ 0) : ∀ {j : Nat}, 1 ≤ j → mrg f j st xs ys many = st.one f xs ys many
  | 0, h => absurd h (by decide)
  | _ + 1, _ => mrg_turn hx hy hm
theorem isEmpty_ints (xs : List Int) : (xs.map V.int).isEmpty = decide (xs = []) := by
  cases xs with
  | nil => rfl
  | cons x r => rfl
section
variable {P : Program} {w : World} {K : PySem.W.Frag} {mg : Str → Option Value} {base : Heap}
theorem hm_merged {cs : Nat → Addr} (T : Top K mg cs) (h_Net__high_and_low : HasM P w K mg base (cs 0) 2 "_high_and_low" ["self", "one", "other", "many"] (spHigh (cs 0))) : ∀ j : Nat, HasM P w K mg base (cs 0) (j + 3) "merged" ["self", "one", "other", "many"] (spMrg (cs 0) j)
  | 0 => hasM_zero T.m_Net_merged bd_Net_merged fun vs H Q E h => by
    obtain ⟨S, dx, N, W, f, st, p, q, xs, ys, many, n, _, _, _, _, _, h, _⟩ := h
    omega
  | j + 1 => by
    have h_Net_merged := hm_merged T h_Net__high_and_low j
    refine has_ofM T.m_Net_merged sc_Net_merged bd_Net_merged (fun vs H Q E h => ?_) (fun f cdv Ar outer s H vs Q E hr h => ?_)
    · obtain ⟨S, dx, N, W, f, st, p, q, xs, ys, many, n, rfl, _⟩ := h
      rfl
    · have hu := hu_of hr
      have nd := sc_Net_merged.nd
      obtain ⟨S, dx, N, W, f, st, p, q, xs, ys, many, n, rfl, R, hp, hq, lj, _, lf, few, cap, fx, fy, k⟩ := h
      refine ⟨_, (pss_cons (ps_if (pt_wk tNone (PW.pt (pw_or (pt_not (pt_truth (pv 1) (by intro _; rfl))) (pw_or (pt_not (pt_truth (pv 2) (by intro _; rfl))) (pw_or1 (pt_cmpR op_eq (pv 3) pe_int (nomark _)))))) ?none) (pss_one (ps_ret (pe_slice sl_tupA (pe_op op_catA (pv 1) (pv 2)) po_none (po_some (pv 3))))) pss_nil)
    (pss_cons (ps_if (pt_wk tBoth (PW.pt (pw_and (pt_cmpR op_eq (pe_callB call_len_seq (by rfl) T.b_len (by decide +kernel) (pa_cons (pv 1) pa_nil)) pe_int (nomark _)) (pw_and1 (pt_cmpR op_eq (pe_callB call_len_seq (by rfl) T.b_len (by decide +kernel) (pa_cons (pv 2) pa_nil)) pe_int (nomark _))))) ?both) (pss_one (ps_ret (pe_hasM T.cl_Net h_Net__high_and_low (hr.mono (by omega)) (pv 0) (pa_cons (pe_ix ix_tup (pv 1) pe_int (fun _ _ => rfl)) (pa_cons (pe_ix ix_tup (pv 2) pe_int (fun _ _ => rfl)) (pa_cons (pv 3) pa_nil)))))) pss_nil)
    (pss_cons (ps_set (i := 4) nd rfl (.inl rfl) (pe_hasM T.cl_Net h_Net_merged (hr.mono (by omega)) (pv 0) (pa_cons (pe_st2 (pv 1) po_none) (pa_cons (pe_st2 (pv 2) po_none) (pa_cons (pe_op op_add (pe_op op_fdivW (pv 3) pe_int) pe_int) pa_nil)))))
    (pss_cons (ps_set (i := 5) nd rfl (.inl rfl) (pe_hasM T.cl_Net h_Net_merged (hr.mono (by omega)) (pv 0) (pa_cons (pe_st2 (pv 1) (po_some pe_int)) (pa_cons (pe_st2 (pv 2) (po_some pe_int)) (pa_cons (pe_op op_fdivW (pv 3) pe_int) pa_nil)))))
    (pss_cons (ps_set (i := 6) nd rfl (.inl rfl) (pe_slice sl_tupA (pv 4) po_none (po_some pe_int)))
    (pss_cons (ps_set (i := 7) nd rfl (.inl rfl) pe_int)
    (pss_cons (ps_while PassesOwn.never (pt_wk tTurn (PW.pt (pw_and (pt_cmpR op_lt (pe_callB call_len_seq (by rfl) T.b_len (by decide +kernel) (pa_cons (pv 6) pa_nil)) (pv 3) (nomark _)) (pw_and1 (PW.pt (pw_or (pt_cmpR op_lt (pe_op op_add (pv 7) pe_int) (pe_callB call_len_seq (by rfl) T.b_len (by decide +kernel) (pa_cons (pv 4) pa_nil)) (nomark _)) (pw_or1 (pt_cmpR op_lt (pv 7) (pe_callB call_len_seq (by rfl) T.b_len (by decide +kernel) (pa_cons (pv 5) pa_nil)) (nomark _)))))))) ?turn) (pss_cons (ps_set (i := 6) nd rfl (.inl rfl) (pe_op op_catA (pv 6) (pe_hasM T.cl_Net h_Net_merged (hr.mono (by omega)) (pv 0) (pa_cons (pe_slice sl_tupA (pv 4) (po_some (pe_op op_add (pv 7) pe_int)) (po_some (pe_op op_add (pv 7) pe_int))) (pa_cons (pe_slice sl_tupA (pv 5) (po_some (pv 7)) (po_some (pe_op op_add (pv 7) pe_int))) (pa_cons (pe_op op_sub (pv 3) (pe_callB call_len_seq (by rfl) T.b_len (by decide +kernel) (pa_cons (pv 6) pa_nil))) pa_nil))))))
    (pss_one (ps_aug (i := 7) nd rfl (.inl rfl) pe_int ip_add))))
    (pss_one (ps_ret (pv 6)))))))))), ?_⟩
      case none =>
        intro σ H R h
        obtain ⟨p, q, xs, ys, m, e1, e2, e3, hp, hq, k⟩ := h
        refine ⟨_, e1, _, .inr (.inl ⟨_, SqT.of hp, rfl⟩), ?_⟩
        show (if (!(!(xs.map V.int).isEmpty)) = true then _ else _)
        rw [Bool.not_not, isEmpty_ints]
        by_cases c1 : xs = []
        · rw [decide_eq_true (.inl c1)] at k
          rw [decide_eq_true c1]
          exact iteT k
        rw [decide_eq_false c1]
        refine iteF ⟨_, e2, _, .inr (.inl ⟨_, SqT.of hq, rfl⟩), ?_⟩
        show (if (!(!(ys.map V.int).isEmpty)) = true then _ else _)
        rw [Bool.not_not, isEmpty_ints]
        by_cases c2 : ys = []
        · rw [decide_eq_true (.inr (.inl c2))] at k
          rw [decide_eq_true c2]
          exact iteT k
        rw [decide_eq_false c2]
        refine iteF ⟨_, e3, rfl, _, rfl, ?_⟩
        have e : decide (V.int (m : Int) = V.int 0) = decide (xs = [] ∨ ys = [] ∨ m = 0) := dec_eq ⟨fun z => .inr (.inr (by have := V.int.inj z; omega)), fun z => by
          rcases z with z | z | z
          · exact absurd z c1
          · exact absurd z c2
          · rw [z]
            rfl⟩
        rw [e]
        exact k
      case both =>
        intro σ H R h
        obtain ⟨p, q, xs, ys, e1, e2, hp, hq, k⟩ := h
        have one : ∀ l : List Int, decide (V.int (((l.map V.int).length : Nat) : Int) = V.int 1) = decide (l.length = 1) := fun l => dec_eq ⟨fun z => by
          have := V.int.inj z
          rw [List.length_map] at this
          omega, fun z => by
          rw [List.length_map, z]
          rfl⟩
        refine ⟨_, e1, p, _, rfl, .inr (SqT.of hp), rfl, _, rfl, ?_⟩
        rw [one]
        by_cases c1 : xs.length = 1
        · rw [decide_eq_true c1]
          refine iteT ⟨_, e2, q, _, rfl, .inr (SqT.of hq), rfl, _, rfl, ?_⟩
          rw [one, show decide (ys.length = 1) = decide (xs.length = 1 ∧ ys.length = 1) from dec_eq ⟨fun z => ⟨c1, z⟩, fun z => z.2⟩]
          exact k
        · rw [decide_eq_false (fun z => c1 z.1)] at k
          rw [decide_eq_false c1]
          exact iteF k
      case turn =>
        intro σ H R h
        obtain ⟨u, o, e, us, os, es, m, i, e3, e4, e5, e6, e7, hu, ho, he, k⟩ := h
        refine ⟨_, e6, u, _, rfl, .inr (SqT.of hu), _, e3, _, _, rfl, rfl, _, rfl, ?_⟩
        have el : decide ((((us.map V.int).length : Nat) : Int) < (m : Int)) = decide (us.length < m) := dec_eq (by rw [List.length_map]; omega)
        rw [el]
        by_cases c1 : us.length < m
        · rw [decide_eq_true c1]
          refine iteT ⟨_, e7, _, _, rfl, rfl, _, e4, o, _, rfl, .inr (SqT.of ho), _, _, rfl, rfl, _, rfl, ?_⟩
          have eo : decide ((i : Int) + 1 < (((os.map V.int).length : Nat) : Int)) = decide (os.drop (i + 1) ≠ []) := dec_eq (by
            rw [List.length_map, ← List.length_pos_iff, List.length_drop]
            omega)
          rw [eo]
          by_cases c2 : os.drop (i + 1) ≠ []
          · rw [decide_eq_true ⟨c1, .inl c2⟩] at k
            rw [decide_eq_true c2]
            exact iteT k
          rw [decide_eq_false c2]
          refine iteF ⟨_, e7, _, e5, e, _, rfl, .inr (SqT.of he), _, _, rfl, rfl, _, rfl, ?_⟩
          have ee : decide ((i : Int) < (((es.map V.int).length : Nat) : Int)) = decide (us.length < m ∧ (os.drop (i + 1) ≠ [] ∨ es.drop i ≠ [])) := dec_eq (by
            rw [List.length_map]
            constructor
            · intro z
              refine ⟨c1, .inr fun y => ?_⟩
              have := congrArg List.length y
              rw [List.length_drop, List.length_nil] at this
              omega
            · rintro ⟨_, z⟩
              have z := z.resolve_left c2
              have := List.length_pos_iff.mpr z
              rw [List.length_drop] at this
              omega)
          rw [ee]
          exact k
        · rw [decide_eq_false (fun z => c1 z.1)] at k
          rw [decide_eq_false c1]
          exact iteF k
      have line : (5000000 : Nat) < sizeLine := by decide
      have s60 : (xs.length + ys.length) ≤ (xs.length + ys.length) * (xs.length + ys.length) := by
        rcases Nat.eq_zero_or_pos (xs.length + ys.length) with z | z
        · rw [z]
          exact Nat.zero_le _
        · exact Nat.le_mul_of_pos_left _ z
      refine ⟨p, q, xs, ys, many, rfl, rfl, rfl, hp, hq, ite2 (fun c => ?_) (fun c => ?_)⟩
      · have c := of_decide_eq_true c
        rw [mrg_none c] at k
        refine ⟨_, rfl, _, rfl, tup_cat hp hq (by rw [List.length_map, List.length_map]; omega) fun H1 r s1 h1 => ⟨_, rfl, _, rfl, tup_take h1 fun H2 r2 s2 h2 => k H2 r2 (R.same (s1.trans s2)) (NK.same (s1.trans s2)) ?_⟩⟩
        rw [h2]
        show _ = some (HO.tup (((xs ++ ys).take many).map V.int))
        rw [List.map_take, List.map_append]
      have c : ¬ (xs = [] ∨ ys = [] ∨ many = 0) := fun z => c (decide_eq_true z)
      refine ⟨p, q, xs, ys, rfl, rfl, hp, hq, ite2 (fun c2 => ?_) (fun c2 => ?_)⟩
      · have c2 := of_decide_eq_true c2
        obtain ⟨a, rfl⟩ := (short (Nat.le_of_eq c2.1)).resolve_left fun z => c (.inl z)
        obtain ⟨b, rfl⟩ := (short (Nat.le_of_eq c2.2)).resolve_left fun z => c (.inr (.inl z))
        have m0 : many ≠ 0 := fun z => c (.inr (.inr z))
        rw [mrg_one m0] at k
        have l1 := few.l
        have l2 := few.c
        exact ⟨_, rfl, S, dx, _, rfl, R.ins, rfl, _, rfl, p, _, _, _, rfl, rfl, SqT.of hp, at_of (j := 0) rfl rfl, _, rfl, q, _, _, _, rfl, rfl, SqT.of hq, at_of (j := 0) rfl rfl, _, rfl, S, dx, N, W, f, st, a, b, many, rfl, R, by omega, by omega, m0, k⟩
      have c2 : ¬ (xs.length = 1 ∧ ys.length = 1) := fun z => c2 (decide_eq_true z)
      rw [mrg_more c c2] at k
      have xp : 1 ≤ xs.length := List.length_pos_iff.mpr fun z => c (.inl z)
      have yp : 1 ≤ ys.length := List.length_pos_iff.mpr fun z => c (.inr (.inl z))
      have l1 := stp2_len xs
      have l2 := stp2_len ys
      have l3 := stp2_len (xs.drop 1)
      have l4 := stp2_len (ys.drop 1)
      rw [List.length_drop] at l3 l4
      have gr := grow2 (o := (stp2 xs).length + (stp2 ys).length) (e := (stp2 (xs.drop 1)).length + (stp2 (ys.drop 1)).length) (by omega) (by omega)
      have eoe : (stp2 xs).length + (stp2 ys).length + ((stp2 (xs.drop 1)).length + (stp2 (ys.drop 1)).length) = xs.length + ys.length := by omega
      rw [eoe] at gr
      have dv : CDivW (many : Int) 2 := ⟨by decide, by decide⟩
      obtain ⟨a1, a2, a3⟩ := mrg_few lf j n st (stp2 xs) (stp2 ys) (many / 2 + 1) few (by omega) (mem_stp2 fx) (mem_stp2 fy)
      obtain ⟨b1, b2, b3⟩ := mrg_few lf j _ _ (stp2 (xs.drop 1)) (stp2 (ys.drop 1)) (many / 2) a1 (by omega) (mem_stp2 (all_drop fx)) (mem_stp2 (all_drop fy))
      refine ⟨_, rfl, S, dx, _, rfl, R.ins, rfl, _, rfl, p, _, rfl, .inl rfl, .inl ⟨SqT.of hp, fun p1 n1 => ?_⟩⟩
      have s1 := same_new (o := .tup (cut2 (xs.map V.int) none)) n1
      have hp1 : (upd H p1 (.tup (cut2 (xs.map V.int) none))) p1 = some (.tup ((stp2 xs).map V.int)) := by
        rw [upd_same, cut2_none]
      generalize upd H p1 (.tup (cut2 (xs.map V.int) none)) = H1 at s1 hp1
      refine ⟨_, rfl, q, _, rfl, .inl rfl, .inl ⟨SqT.of (s1 _ _ hq), fun p2 n2 => ?_⟩⟩
      have s2 := same_new (o := .tup (cut2 (ys.map V.int) none)) n2
      have hp2 : (upd H1 p2 (.tup (cut2 (ys.map V.int) none))) p2 = some (.tup ((stp2 ys).map V.int)) := by
        rw [upd_same, cut2_none]
      generalize upd H1 p2 (.tup (cut2 (ys.map V.int) none)) = H2 at s2 hp2
      have s12 := s1.trans s2
      refine ⟨_, rfl, _, _, rfl, rfl, dv, _, _, rfl, rfl, S, dx, N, W, f, st, p1, p2, stp2 xs, stp2 ys, many / 2 + 1, n, ?_, R.same s12, s2 _ _ hp1, hp2, by omega, by omega, lf, few, by omega, mem_stp2 fx, mem_stp2 fy, fun H3 o R3 k3 ho3 => ?_⟩
      · show [V.ref S, .ref p1, .ref p2, .int ((many : Int) / 2 + 1)] = _
        rw [show (many : Int) / 2 + 1 = ((many / 2 + 1 : Nat) : Int) by omega]
      have k03 := NK.trans (NK.same s12) k3
      have t03 := R.kt k03
      have hp3 := t03 _ _ hp
      have hq3 := t03 _ _ hq
      generalize mrg f j st (stp2 xs) (stp2 ys) (many / 2 + 1) = A at k R3 ho3 a1 a2 a3 b1 b2 b3
      refine ⟨_, rfl, S, dx, _, rfl, R3.ins, rfl, _, rfl, 1, rfl, p, _, rfl, .inr rfl, .inl ⟨SqT.of hp3, fun p4 n4 => ?_⟩⟩
      have s4 := same_new (o := .tup (cut2 (xs.map V.int) (some 1))) n4
      have hp4 : (upd H3 p4 (.tup (cut2 (xs.map V.int) (some 1)))) p4 = some (.tup ((stp2 (xs.drop 1)).map V.int)) := by
        rw [upd_same, cut2_one]
      generalize upd H3 p4 (.tup (cut2 (xs.map V.int) (some 1))) = H4 at s4 hp4
      refine ⟨_, rfl, 1, rfl, q, _, rfl, .inr rfl, .inl ⟨SqT.of (s4 _ _ hq3), fun p5 n5 => ?_⟩⟩
      have s5 := same_new (o := .tup (cut2 (ys.map V.int) (some 1))) n5
      have hp5 : (upd H4 p5 (.tup (cut2 (ys.map V.int) (some 1)))) p5 = some (.tup ((stp2 (ys.drop 1)).map V.int)) := by
        rw [upd_same, cut2_one]
      generalize upd H4 p5 (.tup (cut2 (ys.map V.int) (some 1))) = H5 at s5 hp5
      have s45 := s4.trans s5
      refine ⟨_, rfl, _, _, rfl, rfl, dv, S, dx, N, W, f, A.1, p4, p5, stp2 (xs.drop 1), stp2 (ys.drop 1), many / 2, _, ?_, R3.same s45, s5 _ _ hp4, hp5, by omega, by omega, lf, a1, by omega, mem_stp2 (all_drop fx), mem_stp2 (all_drop fy), fun H6 e R6 k6 he6 => ?_⟩
      · show [V.ref S, .ref p4, .ref p5, .int ((many : Int) / 2)] = _
        rw [show (many : Int) / 2 = ((many / 2 : Nat) : Int) by omega]
      have k06 := NK.trans k03 (NK.trans (NK.same s45) k6)
      have ho6 := R3.kt (NK.trans (NK.same s45) k6) _ _ ho3
      generalize mrg f j A.1 (stp2 (xs.drop 1)) (stp2 (ys.drop 1)) (many / 2) = B at k R6 he6 b1 b2 b3
      obtain ⟨sA, od⟩ := A
      obtain ⟨sB, ev⟩ := B
      dsimp only at k R6 he6 ho6 a1 a2 a3 b1 b2 b3
      refine ⟨_, rfl, 1, rfl, tup_take (m := 1) ho6 fun H7 u s7 hu7 => ?_⟩
      rw [← List.map_take] at hu7
      have j2 : 2 ≤ j := by
        have : ¬ (xs.length = 1 ∧ ys.length = 1) := c2
        omega
      generalize eF : comb f many sB (od.take 1) (od.drop 1) ev = F at k
      have lt1 := List.length_take (i := 1) (l := od)
      refine ⟨fun m σ H' => ∃ (i : Nat) (u : Addr) (us : List Int) (st' : Nets), m = (od.length + ev.length) - i ∧ σ = [some (.ref S), some (.ref p), some (.ref q), some (.int many), some (.ref o), some (.ref e), some (.ref u), some (.int (i : Nat))] ∧
        NetR H' (cs 0) S dx N W f st' ∧ NK N W H H' ∧ H' o = some (.tup (od.map V.int)) ∧ H' e = some (.tup (ev.map V.int)) ∧ H' u = some (.tup (us.map V.int)) ∧ Few (n + 2 * (((stp2 xs).length + (stp2 ys).length) * ((stp2 xs).length + (stp2 ys).length)) + 2 * (((stp2 (xs.drop 1)).length + (stp2 (ys.drop 1)).length) * ((stp2 (xs.drop 1)).length + (stp2 (ys.drop 1)).length)) + 2 * min i ev.length) st' ∧
        us.length ≤ 2 * i + 1 ∧ comb f many st' us (od.drop (i + 1)) (ev.drop i) = F,
        ⟨_, 0, u, od.take 1, sB, rfl, rfl, R6.same s7, NK.trans k06 (NK.same s7), s7 _ _ ho6, s7 _ _ he6, hu7, b1.more (by omega), by omega, eF⟩, ?_⟩
      rintro m σ H' ⟨i, u', us, st', rfl, rfl, R', k', ho', he', hu', few', lus, eF'⟩
      refine ⟨u', o, e, us, od, ev, many, i, rfl, rfl, rfl, rfl, rfl, hu', ho', he', ite2 (fun c3 => ⟨_, fun σ' H' h => h, ?_⟩) (fun c3 => ?_)⟩
      · obtain ⟨c3, c4⟩ := of_decide_eq_true c3
        rw [comb_go c3 c4, List.drop_drop, List.drop_drop] at eF'
        have li : i < od.length + ev.length := by
          rcases c4 with z | z
          · have := List.length_pos_iff.mpr z
            rw [List.length_drop] at this
            omega
          · have := List.length_pos_iff.mpr z
            rw [List.length_drop] at this
            omega
        have lx := List.length_take (i := 1) (l := od.drop (i + 1))
        have ly := List.length_take (i := 1) (l := ev.drop i)
        rw [List.length_drop] at lx ly
        have fX : ∀ x ∈ (od.drop (i + 1)).take 1, Fit x := all_take (all_drop a2)
        have fY : ∀ x ∈ (ev.drop i).take 1, Fit x := all_take (all_drop b2)
        have few2 := one_few (many := many - us.length) few' lf (by omega) fX fY
        have e1 : i + 2 - (i + 1) = 1 := by omega
        have e2 : i + 1 - i = 1 := by omega
        have sq : ((((od.drop (i + 1)).take 1).length + ((ev.drop i).take 1).length) * (((od.drop (i + 1)).take 1).length + ((ev.drop i).take 1).length)) ≤ (((od.drop (i + 1)).take 1).length + ((ev.drop i).take 1).length) * 2 := Nat.mul_le_mul_left _ (by omega)
        refine ⟨_, rfl, _, rfl, S, dx, _, rfl, R'.ins, rfl, _, rfl, _, rfl, _, _, rfl, rfl, _, rfl, _, rfl, _, _, rfl, rfl, _, rfl, tup_mid (i := i + 1) (j := i + 2) ho' fun H8 r8 s8 h8 => ?_⟩
        rw [e1, drop_map, ← List.map_take] at h8
        refine ⟨_, rfl, _, rfl, _, rfl, _, rfl, _, _, rfl, rfl, _, rfl, tup_mid (i := i) (j := i + 1) (s8 _ _ he') fun H9 r9 s9 h9 => ?_⟩
        rw [e2, drop_map, ← List.map_take] at h9
        have s89 := s8.trans s9
        refine ⟨_, rfl, _, rfl, u', _, rfl, .inr (SqT.of (s89 _ _ hu')), _, _, rfl, rfl, S, dx, N, W, f, st', r8, r9, (od.drop (i + 1)).take 1, (ev.drop i).take 1, many - us.length, _, ?_, R'.same s89, s9 _ _ h8, h9, by omega, by omega, lf, few', by omega, fX, fY, fun Ha ra Ra ka ha => ?_⟩
        · show [V.ref S, .ref r8, .ref r9, .int ((many : Int) - (((us.map V.int).length : Nat) : Int))] = _
          rw [List.length_map, show (many : Int) - ((us.length : Nat) : Int) = ((many - us.length : Nat) : Int) by omega]
        rw [mrg_turn2 (by omega) (by omega) (by omega) (by omega)] at Ra ha
        have kb := NK.trans (NK.same s89) ka
        have tb := R'.kt kb
        obtain ⟨few3, _, l3⟩ := few2
        refine tup_cat (tb _ _ hu') ha (by rw [List.length_map, List.length_map]; omega) fun Hb rb sb hb => ?_
        rw [← List.map_append] at hb
        refine ⟨_, rfl, _, _, rfl, rfl, (od.length + ev.length) - (i + 1), by omega, i + 1, rb, _, _, rfl, rfl, Ra.same sb, NK.trans k' (NK.trans kb (NK.same sb)), sb _ _ (tb _ _ ho'), sb _ _ (tb _ _ he'), hb, few3.more (by omega), by rw [List.length_append]; omega, eF'⟩
      · have c3 := of_decide_eq_false (Bool.eq_false_iff.mpr c3)
        rw [comb_end c3] at eF'
        rw [← eF'] at k
        exact ⟨_, rfl, k H' u' R' k' hu'⟩
end

/-! ### the program's knot of a net -/
theorem tpall_ints {H : Hp} : ∀ l : List Int, TpAll H (l.map V.int) (l.map PyData.int)
  | [] => .nil
  | x :: r => .cons (.int x) (tpall_ints r)
def tI (l : List Int) : PyData := .tuple (l.map PyData.int)
theorem tp_ints {H : Hp} {p : Addr} {l : List Int} (h : H p = some (.tup (l.map V.int))) : Tp H (.ref p) (tI l) := .tup h (tpall_ints l)
def dKnot (xs ys : List Int) (r : Nets × List Int) : PyData := .tuple [.tuple [tI xs, tI ys], .tuple r.1.ns, .tuple r.1.cs, tI r.2]
def st00 : Nets := ⟨[], []⟩
theorem few00 : Few 0 st00 := ⟨Nat.le_refl _, Nat.le_refl _, fun _ h => (by cases h), fun _ h => (by cases h)⟩
def spNet (C : Addr) : Sp := fun vs H Q _ => ∃ (S dx : Addr) (f : Int), vs = [.ref S, .int f] ∧ H S = some (.ins C dx []) ∧ ∀ H' N W, NetR H' C S dx N W f st00 → (∀ b o, H b = some o → b ≠ S → H' b = some o) → H N = none → H W = none → Q .non H'
def spKnot : Sp := fun vs H Q _ => ∃ (p q : Addr) (xs ys : List Int) (cap : Nat) (f : Int), vs = [.ref p, .ref q, .int cap, .int f] ∧ H p = some (.tup (xs.map V.int)) ∧ H q = some (.tup (ys.map V.int)) ∧ xs.length + ys.length ≤ 60 ∧ Low f ∧ (∀ x ∈ xs, Fit x) ∧ (∀ x ∈ ys, Fit x) ∧
  ∀ (H' : Hp) (v p4 p5 p6 r : Addr) (o : Obj) (vn : List V), Same H H' → H' v = some (.tup [.ref p4, .ref p5, .ref p6, .ref r]) → Tp H' (.ref p4) (.tuple [tI xs, tI ys]) → H' p5 = some (.frz o (.tup vn)) → o.dict = none → TpAll H' vn (mrg f 60 st00 xs ys cap).1.ns →
    Tp H' (.ref p6) (.tuple (mrg f 60 st00 xs ys cap).1.cs) → H' r = some (.tup ((mrg f 60 st00 xs ys cap).2.map V.int)) → Q (.ref v) H'
section
variable {P : Program} {w : World} {K : PySem.W.Frag} {mg : Str → Option Value} {base : Heap}
theorem hi_net {cs : Nat → Addr} (T : Top K mg cs) : HasI P w K mg base (cs 0) 1 "Net" ["self", "first"] (spNet (cs 0)) := by
  refine has_ofI T.g_Net T.i_Net sc_Net___init__ bd_Net___init__ (fun vs H Q E h => ?_) (fun f cdv Ar outer s H vs Q E hr h => ?_)
  · obtain ⟨S, dx, f, rfl, _⟩ := h
    rfl
  · have hu := hu_of hr
    have nd := sc_Net___init__.nd
    obtain ⟨S, dx, f, rfl, hS, k⟩ := h
    refine ⟨_, (pss_cons (ps_fld (pv 0) (pv 1) rfl)
    (pss_cons (ps_fld (pv 0) (pe_lst pa_nil) rfl)
    (pss_one (ps_fld (pv 0) (pe_lst pa_nil) rfl)))), ?_⟩
    refine ⟨_, rfl, _, rfl, S, cs 0, dx, _, rfl, hS, T.cl_Net, T.n_Net__first, by show 0 < 1000; decide, ?_⟩
    have h1 : (upd H S (.ins (cs 0) dx (putF "_first" (.int f) []))) S = some (.ins (cs 0) dx (putF "_first" (.int f) [])) := upd_same
    have k1 : ∀ b o, H b = some o → b ≠ S → (upd H S (.ins (cs 0) dx (putF "_first" (.int f) []))) b = some o := fun b o e n => by
      rw [upd_ne n]
      exact e
    generalize upd H S (.ins (cs 0) dx (putF "_first" (.int f) [])) = H1 at h1 k1
    refine ⟨by show 0 ≤ sizeLine; decide, fun N nN => ⟨_, rfl, S, cs 0, dx, _, rfl, same_new nN _ _ h1, T.cl_Net, T.n_Net_named, by show 1 < 1000; decide, ?_⟩⟩
    have n1 : H N = none := by
      cases e : H N with
      | none => rfl
      | some o =>
        have ne : N ≠ S := fun z => by
          rw [z, h1] at nN
          cases nN
        rw [k1 N o e ne] at nN
        cases nN
    have hN2 : (upd (upd H1 N (.lst [])) S (.ins (cs 0) dx (putF "named" (.ref N) (putF "_first" (.int f) [])))) N = some (.lst []) := by
      rw [upd_ne (fun z => by rw [z, h1] at nN; cases nN)]
      exact upd_same
    have h2 : (upd (upd H1 N (.lst [])) S (.ins (cs 0) dx (putF "named" (.ref N) (putF "_first" (.int f) [])))) S = some (.ins (cs 0) dx (putF "named" (.ref N) (putF "_first" (.int f) []))) := upd_same
    have k2 : ∀ b o, H b = some o → b ≠ S → (upd (upd H1 N (.lst [])) S (.ins (cs 0) dx (putF "named" (.ref N) (putF "_first" (.int f) [])))) b = some o := fun b o e n => by
      rw [upd_ne n, upd_ne (fun z => by rw [z, n1] at e; cases e)]
      exact k1 b o e n
    generalize upd (upd H1 N (.lst [])) S (.ins (cs 0) dx (putF "named" (.ref N) (putF "_first" (.int f) []))) = H2 at hN2 h2 k2
    refine ⟨by show 0 ≤ sizeLine; decide, fun W nW => ⟨_, rfl, S, cs 0, dx, _, rfl, same_new nW _ _ h2, T.cl_Net, T.n_Net_said, by show 2 < 1000; decide, ?_⟩⟩
    have n2 : H W = none := by
      cases e : H W with
      | none => rfl
      | some o =>
        have ne : W ≠ S := fun z => by
          rw [z, h2] at nW
          cases nW
        rw [k2 W o e ne] at nW
        cases nW
    have WS : W ≠ S := fun z => by
      rw [z, h2] at nW
      cases nW
    have NS : N ≠ S := fun z => by
      rw [z, h2] at hN2
      cases hN2
    have NW : N ≠ W := fun z => by
      rw [← z, hN2] at nW
      cases nW
    refine k _ N W ⟨upd_same, NW, [], [], ?_, .nil, ?_, .nil⟩ (fun b o e n => ?_) n1 n2
    · rw [upd_ne NS, upd_ne NW]
      exact hN2
    · rw [upd_ne WS]
      exact upd_same
    · rw [upd_ne n, upd_ne (fun z => by rw [z, n2] at e; cases e)]
      exact k2 b o e n
theorem has_knot {cs : Nat → Addr} (T : Top K mg cs) (h_Net___init__ : HasI P w K mg base (cs 0) 1 "Net" ["self", "first"] (spNet (cs 0))) (h_Net_merged : HasM P w K mg base (cs 0) 63 "merged" ["self", "one", "other", "many"] (spMrg (cs 0) 60)) :
    Has P w K mg base 64 "net_knot" ["one", "other", "cap", "first"] spKnot := by
  refine has_of T.d_net_knot sc_net_knot bd_net_knot (fun vs H Q E h => ?_) (fun f cdv Ar outer s H vs Q E hr h => ?_)
  · obtain ⟨p, q, xs, ys, cap, f, rfl, _⟩ := h
    rfl
  · have hu := hu_of hr
    have nd := sc_net_knot.nd
    obtain ⟨p, q, xs, ys, cap, f, rfl, hp, hq, l60, lf, fx, fy, k⟩ := h
    refine ⟨_, (pss_cons (ps_set (i := 4) nd rfl (.inl rfl) (pe_hasI h_Net___init__ (hr.mono (by omega)) (by rfl) (pa_cons (pv 3) pa_nil)))
    (pss_cons (ps_set (i := 5) nd rfl (.inl rfl) (pe_hasM T.cl_Net h_Net_merged (hr.mono (by omega)) (pv 4) (pa_cons (pv 0) (pa_cons (pv 1) (pa_cons (pv 2) pa_nil)))))
    (pss_one (ps_ret (pe_tup (pa_cons (pe_tup (pa_cons (pv 0) (pa_cons (pv 1) pa_nil))) (pa_cons (pe_callTy call_tuple_frz (by rfl) T.b_tuple (by decide +kernel) (pa_cons (pe_fld (pv 4) rfl) pa_nil)) (pa_cons (pe_callTy call_tuple_of (by rfl) T.b_tuple (by decide +kernel) (pa_cons (pe_fld (pv 4) rfl) pa_nil)) (pa_cons (pv 5) pa_nil))))))))), ?_⟩
    have line : (5000000 : Nat) < sizeLine := by decide
    refine ⟨_, rfl, fun S dx nS ndx nex => ⟨S, dx, f, rfl, upd_same, fun H2 N W R2 k2 nN nW => ⟨rfl, ?_⟩⟩⟩
    have a1 : ∀ b o, H b = some o → (upd (upd H dx (.own S)) S (.ins (cs 0) dx [])) b = some o := fun b o e => by
      rw [upd_ne (ne_of_none e nS), upd_ne (ne_of_none e ndx)]
      exact e
    have nN' : H N = none := by
      cases e : H N with
      | none => rfl
      | some o =>
        rw [a1 N o e] at nN
        cases nN
    have nW' : H W = none := by
      cases e : H W with
      | none => rfl
      | some o =>
        rw [a1 W o e] at nW
        cases nW
    have s2 : Same H H2 := fun b o e => k2 b o (a1 b o e) (ne_of_none e nS)
    have sq : (xs.length + ys.length) * (xs.length + ys.length) ≤ 60 * 60 := Nat.mul_le_mul l60 l60
    refine ⟨_, rfl, S, dx, _, rfl, R2.ins, rfl, _, rfl, _, rfl, _, rfl, S, dx, N, W, f, st00, p, q, xs, ys, cap, 0, rfl, R2, s2 _ _ hp, s2 _ _ hq, l60, by decide, lf, few00, by omega, fx, fy, fun H3 r R3 k3 h3 => ?_⟩
    have s3 : Same H H3 := fun b o e => k3.k b o (s2 b o e) (ne_of_none e nN') (ne_of_none e nW')
    obtain ⟨w1, w2, w3⟩ := mrg_few lf 60 0 st00 xs ys cap few00 (by omega) fx fy
    generalize eG : mrg f 60 st00 xs ys cap = G at *
    obtain ⟨vn, vc, hn, tn, hc, tc⟩ := R3.ex
    have ln := tn.len
    have lc := tc.len
    have l1 := w1.l
    have l2 := w1.c
    refine ⟨_, rfl, _, rfl, by show 2 ≤ sizeLine; decide, fun p4 n4 => ?_⟩
    have s4 := same_new (o := .tup [V.ref p, .ref q]) n4
    have t4 : Tp (upd H3 p4 (.tup [V.ref p, .ref q])) (.ref p4) (.tuple [tI xs, tI ys]) := .new n4 (.cons (tp_ints (s3 _ _ hp)) (.cons (tp_ints (s3 _ _ hq)) .nil))
    have R4 := R3.same s4
    generalize upd H3 p4 (.tup [V.ref p, .ref q]) = H4 at s4 t4 R4
    refine ⟨_, rfl, S, cs 0, dx, _, _, rfl, R4.ins, T.cl_Net, T.n_Net_named, rfl, N, vn, rfl, SqL.of (s4 _ _ hn), fun p5 o ho n5 => ?_⟩
    have s5 := same_new (o := .frz o (.tup vn)) n5
    have t5 : TpAll (upd H4 p5 (.frz o (.tup vn))) vn G.1.ns := (tn.kt (KT.same s4)).kt (KT.same s5)
    have e5 : (upd H4 p5 (.frz o (.tup vn))) p5 = some (.frz o (.tup vn)) := upd_same
    have R5 := R4.same s5
    generalize upd H4 p5 (.frz o (.tup vn)) = H5 at s5 t5 e5 R5
    refine ⟨_, rfl, S, cs 0, dx, _, _, rfl, R5.ins, T.cl_Net, T.n_Net_said, rfl, W, vc, rfl, .inl ⟨SqL.of (s5 _ _ (s4 _ _ hc)), fun p6 n6 => ?_⟩⟩
    have s6 := same_new (o := .tup vc) n6
    have t6 : Tp (upd H5 p6 (.tup vc)) (.ref p6) (.tuple G.1.cs) := .new n6 (tc.kt (KT.same (s4.trans s5)))
    generalize upd H5 p6 (.tup vc) = H6 at s6 t6
    refine ⟨_, rfl, by show 4 ≤ sizeLine; decide, fun p7 n7 => ?_⟩
    have s7 := same_new (o := .tup [V.ref p4, .ref p5, .ref p6, .ref r]) n7
    exact k _ p7 p4 p5 p6 r o vn ((((s3.trans s4).trans s5).trans s6).trans s7) upd_same (t4.kt (KT.same ((s5.trans s6).trans s7))) (s7 _ _ (s6 _ _ e5)) ho (t5.kt (KT.same (s6.trans s7))) (t6.kt (KT.same s7)) (s7 _ _ (s6 _ _ (s5 _ _ (s4 _ _ h3))))
end

/-! ### marks of unlike names, up to the ninth power -/
def nas (l : List Int) : List Nat := l.map Int.natAbs
structure Un (ms : List Int) : Prop where
  nd : (nas ms).Nodup
  nz : ∀ x ∈ ms, x ≠ 0
  lim : ∀ x ∈ ms, x.natAbs ≤ 10 ^ 12
theorem Un.nodup {ms : List Int} (h : Un ms) : ms.Nodup := by
  have := h.nd
  unfold nas at this
  exact (List.pairwise_map.mp this).imp fun h e => h (by rw [e])
theorem nas_one : ∀ {l : List Int}, (nas l).Nodup → ∀ x ∈ l, ∀ y ∈ l, x.natAbs = y.natAbs → x = y
  | a :: r, h, x, hx, y, hy, e => by
    have h' := List.nodup_cons.mp (show (a.natAbs :: nas r).Nodup from h)
    rcases List.mem_cons.mp hx with rfl | hx'
    · rcases List.mem_cons.mp hy with rfl | hy'
      · rfl
      · exact absurd (show x.natAbs ∈ nas r from List.mem_map.mpr ⟨y, hy', e.symm⟩) h'.1
    · rcases List.mem_cons.mp hy with rfl | hy'
      · exact absurd (show y.natAbs ∈ nas r from List.mem_map.mpr ⟨x, hx', e⟩) h'.1
      · exact nas_one h'.2 x hx' y hy' e
theorem Un.con {ms : List Int} (h : Un ms) {x : Int} (hx : x ∈ ms) : -x ∉ ms := fun z => by
  have e := nas_one h.nd x hx (-x) z (by omega)
  have := h.nz x hx
  omega
theorem Un.of_perm {ms ys : List Int} (h : Un ms) (p : (nas ys).Perm (nas ms)) : Un ys := by
  refine ⟨(p.nodup_iff).mpr h.nd, fun x hx z => ?_, fun x hx => ?_⟩
  · subst z
    have := p.mem_iff.mp (List.mem_map.mpr ⟨0, hx, rfl⟩)
    obtain ⟨y, hy, e⟩ := List.mem_map.mp this
    have := h.nz y hy
    omega
  · obtain ⟨y, hy, e⟩ := List.mem_map.mp (p.mem_iff.mp (List.mem_map.mpr ⟨x, hx, rfl⟩))
    have := h.lim y hy
    omega
/-- a clause of marks of these names -/
structure ClM (ms c : List Int) : Prop where
  nd : (nas c).Nodup
  sub : ∀ x ∈ c, ∃ y ∈ ms, x.natAbs = y.natAbs
theorem ClM.nodup {ms c : List Int} (h : ClM ms c) : c.Nodup := by
  have := h.nd
  unfold nas at this
  exact (List.pairwise_map.mp this).imp fun h e => h (by rw [e])
theorem ClM.nz {ms c : List Int} (h : ClM ms c) (u : Un ms) {x : Int} (hx : x ∈ c) : x ≠ 0 := by
  obtain ⟨y, hy, e⟩ := h.sub x hx
  have := u.nz y hy
  omega
theorem ClM.nil (ms : List Int) : ClM ms [] := ⟨List.nodup_nil, fun x hx => by cases hx⟩
theorem ClM.of_perm {ms ys ss : List Int} (h : Un ms) (p : (nas ys ++ nas ss).Perm (nas ms)) : ClM ms ys := by
  have n := (p.nodup_iff).mpr h.nd
  refine ⟨n.sublist (List.sublist_append_left _ _), fun x hx => ?_⟩
  obtain ⟨y, hy, e⟩ := List.mem_map.mp (p.mem_iff.mp (List.mem_append_left _ (List.mem_map.mpr ⟨x, hx, rfl⟩)))
  exact ⟨y, hy, e.symm⟩
theorem ClM.of_nas {ms c d : List Int} (h : ClM ms c) (e : nas d = nas c) : ClM ms d := by
  refine ⟨by rw [e]; exact h.nd, fun x hx => ?_⟩
  have : x.natAbs ∈ nas d := List.mem_map.mpr ⟨x, hx, rfl⟩
  rw [e] at this
  obtain ⟨y, hy, ey⟩ := List.mem_map.mp this
  obtain ⟨z, hz, ez⟩ := h.sub y hy
  exact ⟨z, hz, by omega⟩
theorem nas_snoc (l : List Int) (y : Int) : nas (l ++ [y]) = nas l ++ [y.natAbs] := by
  unfold nas
  rw [List.map_append]
  rfl
theorem erase_perm : ∀ (l : List Int) (r : Nat) (h : r < l.length), (l[r] :: l.eraseIdx r).Perm l
  | a :: t, 0, _ => List.Perm.refl _
  | a :: t, r + 1, h => (List.Perm.swap a _ _).trans ((List.perm_cons a).mpr (erase_perm t r (by simpa using h)))
theorem perm_move {ys ss : List Int} {r : Nat} (hr : r < ss.length) {y : Int} (e : y.natAbs = ss[r].natAbs) : (nas (ys ++ [y]) ++ nas (ss.eraseIdx r)).Perm (nas ys ++ nas ss) := by
  rw [nas_snoc, e, List.append_assoc]
  refine List.Perm.append_left _ ?_
  have p := (erase_perm ss r hr).map Int.natAbs
  exact p
theorem dec61 : ∀ b : Fin 61, ∀ d : Fin 61, 0 < b.val → 0 < d.val → b.val * d.val % 61 ≠ 0 := by decide +kernel
theorem inj61 {B : Int} {i j : Nat} (h0 : 1 ≤ B) (h1 : B ≤ 60) (hi : i < 61) (hij : j < i) : B * (i : Int) % 61 ≠ B * (j : Int) % 61 := fun e => by
  have d := dec61 ⟨B.toNat, by omega⟩ ⟨i - j, by omega⟩ (by show 0 < B.toNat; omega) (by show 0 < i - j; omega)
  have s : B * (i : Int) = B * (j : Int) + B * ((i - j : Nat) : Int) := by
    rw [← Int.mul_add]
    congr 1
    omega
  have eB : ((B.toNat : Nat) : Int) = B := by omega
  have m : B * ((i - j : Nat) : Int) % 61 = 0 := by
    rw [s] at e
    generalize B * (j : Int) = x at e
    generalize B * ((i - j : Nat) : Int) = y at e ⊢
    omega
  apply d
  have : ((B.toNat * (i - j) % 61 : Nat) : Int) = 0 := by
    rw [Int.natCast_emod, Int.natCast_mul, eB]
    exact m
  exact Int.ofNat.inj this
theorem names_nd {z4 z2 B : Int} {n : Nat} (hz4 : 1 ≤ z4) (hz2 : 1 ≤ z2) (h0 : 1 ≤ B) (h1 : B ≤ 60) (hn : n ≤ 61) : (nas ((List.range n).map fun (i : Nat) => z4 + z2 * (B * (0 + (i : Int)) % 61))).Nodup ∧
    ∀ x ∈ (List.range n).map (fun (i : Nat) => z4 + z2 * (B * (0 + (i : Int)) % 61)), x ≠ 0 := by
  have pos : ∀ i : Nat, 0 ≤ z2 * (B * (0 + (i : Int)) % 61) := fun i => Int.mul_nonneg (by omega) (Int.emod_nonneg _ (by decide))
  refine ⟨?_, fun x hx => ?_⟩
  · unfold nas
    rw [List.map_map]
    refine List.pairwise_map.mpr ((List.pairwise_lt_range (n := n)).imp_of_mem fun {a b} ha hb hab e => ?_)
    have hb' := List.mem_range.mp hb
    have e' : z4 + z2 * (B * (0 + (a : Int)) % 61) = z4 + z2 * (B * (0 + (b : Int)) % 61) := by
      have e : (z4 + z2 * (B * (0 + (a : Int)) % 61)).natAbs = (z4 + z2 * (B * (0 + (b : Int)) % 61)).natAbs := e
      have p1 := pos a
      have p2 := pos b
      omega
    have e2 : B * (0 + (a : Int)) % 61 = B * (0 + (b : Int)) % 61 := by
      have e3 : z2 * (B * (0 + (a : Int)) % 61) = z2 * (B * (0 + (b : Int)) % 61) := by omega
      exact Int.eq_of_mul_eq_mul_left (by omega) e3
    rw [Int.zero_add, Int.zero_add] at e2
    exact inj61 h0 h1 (by omega) hab e2.symm
  · obtain ⟨i, _, rfl⟩ := List.mem_map.mp hx
    have := pos i
    omega
theorem names_lim {z4 z2 B : Int} {n : Nat} (h4 : z4 + z2 * 60 ≤ 10 ^ 9) (hz4 : 1 ≤ z4) (hz2 : 1 ≤ z2) : ∀ x ∈ (List.range n).map (fun (i : Nat) => z4 + z2 * (B * (0 + (i : Int)) % 61)), x.natAbs ≤ 10 ^ 9 := fun x hx => by
  obtain ⟨i, _, rfl⟩ := List.mem_map.mp hx
  have a : 0 ≤ z2 * (B * (0 + (i : Int)) % 61) := Int.mul_nonneg (by omega) (Int.emod_nonneg _ (by decide))
  have b : z2 * (B * (0 + (i : Int)) % 61) ≤ z2 * 60 := Int.mul_le_mul_of_nonneg_left (Int.le_of_lt_add_one (Int.emod_lt_of_pos _ (by decide))) (by omega)
  generalize z2 * (B * (0 + (i : Int)) % 61) = y at a b
  omega
theorem Tape.cs {H H' : Hp} {t c a : Addr} {n : Nat} {qs : List Addr} {cs : List (List Int)} (h : Tape H t c n) (e : Cs H a qs cs) (k : Kp t H H') : Cs H' a qs cs := by
  obtain ⟨ns, spot, left, tc, _⟩ := h
  exact e.kp tc.d k
theorem Cs.snoc {H : Hp} {a q : Addr} {qs : List Addr} {cs : List (List Int)} {c : List Int} (h : Cs H a qs cs) (hq : H q = some (.tup (c.map V.int))) : Cs (upd H a (.lst (qs.map V.ref ++ [.ref q]))) a (qs ++ [q]) (cs ++ [c]) := by
  have hn := h.n
  refine ⟨by rw [upd_same, List.map_append]; rfl, by rw [List.length_append, List.length_append, hn]; rfl, fun i p d hp hd => ?_⟩
  have g : H p = some (.tup (d.map V.int)) := by
    rcases getElem_snoc hp with ⟨_, e⟩ | ⟨e1, rfl⟩
    · rcases getElem_snoc hd with ⟨_, e2⟩ | ⟨e2, _⟩
      · exact h.t i p d e e2
      · omega
    · rcases getElem_snoc hd with ⟨e2, _⟩ | ⟨_, rfl⟩
      · omega
      · exact hq
  rw [upd_ne (ne_of g h.l (by intro z; cases z))]
  exact g
theorem ins_at {α : Type} {xs : List α} {x y : α} {j i : Nat} (hj : j ≤ xs.length) (h : (xs.take j ++ [x] ++ xs.drop j)[i]? = some y) : (i < j ∧ xs[i]? = some y) ∨ (i = j ∧ x = y) ∨ (j < i ∧ xs[i - 1]? = some y) := by
  have lt : (xs.take j).length = j := by
    rw [List.length_take]
    omega
  rcases Nat.lt_trichotomy i j with c | c | c
  · rw [List.append_assoc, List.getElem?_append_left (by omega), List.getElem?_take, if_pos c] at h
    exact .inl ⟨c, h⟩
  · subst c
    rw [List.append_assoc, List.getElem?_append_right (by omega), lt, Nat.sub_self] at h
    exact .inr (.inl ⟨rfl, Option.some.inj h⟩)
  · rw [List.getElem?_append_right (by rw [List.length_append, lt]; exact c), List.length_append, lt, List.getElem?_drop] at h
    refine .inr (.inr ⟨c, ?_⟩)
    rw [← h]
    congr 1
    show i - 1 = j + (i - (j + 1))
    omega
theorem Cs.insert {H : Hp} {a q : Addr} {qs : List Addr} {cs : List (List Int)} {c : List Int} {j : Nat} (h : Cs H a qs cs) (hj : j ≤ cs.length) (hq : H q = some (.tup (c.map V.int))) :
    Cs (upd H a (.lst ((qs.map V.ref).take j ++ [.ref q] ++ (qs.map V.ref).drop j))) a (qs.take j ++ [q] ++ qs.drop j) (cs.take j ++ [c] ++ cs.drop j) := by
  have hn := h.n
  refine ⟨by rw [upd_same, List.map_append, List.map_append, List.map_take, List.map_drop]; rfl, by simp only [List.length_append, List.length_take, List.length_drop, hn]; rfl, fun i p d hp hd => ?_⟩
  have g : H p = some (.tup (d.map V.int)) := by
    rcases ins_at (by omega) hp with ⟨c1, e⟩ | ⟨c1, rfl⟩ | ⟨c1, e⟩
    · rcases ins_at hj hd with ⟨_, e2⟩ | ⟨e2, _⟩ | ⟨e2, _⟩
      · exact h.t i p d e e2
      · omega
      · omega
    · rcases ins_at hj hd with ⟨e2, _⟩ | ⟨_, rfl⟩ | ⟨e2, _⟩
      · omega
      · exact hq
      · omega
    · rcases ins_at hj hd with ⟨e2, _⟩ | ⟨e2, _⟩ | ⟨_, e2⟩
      · omega
      · omega
      · exact h.t (i - 1) p d e e2
  rw [upd_ne (ne_of g h.l (by intro z; cases z))]
  exact g
def spFar : Sp := fun vs H Q _ => ∃ (t c : Addr) (m : Int) (n : Nat), vs = [.ref t, .int m] ∧ Tape H t c n ∧ n < 1000000 ∧ 0 ≤ m ∧ m ≤ 61 ∧
  ∀ (H' : Hp) (p : Addr) (ms : List Int), H p = none → H' p = some (.lst (ms.map V.int)) → ms.length = m.toNat → Un ms → (∀ x ∈ ms, x.natAbs ≤ 10 ^ 9) → Tape H' t c (n + 110) → Kp t H H' → Q (.ref p) H'
section
variable {P : Program} {w : World} {K : PySem.W.Frag} {mg : Str → Option Value} {base : Heap}
theorem has_far {cs : Nat → Addr} (T : Top K mg cs) (h__law_draw : Has P w K mg base 1 "_law_draw" ["_law_tape", "_law_many"] spDraw) (h__law_pick : Has P w K mg base 2 "_law_pick" ["_law_tape", "_law_some"] (spPick K)) :
    Has P w K mg base 3 "_law_marks" ["_law_tape", "_law_many"] spFar := by
  refine has_of T.d__law_marks sc__law_marks bd__law_marks (fun vs H Q E h => ?_) (fun f cdv A outer s H vs Q E hr h => ?_)
  · obtain ⟨t, c, m, n, rfl, _⟩ := h
    rfl
  · have hu := hu_of hr
    have nd := sc__law_marks.nd
    obtain ⟨t, c, m, n, rfl, tp, hn, hm0, hm1, k⟩ := h
    refine ⟨_, (pss_cons (ps_asg (pe_tup (pa_cons (pe_op op_add pe_int (pe_has h__law_draw (hr.mono (by omega)) (by rfl) (pa_cons (pv 0) (pa_cons pe_int pa_nil)))) (pa_cons (pe_has h__law_pick (hr.mono (by omega)) (by rfl) (pa_cons (pv 0) (pa_cons (pe_lst (pa_cons pe_int (pa_cons pe_int (pa_cons pe_int (pa_cons pe_int pa_nil))))) pa_nil))) pa_nil))) (pg_tup (by rfl) (pgs_cons (pg_name (i := 2) nd rfl (.inr rfl)) (pgs_cons (pg_name (i := 3) nd rfl (.inr rfl)) pgs_nil))))
    (pss_cons (ps_set (i := 4) nd rfl (.inr rfl) (pe_has h__law_pick (hr.mono (by omega)) (by rfl) (pa_cons (pv 0) (pa_cons (pe_lst (pa_cons pe_int (pa_cons pe_int (pa_cons pe_int (pa_cons (pe_op op_add pe_int (pe_has h__law_draw (hr.mono (by omega)) (by rfl) (pa_cons (pv 0) (pa_cons pe_int pa_nil)))) (pa_cons (pe_op op_sub (pe_op op_pow pe_int pe_int) (pe_op op_mul pe_int (pv 3))) pa_nil)))))) pa_nil))))
    (pss_cons (ps_asg (pe_tup (pa_cons (pe_lc (own := [("_law_k", 8)]) (by rfl) nd (pi_range1 (by rfl) T.b_range (pa_cons (pv 1) pa_nil)) (blkOk_by (own := [("_law_k", 8)]) (N := nm__law_marks) (sc := defScope s__law_marks) (by decide +kernel)) (fun _ _ _ _ _ => pg_name (i := 8) nd rfl (.inl rfl)) (fun _ _ _ _ _ => pts_nil) (fun _ _ _ _ _ => (pe_op op_add (pv 4) (pe_op op_mul (pv 3) (pe_op op_mod (pe_op op_mul (pv 2) (pv 8)) pe_int))))) (pa_cons (pe_has h__law_pick (hr.mono (by omega)) (by rfl) (pa_cons (pv 0) (pa_cons (pe_lst (pa_cons pe_int (pa_cons pe_int (pa_cons pe_int (pa_cons pe_int pa_nil))))) pa_nil))) pa_nil))) (pg_tup (by rfl) (pgs_cons (pg_name (i := 5) nd rfl (.inl rfl)) (pgs_cons (pg_name (i := 6) nd rfl (.inr rfl)) pgs_nil))))
    (pss_one (ps_ret (pe_lc (own := [("_law_name", 7)]) (by rfl) nd (pi_list (pv 5)) (blkOk_by (own := [("_law_name", 7)]) (N := nm__law_marks) (sc := defScope s__law_marks) (by decide +kernel)) (fun _ _ _ _ _ => pg_name (i := 7) nd rfl (.inl rfl)) (fun _ _ _ _ _ => pts_nil) (fun _ _ _ _ _ => (pe_ifExp (pt_cmpR op_lt (pe_has h__law_draw (hr.mono (by omega)) (by rfl) (pa_cons (pv 0) (pa_cons (pv 6) pa_nil))) (pe_op op_sub pe_int (pe_op op_fdivW (pv 6) pe_int)) (nomark _)) (pv 7) (pe_op op_sub pe_int (pv 7)))))))))), ?_⟩
    have cp : ∀ z : Int, 0 ≤ z → z ≤ 1000000 → CPow 10 z := fun z h0 h1 => ⟨h0, h1, by decide⟩
    refine ⟨_, rfl, t, c, _, n, rfl, tp, by omega, by decide, by decide +kernel, fun H1 r1 a1 b1 tp1 kp1 => ⟨_, _, rfl, rfl, _, rfl, by show 4 ≤ sizeLine; decide, fun d1 h1 => ?_⟩⟩
    refine ⟨t, c, d1, _, n + 1, rfl, tp1.new h1, by omega, fun H' kp => .inl (SqL.of (kp d1 _ upd_same (tp1.fresh h1))), by show 0 < 4; decide, by show 4 ≤ 1000000; decide, fun H2 i2 v2 g2 tp2 kp2 => ?_⟩
    obtain ⟨z2, rfl, m2⟩ := pick_int (zs := [1, 1, 7, 16000000]) g2
    have z2b : 1 ≤ z2 ∧ z2 ≤ 16000000 := by
      simp only [List.mem_cons, List.not_mem_nil, or_false] at m2
      omega
    refine ⟨by show 2 ≤ sizeLine; decide, fun q2 hq2 => ⟨q2, _, rfl, SqT.of upd_same, rfl, _, _, rfl, _, _, rfl, rfl, ?_⟩⟩
    have t2 := tp2.new (o := .tup [V.int (1 + r1), V.int z2]) hq2
    -- first
    refine ⟨_, rfl, _, rfl, t, c, _, n + 2, rfl, t2, by omega, by decide, by decide +kernel, fun H3 r3 a3 b3 tp3 kp3 => ⟨_, _, rfl, rfl, _, _, rfl, rfl, cp _ (by decide) (by decide), _, rfl, _, _, rfl, rfl, .inl ⟨by decide, by decide⟩, _, _, rfl, rfl, by show 5 ≤ sizeLine; decide, fun d3 h3 => ?_⟩⟩
    refine ⟨t, c, d3, _, n + 3, rfl, tp3.new h3, by omega, fun H' kp => .inl (SqL.of (kp d3 _ upd_same (tp3.fresh h3))), by show 0 < 5; decide, by show 5 ≤ 1000000; decide, fun H4 i4 v4 g4 tp4 kp4 => ?_⟩
    obtain ⟨z4, rfl, m4⟩ := pick_int (zs := [1, 5, 95, 1 + r3, 10 ^ (9 : Int).toNat - 60 * z2]) g4
    -- names
    refine ⟨_, rfl, m, rfl, by omega, by omega, fun D hD => lc_sel_range (lo := 0) (fun _ => true) (fun i => .int (z4 + z2 * ((1 + r1) * (0 + (i : Int)) % 61))) hD (by omega) (fun i hi => ?_) fun H5 s5 h5 => ?_⟩
    · exact ⟨rfl, fun H' s' R g => g H' (Same.refl _), fun _ H' s' R g => ⟨_, rfl, _, rfl, _, rfl, _, rfl, _, _, rfl, rfl, .inl ⟨by omega, by omega⟩, _, _, rfl, rfl, by show (0 : Int) < 61; decide, _, _, rfl, rfl, .inl ⟨by omega, by omega⟩, _, _, rfl, rfl, g H' (Same.refl _)⟩⟩
    rw [filter_all] at h5
    have h5 : H5 D = some (.lst (((List.range m.toNat).map fun (i : Nat) => z4 + z2 * ((1 + r1) * (0 + (i : Int)) % 61)).map V.int)) := by
      rw [h5, List.map_map]
      rfl
    have l5 : ((List.range m.toNat).map fun (i : Nat) => z4 + z2 * ((1 + r1) * (0 + (i : Int)) % 61)).length = m.toNat := by rw [List.length_map, List.length_range]
    have z4b : 1 ≤ z4 := by
      simp only [List.mem_cons, List.not_mem_nil, or_false] at m4
      have p12 : (10 : Int) ^ (9 : Int).toNat = 1000000000 := by decide
      omega
    have z4c : z4 + z2 * 60 ≤ 10 ^ 9 := by
      simp only [List.mem_cons, List.not_mem_nil, or_false] at m4
      have p12 : (10 : Int) ^ (9 : Int).toNat = 1000000000 := by decide
      omega
    have nnm := names_nd (z4 := z4) (z2 := z2) (B := 1 + r1) (n := m.toNat) z4b (by omega) (by omega) (by omega) (by omega)
    have nnl := names_lim (z4 := z4) (z2 := z2) (B := 1 + r1) (n := m.toNat) z4c z4b (by omega)
    generalize ((List.range m.toNat).map fun (i : Nat) => z4 + z2 * ((1 + r1) * (0 + (i : Int)) % 61)) = nm at h5 l5 nnm nnl
    have t5 := tp4.same s5
    refine ⟨_, rfl, by show 4 ≤ sizeLine; decide, fun d6 h6 => ?_⟩
    refine ⟨t, c, d6, _, n + 4, rfl, t5.new h6, by omega, fun H' kp => .inl (SqL.of (kp d6 _ upd_same (t5.fresh h6))), by show 0 < 4; decide, by show 4 ≤ 1000000; decide, fun H6 i6 v6 g6 tp6 kp6 => ?_⟩
    obtain ⟨z6, rfl, m6⟩ := pick_int (zs := [1, 2, 2, 3]) g6
    have z6b : 1 ≤ z6 ∧ z6 ≤ 3 := by
      simp only [List.mem_cons, List.not_mem_nil, or_false] at m6
      omega
    have k56 : Kp t H5 H6 := (Kp.new h6).trans kp6
    refine ⟨by show 2 ≤ sizeLine; decide, fun q7 hq7 => ⟨q7, _, rfl, SqT.of upd_same, rfl, _, _, rfl, _, _, rfl, rfl, ?_⟩⟩
    have t7 := tp6.new (o := .tup [V.ref D, V.int z6]) hq7
    have h7 := same_new (o := .tup [V.ref D, V.int z6]) hq7 _ _ (t5.sq h5 k56)
    have k07 : Kp t H (upd H6 q7 (.tup [V.ref D, V.int z6])) := kp1.trans ((Kp.new h1).trans (kp2.trans ((Kp.new hq2).trans (kp3.trans ((Kp.new h3).trans (kp4.trans ((Kp.same s5).trans (k56.trans (Kp.new hq7)))))))))
    generalize upd H6 q7 (.tup [V.ref D, V.int z6]) = H7 at t7 h7 k07
    -- signs
    refine ⟨_, rfl, D, rfl, ⟨_, SqL.of h7⟩, fun Z hZ => lc_list (xs := nm.map V.int) (fun i H' => Kp t H7 H' ∧ Tape H' t c (n + 5 + i) ∧ ∃ is : List Int, is.length = i ∧ nas is = nas (nm.take i) ∧ H' Z = some (.lst (is.map V.int))) ⟨Kp.new hZ, t7.new hZ, [], rfl, rfl, upd_same⟩ ?_ ?_ ?_⟩
    · rintro i H' _ ⟨kp, _, _⟩
      exact SqL.of (t7.sq h7 kp)
    · rintro i x H8 hi ⟨k8, t8, is, el, en, h8⟩
      obtain ⟨y, rfl, hy⟩ := int_at hi
      have li : i < nm.length := (List.getElem?_eq_some_iff.mp hy).1
      have nZt : Z ≠ t := t7.fresh hZ
      have nZc : Z ≠ c := t7.fresh_c hZ
      refine ⟨rfl, yes_go ⟨_, rfl, _, rfl, t, c, z6, n + 5 + i, rfl, t8, by omega, by omega, pow8000 (by omega), fun H9 r9 a9 b9 tp9 kp9 => ⟨_, rfl, _, _, rfl, rfl, ⟨by decide, by decide⟩, _, _, rfl, rfl, _, _, rfl, rfl, _, rfl, ?_⟩⟩⟩
      have h9 := kp9 Z _ h8 nZt
      have fin : ∀ y' : Int, y'.natAbs = y.natAbs → ∃ acc, H9 Z = some (.lst acc) ∧ acc.length < sizeLine ∧ Kp t H7 (upd H9 Z (.lst (acc ++ [V.int y']))) ∧ Tape (upd H9 Z (.lst (acc ++ [V.int y']))) t c (n + 5 + (i + 1)) ∧ ∃ is : List Int, is.length = i + 1 ∧ nas is = nas (nm.take (i + 1)) ∧ (upd H9 Z (.lst (acc ++ [V.int y']))) Z = some (.lst (is.map V.int)) := fun y' ey => by
        refine ⟨is.map V.int, h9, ?_, (k8.trans kp9).mut hZ, tp9.mut nZt nZc, is ++ [y'], by rw [List.length_append, el]; rfl, by rw [nas_snoc, en, take_snoc hy, nas_snoc, ey], ?_⟩
        · have line : 1000000 < sizeLine := by decide
          rw [List.length_map, el]
          omega
        · rw [upd_same, List.map_append]
          rfl
      refine ite2 (fun _ => ?_) (fun _ => ?_)
      · exact ⟨_, rfl, fin y rfl⟩
      · exact ⟨_, rfl, _, _, rfl, rfl, fin (0 - y) (by omega)⟩
    · rintro H8 ⟨k8, t8, is, el, en, h8⟩
      rw [List.length_map] at el t8
      rw [List.length_map, List.take_length] at en
      have un : Un is := Un.of_perm (ms := nm) ⟨nnm.1, nnm.2, fun x hx => Nat.le_trans (nnl x hx) (by decide)⟩ (by rw [en])
      have lim9 : ∀ x ∈ is, x.natAbs ≤ 10 ^ 9 := fun x hx => by
        have m : x.natAbs ∈ nas nm := by
          rw [← en]
          exact List.mem_map.mpr ⟨x, hx, rfl⟩
        obtain ⟨y, hy, e⟩ := List.mem_map.mp m
        rw [← e]
        exact nnl y hy
      exact k H8 Z is (k07.free hZ (t7.fresh hZ)) h8 (by omega) un lim9 (t8.le (by omega)) (k07.trans k8)
end

/-! ### odd and even merges, of truths: what nets say -/
def srt (k n : Nat) : List Bool := (List.range n).map fun i => decide (i < k)
theorem srt_len (k n : Nat) : (srt k n).length = n := by
  unfold srt
  rw [List.length_map, List.length_range]
theorem srt_get (k n i : Nat) (h : i < n) : (srt k n)[i]? = some (decide (i < k)) := by
  unfold srt
  rw [List.getElem?_map, List.getElem?_range h]
  rfl
theorem srt_snoc (k n : Nat) : srt k (n + 1) = srt k n ++ [decide (n < k)] := by
  unfold srt
  rw [List.range_succ, List.map_append]
  rfl
theorem srt_drop (k n i : Nat) (h : i < n) : (srt k n).drop i = decide (i < k) :: (srt k n).drop (i + 1) := by
  have l : i < (srt k n).length := by rw [srt_len]; exact h
  rw [List.drop_eq_getElem_cons l]
  congr 1
  have g := srt_get k n i h
  rw [List.getElem?_eq_getElem l] at g
  exact Option.some.inj g
theorem srt_end (k n i : Nat) (h : n ≤ i) : (srt k n).drop i = [] := List.drop_eq_nil_of_le (by rw [srt_len]; exact h)
def oneB (xs ys : List Bool) (both : Bool) : List Bool :=
  match xs, ys with
  | [a], [b] => if both = true then [a || b, a && b] else [a || b]
  | _, _ => xs ++ ys
def combB (many : Nat) (outs os es : List Bool) : List Bool :=
  if _h : outs.length < many ∧ (os ≠ [] ∨ es ≠ []) then combB many (outs ++ oneB (os.take 1) (es.take 1) (decide (1 < many - outs.length))) (os.drop 1) (es.drop 1)
  else outs
  termination_by os.length + es.length
  decreasing_by
    rw [List.length_drop, List.length_drop]
    rcases _h.2 with h | h
    · have := List.length_pos_iff.mpr h
      omega
    · have := List.length_pos_iff.mpr h
      omega
/-- what the two halves are of -/
structure Halves (o e O E s n : Nat) : Prop where
  so : o + e = s
  sn : O + E = n
  d1 : e ≤ o
  d2 : o ≤ e + 2
  D1 : E ≤ O
  D2 : O ≤ E + 2
  oO : o ≤ O
  eE : e ≤ E
  E1 : 1 ≤ O
theorem comb_srt {o e O E s n many : Nat} (h : Halves o e O E s n) : ∀ (k i : Nat), n - i ≤ k → 
    combB many (srt s (min many (min n (2 * i + 1)))) ((srt o (min O (many / 2 + 1))).drop (i + 1)) ((srt e (min E (many / 2))).drop i) = srt s (min many n) := by
  obtain ⟨so, sn, d1, d2, D1, D2, oO, eE, E1⟩ := h
  intro k
  induction k with
  | zero =>
    intro i hi
    rw [srt_end _ _ _ (by omega), srt_end _ _ _ (by omega), combB, dif_neg (fun z => z.2.elim (fun y => y rfl) fun y => y rfl)]
    congr 1
    omega
  | succ k ih =>
    intro i hi
    rw [combB]
    by_cases c : min many (min n (2 * i + 1)) < many
    · by_cases a : i + 1 < min O (many / 2 + 1)
      · by_cases b : i < min E (many / 2)
        · -- both
          rw [srt_drop o _ _ a, srt_drop e _ _ b, srt_len, dif_pos ⟨c, .inl (by simp)⟩]
          show combB many (srt s (min many (min n (2 * i + 1))) ++ oneB [decide (i + 1 < o)] [decide (i < e)] _) ((srt o (min O (many / 2 + 1))).drop (i + 1 + 1)) ((srt e (min E (many / 2))).drop (i + 1)) = _
          rw [← ih (i + 1) (by omega)]
          congr 1
          have m1 : min many (min n (2 * i + 1)) = 2 * i + 1 := by omega
          rw [m1]
          show _ ++ (if decide (1 < many - (2 * i + 1)) = true then _ else _) = _
          have eh : (decide (i + 1 < o) || decide (i < e)) = decide (2 * i + 1 < s) := by
            rw [← Bool.decide_or]
            exact decide_eq_decide.mpr (by omega)
          have el : (decide (i + 1 < o) && decide (i < e)) = decide (2 * i + 2 < s) := by
            rw [← Bool.decide_and]
            exact decide_eq_decide.mpr (by omega)
          rw [eh, el]
          by_cases t : 1 < many - (2 * i + 1)
          · rw [if_pos (decide_eq_true t), show min many (min n (2 * (i + 1) + 1)) = 2 * i + 1 + 1 + 1 by omega, srt_snoc s (2 * i + 1 + 1), srt_snoc s (2 * i + 1), List.append_assoc]
            rfl
          · rw [if_neg (by rw [decide_eq_false t]; exact Bool.false_ne_true), show min many (min n (2 * (i + 1) + 1)) = 2 * i + 1 + 1 by omega, srt_snoc s (2 * i + 1)]
        · -- the odd one alone
          rw [srt_drop o _ _ a, srt_end e _ _ (by omega), srt_len, dif_pos ⟨c, .inl (by simp)⟩]
          show combB many (srt s (min many (min n (2 * i + 1))) ++ [decide (i + 1 < o)]) ((srt o (min O (many / 2 + 1))).drop (i + 1 + 1)) [] = _
          rw [← ih (i + 1) (by omega), srt_end e _ (i + 1) (by omega)]
          congr 1
          rw [show min many (min n (2 * i + 1)) = 2 * i + 1 by omega, show min many (min n (2 * (i + 1) + 1)) = 2 * i + 1 + 1 by omega, srt_snoc s (2 * i + 1)]
          congr 2
          exact decide_eq_decide.mpr (by omega)
      · by_cases b : i < min E (many / 2)
        · rw [srt_end o _ _ (by omega), srt_drop e _ _ b, srt_len, dif_pos ⟨c, .inr (by simp)⟩]
          show combB many (srt s (min many (min n (2 * i + 1))) ++ [decide (i < e)]) [] ((srt e (min E (many / 2))).drop (i + 1)) = _
          rw [← ih (i + 1) (by omega), srt_end o _ (i + 1 + 1) (by omega)]
          congr 1
          rw [show min many (min n (2 * i + 1)) = 2 * i + 1 by omega, show min many (min n (2 * (i + 1) + 1)) = 2 * i + 1 + 1 by omega, srt_snoc s (2 * i + 1)]
          congr 2
          exact decide_eq_decide.mpr (by omega)
        · rw [srt_end o _ _ (by omega), srt_end e _ _ (by omega), dif_neg (fun z => z.2.elim (fun y => y rfl) fun y => y rfl)]
          congr 1
          omega
    · rw [srt_len, dif_neg (fun z => c z.1)]
      congr 1
      omega
theorem srt_take (k n i : Nat) : (srt k n).take i = srt k (min i n) := by
  unfold srt
  rw [← List.map_take, List.take_range]
theorem srt_stp (k n d : Nat) (hd : d ≤ 1) : stp2 ((srt k n).drop d) = srt ((k + 1 - d) / 2) ((n + 1 - d) / 2) := by
  rw [← pick2_list, List.length_drop, srt_len, show (n - d + 1) / 2 = (n + 1 - d) / 2 by omega]
  unfold srt
  have e : ∀ m, m ≤ (n + 1 - d) / 2 → ((List.range m).filterMap fun i => (((List.range n).map fun i => decide (i < k)).drop d)[2 * i]?) = (List.range m).map fun i => decide (i < (k + 1 - d) / 2) := by
    intro m
    induction m with
    | zero => exact fun _ => rfl
    | succ m ih =>
      intro hm
      rw [List.range_succ, List.filterMap_append, List.map_append, ih (by omega)]
      congr 1
      have g : (((List.range n).map fun i => decide (i < k)).drop d)[2 * m]? = some (decide (m < (k + 1 - d) / 2)) := by
        rw [List.getElem?_drop, List.getElem?_map, List.getElem?_range (by omega)]
        exact congrArg some (decide_eq_decide.mpr (by omega))
      rw [List.filterMap_cons, g]
      rfl
  exact e _ (Nat.le_refl _)
def mrgB : Nat → List Bool → List Bool → Nat → List Bool
  | 0, _, _, _ => []
  | j + 1, xs, ys, many =>
    if xs = [] ∨ ys = [] ∨ many = 0 then (xs ++ ys).take many
    else if xs.length = 1 ∧ ys.length = 1 then oneB xs ys (decide (1 < many))
    else combB many ((mrgB j (stp2 xs) (stp2 ys) (many / 2 + 1)).take 1) ((mrgB j (stp2 xs) (stp2 ys) (many / 2 + 1)).drop 1) (mrgB j (stp2 (xs.drop 1)) (stp2 (ys.drop 1)) (many / 2))
/-- so many of each that are on, the first ones: as many outs are on, the first ones -/
theorem mrgB_srt : ∀ (j a b m n many : Nat), a ≤ m → b ≤ n → m + n ≤ j → 1 ≤ j → mrgB j (srt a m) (srt b n) many = srt (a + b) (min many (m + n))
  | 0, _, _, _, _, _, _, _, _, h => absurd h (by decide)
  | j + 1, a, b, m, n, many, ha, hb, hj, _ => by
    have em : ∀ k l, srt k l = [] ↔ l = 0 := fun k l => by rw [← List.length_eq_zero_iff, srt_len]
    rw [mrgB]
    by_cases c : srt a m = [] ∨ srt b n = [] ∨ many = 0
    · rw [if_pos c]
      rw [em, em] at c
      by_cases c1 : m = 0
      · subst c1
        obtain rfl : a = 0 := by omega
        rw [(em 0 0).mpr rfl, List.nil_append, srt_take, Nat.zero_add, Nat.zero_add]
      · by_cases c2 : n = 0
        · subst c2
          obtain rfl : b = 0 := by omega
          rw [(em 0 0).mpr rfl, List.append_nil, srt_take, Nat.add_zero, Nat.add_zero]
        · obtain rfl : many = 0 := (c.resolve_left c1).resolve_left c2
          rw [List.take_zero, Nat.zero_min]
          rfl
    · rw [if_neg c]
      rw [em, em] at c
      by_cases c2 : (srt a m).length = 1 ∧ (srt b n).length = 1
      · rw [if_pos c2]
        rw [srt_len, srt_len] at c2
        obtain ⟨rfl, rfl⟩ := c2
        show (if decide (1 < many) = true then [decide (0 < a) || decide (0 < b), decide (0 < a) && decide (0 < b)] else [decide (0 < a) || decide (0 < b)]) = _
        have eh : (decide (0 < a) || decide (0 < b)) = decide (0 < a + b) := by
          rw [← Bool.decide_or]
          exact decide_eq_decide.mpr (by omega)
        have el : (decide (0 < a) && decide (0 < b)) = decide (1 < a + b) := by
          rw [← Bool.decide_and]
          exact decide_eq_decide.mpr (by omega)
        rw [eh, el]
        by_cases t : 1 < many
        · rw [if_pos (decide_eq_true t), show min many (1 + 1) = 2 by omega]
          rfl
        · rw [if_neg (by rw [decide_eq_false t]; exact Bool.false_ne_true), show min many (1 + 1) = 1 by omega]
          rfl
      · rw [if_neg c2]
        rw [srt_len, srt_len] at c2
        have s0 : ∀ k l, stp2 (srt k l) = srt ((k + 1) / 2) ((l + 1) / 2) := fun k l => by
          have z := srt_stp k l 0 (by decide)
          rwa [List.drop_zero, Nat.sub_zero, Nat.sub_zero] at z
        have s1 : ∀ k l, stp2 ((srt k l).drop 1) = srt (k / 2) (l / 2) := fun k l => srt_stp k l 1 (by decide)
        rw [s0, s0, s1, s1, mrgB_srt j ((a + 1) / 2) ((b + 1) / 2) ((m + 1) / 2) ((n + 1) / 2) (many / 2 + 1) (by omega) (by omega) (by omega) (by omega),
          mrgB_srt j (a / 2) (b / 2) (m / 2) (n / 2) (many / 2) (by omega) (by omega) (by omega) (by omega)]
        have H : Halves ((a + 1) / 2 + (b + 1) / 2) (a / 2 + b / 2) ((m + 1) / 2 + (n + 1) / 2) (m / 2 + n / 2) (a + b) (m + n) := ⟨by omega, by omega, by omega, by omega, by omega, by omega, by omega, by omega, by omega⟩
        have z := comb_srt (many := many) H (m + n) 0 (by omega)
        rw [Nat.min_comm ((m + 1) / 2 + (n + 1) / 2), Nat.min_comm (m / 2 + n / 2), List.drop_zero] at z
        rw [← z]
        congr 1
        rw [srt_take, show min 1 (min (many / 2 + 1) ((m + 1) / 2 + (n + 1) / 2)) = 1 by omega, show min many (min (m + n) (2 * 0 + 1)) = 1 by omega]
        show [decide (0 < (a + 1) / 2 + (b + 1) / 2)] = [decide (0 < a + b)]
        exact congrArg (fun x => [x]) (decide_eq_decide.mpr (by omega))

/-! ### outs by meanings -/
structure Sat (W : Int → Bool) (ns : List PyData) : Prop where
  hi : ∀ h a b, dHigh h a b ∈ ns → W h = (W a || W b)
  lo : ∀ h a b, dLow h a b ∈ ns → W h = (W a && W b)
theorem Sat.pre {W : Int → Bool} {ns ms : List PyData} (s : Sat W ms) (h : ∀ d ∈ ns, d ∈ ms) : Sat W ns := ⟨fun x a b z => s.hi x a b (h _ z), fun x a b z => s.lo x a b (h _ z)⟩
theorem cmp_sub {f : Int} {st : Nets} {a b : Int} {both : Bool} : ∀ d ∈ st.ns, d ∈ (st.cmp f a b both).1.ns := fun d hd => by
  cases both with
  | true => exact List.mem_append_left _ (List.mem_append_left _ hd)
  | false => exact List.mem_append_left _ hd
theorem one_sub {f : Int} {st : Nets} {xs ys : List Int} {many : Nat} : ∀ d ∈ st.ns, d ∈ (st.one f xs ys many).1.ns := fun d hd => by
  unfold Nets.one
  split
  · exact cmp_sub d hd
  · exact hd
theorem comb_sub {f : Int} {many : Nat} : ∀ (k : Nat) (st : Nets) (outs os es : List Int), os.length + es.length ≤ k → ∀ d ∈ st.ns, d ∈ (comb f many st outs os es).1.ns := by
  intro k
  induction k with
  | zero =>
    intro st outs os es hk d hd
    have e1 : os = [] := List.length_eq_zero_iff.mp (by omega)
    have e2 : es = [] := List.length_eq_zero_iff.mp (by omega)
    subst e1 e2
    rw [comb_end (fun z => z.2.elim (fun y => y rfl) fun y => y rfl)]
    exact hd
  | succ k ih =>
    intro st outs os es hk d hd
    by_cases c : outs.length < many ∧ (os ≠ [] ∨ es ≠ [])
    · rw [comb_go c.1 c.2]
      refine ih _ _ _ _ ?_ d (one_sub d hd)
      rw [List.length_drop, List.length_drop]
      rcases c.2 with z | z
      · have := List.length_pos_iff.mpr z
        omega
      · have := List.length_pos_iff.mpr z
        omega
    · rw [comb_end c]
      exact hd
theorem mrg_sub {f : Int} : ∀ (j : Nat) (st : Nets) (xs ys : List Int) (many : Nat), ∀ d ∈ st.ns, d ∈ (mrg f j st xs ys many).1.ns
  | 0, _, _, _, _, _, hd => hd
  | j + 1, st, xs, ys, many, d, hd => by
    by_cases c : xs = [] ∨ ys = [] ∨ many = 0
    · rw [mrg_none c]
      exact hd
    by_cases c2 : xs.length = 1 ∧ ys.length = 1
    · obtain ⟨a, rfl⟩ := (short (Nat.le_of_eq c2.1)).resolve_left fun z => c (.inl z)
      obtain ⟨b, rfl⟩ := (short (Nat.le_of_eq c2.2)).resolve_left fun z => c (.inr (.inl z))
      rw [mrg_one (fun z => c (.inr (.inr z)))]
      exact cmp_sub d hd
    · rw [mrg_more c c2]
      exact comb_sub _ _ _ _ _ (Nat.le_refl _) d (mrg_sub j _ _ _ _ d (mrg_sub j _ _ _ _ d hd))
theorem cmp_val {f : Int} {st : Nets} {a b : Int} {both : Bool} {W : Int → Bool} (s : Sat W (st.cmp f a b both).1.ns) : (st.cmp f a b both).2.map W = oneB [W a] [W b] both := by
  cases both with
  | true =>
    have h1 := s.hi (f + (st.ns.length : Nat)) a b (List.mem_append_left _ (List.mem_append_right _ List.mem_cons_self))
    have h2 := s.lo (f + (st.ns.length : Nat) + 1) a b (List.mem_append_right _ List.mem_cons_self)
    show [W (f + (st.ns.length : Nat)), W (f + (st.ns.length : Nat) + 1)] = [W a || W b, W a && W b]
    rw [h1, h2]
  | false =>
    have h1 := s.hi (f + (st.ns.length : Nat)) a b (List.mem_append_right _ List.mem_cons_self)
    show [W (f + (st.ns.length : Nat))] = [W a || W b]
    rw [h1]
theorem one_notB {f : Int} {st : Nets} {xs ys : List Int} {many : Nat} (h : ¬ (xs.length = 1 ∧ ys.length = 1)) : st.one f xs ys many = (st, xs ++ ys) := by
  unfold Nets.one
  split
  · exact absurd ⟨rfl, rfl⟩ h
  · rfl
theorem one_val {f : Int} {st : Nets} {xs ys : List Int} {many : Nat} {W : Int → Bool} (s : Sat W (st.one f xs ys many).1.ns) : (st.one f xs ys many).2.map W = oneB (xs.map W) (ys.map W) (decide (1 < many)) := by
  by_cases c : xs.length = 1 ∧ ys.length = 1
  · match xs, ys, c with
    | [a], [b], _ => exact cmp_val s
  · rw [one_notB c]
    show (xs ++ ys).map W = _
    rw [List.map_append]
    unfold oneB
    split
    · rename_i e1 e2
      have l1 := congrArg List.length e1
      have l2 := congrArg List.length e2
      rw [List.length_map] at l1 l2
      exact absurd ⟨l1, l2⟩ c
    · rfl
theorem comb_val {f : Int} {many : Nat} {W : Int → Bool} : ∀ (k : Nat) (st : Nets) (outs os es : List Int), os.length + es.length ≤ k → Sat W (comb f many st outs os es).1.ns →
    (comb f many st outs os es).2.map W = combB many (outs.map W) (os.map W) (es.map W) := by
  intro k
  induction k with
  | zero =>
    intro st outs os es hk _
    have e1 : os = [] := List.length_eq_zero_iff.mp (by omega)
    have e2 : es = [] := List.length_eq_zero_iff.mp (by omega)
    subst e1 e2
    rw [comb_end (fun z => z.2.elim (fun y => y rfl) fun y => y rfl), combB, dif_neg (fun z => z.2.elim (fun y => y rfl) fun y => y rfl)]
  | succ k ih =>
    intro st outs os es hk s
    by_cases c : outs.length < many ∧ (os ≠ [] ∨ es ≠ [])
    · rw [comb_go c.1 c.2] at s ⊢
      have hl : (os.drop 1).length + (es.drop 1).length ≤ k := by
        rw [List.length_drop, List.length_drop]
        rcases c.2 with z | z
        · have := List.length_pos_iff.mpr z
          omega
        · have := List.length_pos_iff.mpr z
          omega
      have s1 := s.pre (comb_sub _ _ _ _ _ (Nat.le_refl _))
      rw [ih _ _ _ _ hl s, combB.eq_1 many (outs.map W), dif_pos (by
        rw [List.length_map]
        exact ⟨c.1, c.2.imp (fun z y => z (List.map_eq_nil_iff.mp y)) fun z y => z (List.map_eq_nil_iff.mp y)⟩), List.map_append, one_val s1, List.map_take, List.map_take, List.map_drop, List.map_drop, List.length_map]
    · rw [comb_end c, combB.eq_1 many (outs.map W), dif_neg (by
        rw [List.length_map]
        exact fun z => c ⟨z.1, z.2.imp (fun y x => y (by rw [x]; rfl)) fun y x => y (by rw [x]; rfl)⟩)]
theorem mrg_val {f : Int} {W : Int → Bool} : ∀ (j : Nat) (st : Nets) (xs ys : List Int) (many : Nat), Sat W (mrg f j st xs ys many).1.ns → (mrg f j st xs ys many).2.map W = mrgB j (xs.map W) (ys.map W) many
  | 0, _, _, _, _, _ => rfl
  | j + 1, st, xs, ys, many, s => by
    have en : ∀ l : List Int, l.map W = [] ↔ l = [] := fun l => List.map_eq_nil_iff
    rw [mrgB]
    by_cases c : xs = [] ∨ ys = [] ∨ many = 0
    · rw [mrg_none c, if_pos (by rw [en, en]; exact c)]
      show ((xs ++ ys).take many).map W = _
      rw [List.map_take, List.map_append]
    rw [if_neg (by rw [en, en]; exact c)]
    by_cases c2 : xs.length = 1 ∧ ys.length = 1
    · obtain ⟨a, rfl⟩ := (short (Nat.le_of_eq c2.1)).resolve_left fun z => c (.inl z)
      obtain ⟨b, rfl⟩ := (short (Nat.le_of_eq c2.2)).resolve_left fun z => c (.inr (.inl z))
      rw [mrg_one (fun z => c (.inr (.inr z)))] at s ⊢
      rw [if_pos ⟨rfl, rfl⟩]
      exact cmp_val s
    · rw [mrg_more c c2] at s ⊢
      rw [if_neg (by rw [List.length_map, List.length_map]; exact c2)]
      have s2 := s.pre (comb_sub _ _ _ _ _ (Nat.le_refl _))
      have s1 := s2.pre (mrg_sub j _ _ _ _)
      rw [comb_val _ _ _ _ _ (Nat.le_refl _) s, List.map_take, List.map_drop, mrg_val j _ _ _ _ s1, mrg_val j _ _ _ _ s2, stp2_map, stp2_map, ← List.map_drop, ← List.map_drop, stp2_map, stp2_map]
/-- with the first a of the one row and the first b of the other on: the first a + b outs are on, no other one -/
theorem net_says {f : Int} {W : Int → Bool} {j : Nat} {st : Nets} {xs ys : List Int} {many a b : Nat} (s : Sat W (mrg f j st xs ys many).1.ns) (hx : xs.map W = srt a xs.length) (hy : ys.map W = srt b ys.length) (ha : a ≤ xs.length) (hb : b ≤ ys.length)
    (hj : xs.length + ys.length ≤ j) (h1 : 1 ≤ j) : (mrg f j st xs ys many).2.map W = srt (a + b) (min many (xs.length + ys.length)) := by
  rw [mrg_val j st xs ys many s, hx, hy]
  exact mrgB_srt j a b _ _ many ha hb hj h1
/-! ### all clauses hold by meanings -/
def Neg (W : Int → Bool) : Prop := ∀ x, x ≠ 0 → W (0 - x) = !W x
def ClT (W : Int → Bool) (d : PyData) : Prop := (∃ x h, d = dCl2 x h ∧ (W (0 - x) || W h) = true) ∨ ∃ x y l, d = dCl3 x y l ∧ (W (0 - x) || (W (0 - y) || W l)) = true
def Nz (l : List Int) : Prop := ∀ x ∈ l, x ≠ 0
theorem cmp_cl {f : Int} {st : Nets} {a b : Int} {both : Bool} {W : Int → Bool} (ng : Neg W) (hf : 0 < f) (s : Sat W (st.cmp f a b both).1.ns) (t : ∀ d ∈ st.cs, ClT W d) (ha : a ≠ 0) (hb : b ≠ 0) :
    (∀ d ∈ (st.cmp f a b both).1.cs, ClT W d) ∧ Nz (st.cmp f a b both).2 := by
  have c2 : ∀ h, W h = (W a || W b) → ∀ d ∈ [dCl2 a h, dCl2 b h], ClT W d := fun h e d hd => by
    rcases List.mem_cons.mp hd with z | z
    · exact .inl ⟨a, h, z, by rw [ng a ha, e]; cases W a <;> simp⟩
    · exact .inl ⟨b, h, List.mem_singleton.mp z, by rw [ng b hb, e]; cases W b <;> simp⟩
  cases both with
  | true =>
    have h1 := s.hi (f + (st.ns.length : Nat)) a b (List.mem_append_left _ (List.mem_append_right _ List.mem_cons_self))
    have h2 := s.lo (f + (st.ns.length : Nat) + 1) a b (List.mem_append_right _ List.mem_cons_self)
    refine ⟨fun d hd => ?_, fun x hx => ?_⟩
    · rcases List.mem_append.mp hd with z | z
      · rcases List.mem_append.mp z with z | z
        · exact t d z
        · exact c2 _ h1 d z
      · exact .inr ⟨a, b, _, List.mem_singleton.mp z, by rw [ng a ha, ng b hb, h2]; cases W a <;> cases W b <;> rfl⟩
    · have hx : x ∈ [f + (st.ns.length : Nat), f + (st.ns.length : Nat) + 1] := hx
      rcases List.mem_cons.mp hx with z | z
      · omega
      · have := List.mem_singleton.mp z
        omega
  | false =>
    have h1 := s.hi (f + (st.ns.length : Nat)) a b (List.mem_append_right _ List.mem_cons_self)
    refine ⟨fun d hd => ?_, fun x hx => ?_⟩
    · rcases List.mem_append.mp hd with z | z
      · exact t d z
      · exact c2 _ h1 d z
    · have hx : x ∈ [f + (st.ns.length : Nat)] := hx
      have := List.mem_singleton.mp hx
      omega
theorem one_cl {f : Int} {st : Nets} {xs ys : List Int} {many : Nat} {W : Int → Bool} (ng : Neg W) (hf : 0 < f) (s : Sat W (st.one f xs ys many).1.ns) (t : ∀ d ∈ st.cs, ClT W d) (hx : Nz xs) (hy : Nz ys) :
    (∀ d ∈ (st.one f xs ys many).1.cs, ClT W d) ∧ Nz (st.one f xs ys many).2 := by
  by_cases c : xs.length = 1 ∧ ys.length = 1
  · match xs, ys, c with
    | [a], [b], _ => exact cmp_cl ng hf s t (hx a List.mem_cons_self) (hy b List.mem_cons_self)
  · rw [one_notB c]
    exact ⟨t, fun x h => (List.mem_append.mp h).elim (hx x) (hy x)⟩
theorem comb_cl {f : Int} {many : Nat} {W : Int → Bool} (ng : Neg W) (hf : 0 < f) : ∀ (k : Nat) (st : Nets) (outs os es : List Int), os.length + es.length ≤ k → Sat W (comb f many st outs os es).1.ns → (∀ d ∈ st.cs, ClT W d) → Nz outs → Nz os → Nz es →
    (∀ d ∈ (comb f many st outs os es).1.cs, ClT W d) ∧ Nz (comb f many st outs os es).2 := by
  intro k
  induction k with
  | zero =>
    intro st outs os es hk _ t h1 _ _
    have e1 : os = [] := List.length_eq_zero_iff.mp (by omega)
    have e2 : es = [] := List.length_eq_zero_iff.mp (by omega)
    subst e1 e2
    rw [comb_end (fun z => z.2.elim (fun y => y rfl) fun y => y rfl)]
    exact ⟨t, h1⟩
  | succ k ih =>
    intro st outs os es hk s t h1 h2 h3
    by_cases c : outs.length < many ∧ (os ≠ [] ∨ es ≠ [])
    · rw [comb_go c.1 c.2] at s ⊢
      have s1 := s.pre (comb_sub _ _ _ _ _ (Nat.le_refl _))
      obtain ⟨a1, a2⟩ := one_cl ng hf s1 t (all_take (k := 1) h2) (all_take (k := 1) h3)
      refine ih _ _ _ _ ?_ s a1 (fun x hx => (List.mem_append.mp hx).elim (h1 x) (a2 x)) (all_drop h2) (all_drop h3)
      rw [List.length_drop, List.length_drop]
      rcases c.2 with z | z
      · have := List.length_pos_iff.mpr z
        omega
      · have := List.length_pos_iff.mpr z
        omega
    · rw [comb_end c]
      exact ⟨t, h1⟩
theorem mrg_cl {f : Int} {W : Int → Bool} (ng : Neg W) (hf : 0 < f) : ∀ (j : Nat) (st : Nets) (xs ys : List Int) (many : Nat), Sat W (mrg f j st xs ys many).1.ns → (∀ d ∈ st.cs, ClT W d) → Nz xs → Nz ys →
    (∀ d ∈ (mrg f j st xs ys many).1.cs, ClT W d) ∧ Nz (mrg f j st xs ys many).2
  | 0, _, _, _, _, _, t, _, _ => ⟨t, fun x hx => (by cases hx)⟩
  | j + 1, st, xs, ys, many, s, t, h1, h2 => by
    by_cases c : xs = [] ∨ ys = [] ∨ many = 0
    · rw [mrg_none c]
      exact ⟨t, all_take (fun x h => (List.mem_append.mp h).elim (h1 x) (h2 x))⟩
    by_cases c2 : xs.length = 1 ∧ ys.length = 1
    · obtain ⟨a, rfl⟩ := (short (Nat.le_of_eq c2.1)).resolve_left fun z => c (.inl z)
      obtain ⟨b, rfl⟩ := (short (Nat.le_of_eq c2.2)).resolve_left fun z => c (.inr (.inl z))
      rw [mrg_one (fun z => c (.inr (.inr z)))] at s ⊢
      exact cmp_cl ng hf s t (h1 a List.mem_cons_self) (h2 b List.mem_cons_self)
    · rw [mrg_more c c2] at s ⊢
      have s2 := s.pre (comb_sub _ _ _ _ _ (Nat.le_refl _))
      have s1 := s2.pre (mrg_sub j _ _ _ _)
      obtain ⟨a1, a2⟩ := mrg_cl ng hf j _ _ _ _ s1 t (mem_stp2 h1) (mem_stp2 h2)
      obtain ⟨b1, b2⟩ := mrg_cl ng hf j _ _ _ _ s2 a1 (mem_stp2 (all_drop h1)) (mem_stp2 (all_drop h2))
      exact comb_cl ng hf _ _ _ _ _ (Nat.le_refl _) s b1 (all_take a2) (all_drop a2) b2

/-! ### what clauses of nets let follow -/
theorem cmp_subc {f : Int} {st : Nets} {a b : Int} {both : Bool} : ∀ d ∈ st.cs, d ∈ (st.cmp f a b both).1.cs := fun d hd => by
  cases both with
  | true => exact List.mem_append_left _ (List.mem_append_left _ hd)
  | false => exact List.mem_append_left _ hd
theorem one_subc {f : Int} {st : Nets} {xs ys : List Int} {many : Nat} : ∀ d ∈ st.cs, d ∈ (st.one f xs ys many).1.cs := fun d hd => by
  unfold Nets.one
  split
  · exact cmp_subc d hd
  · exact hd
theorem comb_subc {f : Int} {many : Nat} : ∀ (k : Nat) (st : Nets) (outs os es : List Int), os.length + es.length ≤ k → ∀ d ∈ st.cs, d ∈ (comb f many st outs os es).1.cs := by
  intro k
  induction k with
  | zero =>
    intro st outs os es hk d hd
    have e1 : os = [] := List.length_eq_zero_iff.mp (by omega)
    have e2 : es = [] := List.length_eq_zero_iff.mp (by omega)
    subst e1 e2
    rw [comb_end (fun z => z.2.elim (fun y => y rfl) fun y => y rfl)]
    exact hd
  | succ k ih =>
    intro st outs os es hk d hd
    by_cases c : outs.length < many ∧ (os ≠ [] ∨ es ≠ [])
    · rw [comb_go c.1 c.2]
      refine ih _ _ _ _ ?_ d (one_subc d hd)
      rw [List.length_drop, List.length_drop]
      rcases c.2 with z | z
      · have := List.length_pos_iff.mpr z
        omega
      · have := List.length_pos_iff.mpr z
        omega
    · rw [comb_end c]
      exact hd
theorem mrg_subc {f : Int} : ∀ (j : Nat) (st : Nets) (xs ys : List Int) (many : Nat), ∀ d ∈ st.cs, d ∈ (mrg f j st xs ys many).1.cs
  | 0, _, _, _, _, _, hd => hd
  | j + 1, st, xs, ys, many, d, hd => by
    by_cases c : xs = [] ∨ ys = [] ∨ many = 0
    · rw [mrg_none c]
      exact hd
    by_cases c2 : xs.length = 1 ∧ ys.length = 1
    · obtain ⟨a, rfl⟩ := (short (Nat.le_of_eq c2.1)).resolve_left fun z => c (.inl z)
      obtain ⟨b, rfl⟩ := (short (Nat.le_of_eq c2.2)).resolve_left fun z => c (.inr (.inl z))
      rw [mrg_one (fun z => c (.inr (.inr z)))]
      exact cmp_subc d hd
    · rw [mrg_more c c2]
      exact comb_subc _ _ _ _ _ (Nat.le_refl _) d (mrg_subc j _ _ _ _ d (mrg_subc j _ _ _ _ d hd))
/-- what high and low are told -/
theorem cmp_told {f : Int} {st : Nets} {a b : Int} {both : Bool} : ∃ h, (st.cmp f a b both).2[0]? = some h ∧ dCl2 a h ∈ (st.cmp f a b both).1.cs ∧ dCl2 b h ∈ (st.cmp f a b both).1.cs ∧
    (both = true → ∃ l, (st.cmp f a b both).2 = [h, l] ∧ dCl3 a b l ∈ (st.cmp f a b both).1.cs) ∧ (both = false → (st.cmp f a b both).2 = [h]) := by
  cases both with
  | true =>
    refine ⟨f + (st.ns.length : Nat), rfl, ?_, ?_, fun _ => ⟨f + (st.ns.length : Nat) + 1, rfl, ?_⟩, fun z => by cases z⟩
    · exact List.mem_append_left _ (List.mem_append_right _ List.mem_cons_self)
    · exact List.mem_append_left _ (List.mem_append_right _ (List.mem_cons_of_mem _ List.mem_cons_self))
    · exact List.mem_append_right _ List.mem_cons_self
  | false =>
    refine ⟨f + (st.ns.length : Nat), rfl, ?_, ?_, fun z => (by cases z), fun _ => rfl⟩
    · exact List.mem_append_right _ List.mem_cons_self
    · exact List.mem_append_right _ (List.mem_cons_of_mem _ List.mem_cons_self)
theorem nil_get {α : Type} {i : Nat} {x : α} (h : ([] : List α)[i]? = some x) : False := by
  rw [List.getElem?_nil] at h
  cases h
/-- the outs of pairs, by their places from p on -/
structure Cmb (many p : Nat) (outs os es R : List Int) (cs : List PyData) : Prop where
  pre : ∀ i, i < p → R[i]? = outs[i]?
  len : p ≤ many → R.length = min many (p + os.length + es.length)
  both : ∀ i x y, os[i]? = some x → es[i]? = some y → p + 2 * i < many → ∃ h, R[p + 2 * i]? = some h ∧ dCl2 x h ∈ cs ∧ dCl2 y h ∈ cs ∧ (p + 2 * i + 1 < many → ∃ l, R[p + 2 * i + 1]? = some l ∧ dCl3 x y l ∈ cs)
  o1 : ∀ i x, os[i]? = some x → es[i]? = none → p + 2 * i < many → R[p + 2 * i]? = some x
  e1 : ∀ i y, os[i]? = none → es[i]? = some y → p + 2 * i < many → R[p + 2 * i]? = some y
theorem get_snoc {α : Type} (l : List α) (x : α) : (l ++ [x])[l.length]? = some x := by
  rw [List.getElem?_append_right (Nat.le_refl _), Nat.sub_self]
  rfl
theorem comb_all {f : Int} {many : Nat} : ∀ (k : Nat) (st : Nets) (outs os es : List Int), os.length + es.length ≤ k → os.length ≤ es.length + 1 → es.length ≤ os.length + 1 →
    Cmb many outs.length outs os es (comb f many st outs os es).2 (comb f many st outs os es).1.cs := by
  intro k
  induction k with
  | zero =>
    intro st outs os es hk _ _
    have e1 : os = [] := List.length_eq_zero_iff.mp (by omega)
    have e2 : es = [] := List.length_eq_zero_iff.mp (by omega)
    subst e1 e2
    rw [comb_end (fun z => z.2.elim (fun y => y rfl) fun y => y rfl)]
    exact ⟨fun _ _ => rfl, fun h => by show outs.length = min many (outs.length + 0 + 0); omega, fun i x y h => (nil_get h).elim, fun i x h => (nil_get h).elim, fun i y _ h => (nil_get h).elim⟩
  | succ k ih =>
    intro st outs os es hk l1 l2
    by_cases c : outs.length < many ∧ (os ≠ [] ∨ es ≠ [])
    · rw [comb_go c.1 c.2]
      match os, es, hk, l1, l2 with
      | [], [], _, _, _ => exact absurd c.2 (fun z => z.elim (fun y => y rfl) fun y => y rfl)
      | [x], [], _, _, _ =>
        show Cmb many outs.length outs [x] [] (comb f many st (outs ++ [x]) [] []).2 (comb f many st (outs ++ [x]) [] []).1.cs
        rw [comb_end (fun z => z.2.elim (fun y => y rfl) fun y => y rfl)]
        refine ⟨fun i h => List.getElem?_append_left h, fun h => ?_, fun i _ y _ h => (nil_get h).elim, fun i z h _ hm => ?_, fun i y _ h => (nil_get h).elim⟩
        · show (outs ++ [x]).length = min many (outs.length + 1 + 0)
          rw [List.length_append, List.length_singleton]
          omega
        · have i0 : i = 0 := by
            have := (List.getElem?_eq_some_iff.mp h).1
            rw [List.length_singleton] at this
            omega
          subst i0
          cases h
          exact get_snoc outs x
      | [], [y], _, _, _ =>
        show Cmb many outs.length outs [] [y] (comb f many st (outs ++ [y]) [] []).2 (comb f many st (outs ++ [y]) [] []).1.cs
        rw [comb_end (fun z => z.2.elim (fun y => y rfl) fun y => y rfl)]
        refine ⟨fun i h => List.getElem?_append_left h, fun h => ?_, fun i x _ h => (nil_get h).elim, fun i x h => (nil_get h).elim, fun i z _ h hm => ?_⟩
        · show (outs ++ [y]).length = min many (outs.length + 0 + 1)
          rw [List.length_append, List.length_singleton]
          omega
        · have i0 : i = 0 := by
            have := (List.getElem?_eq_some_iff.mp h).1
            rw [List.length_singleton] at this
            omega
          subst i0
          cases h
          exact get_snoc outs y
      | _ :: _ :: _, [], _, l1, _ => exact absurd l1 (by simp only [List.length_cons, List.length_nil]; omega)
      | [], _ :: _ :: _, _, _, l2 => exact absurd l2 (by simp only [List.length_cons, List.length_nil]; omega)
      | x :: os, y :: es, hk, l1, l2 =>
        simp only [List.length_cons] at hk l1 l2
        show Cmb many outs.length outs (x :: os) (y :: es) (comb f many (st.cmp f x y (decide (1 < many - outs.length))).1 (outs ++ (st.cmp f x y (decide (1 < many - outs.length))).2) os es).2 (comb f many (st.cmp f x y (decide (1 < many - outs.length))).1 (outs ++ (st.cmp f x y (decide (1 < many - outs.length))).2) os es).1.cs
        obtain ⟨h, e0, c1, c2, two, one⟩ := cmp_told (f := f) (st := st) (a := x) (b := y) (both := decide (1 < many - outs.length))
        have z := ih (st.cmp f x y (decide (1 < many - outs.length))).1 (outs ++ (st.cmp f x y (decide (1 < many - outs.length))).2) os es (by omega) (by omega) (by omega)
        have sub := comb_subc (f := f) (many := many) _ (st.cmp f x y (decide (1 < many - outs.length))).1 (outs ++ (st.cmp f x y (decide (1 < many - outs.length))).2) os es (Nat.le_refl _)
        by_cases t : 1 < many - outs.length
        · obtain ⟨l, el, c3⟩ := two (decide_eq_true t)
          rw [el] at z sub ⊢
          have lo : (outs ++ [h, l]).length = outs.length + 2 := by rw [List.length_append]; rfl
          rw [lo] at z
          have g0 : (outs ++ [h, l])[outs.length]? = some h := by
            rw [List.getElem?_append_right (Nat.le_refl _), Nat.sub_self]
            rfl
          have g1 : (outs ++ [h, l])[outs.length + 1]? = some l := by
            rw [List.getElem?_append_right (Nat.le_succ _), show outs.length.succ - outs.length = 1 by omega]
            rfl
          refine ⟨fun i hi => ?_, fun hp => ?_, fun i u v hu hv hm => ?_, fun i u hu hv hm => ?_, fun i v hu hv hm => ?_⟩
          · rw [z.pre i (by omega)]
            exact List.getElem?_append_left hi
          · rw [z.len (by omega)]
            simp only [List.length_cons]
            omega
          · cases i with
            | zero =>
              rw [List.getElem?_cons_zero] at hu hv
              cases hu
              cases hv
              exact ⟨h, by rw [Nat.mul_zero, Nat.add_zero, z.pre _ (by omega)]; exact g0, sub _ c1, sub _ c2, fun _ => ⟨l, by rw [Nat.mul_zero, Nat.add_zero, z.pre _ (by omega)]; exact g1, sub _ c3⟩⟩
            | succ i =>
              rw [List.getElem?_cons_succ] at hu hv
              have w := z.both i u v hu hv (by omega)
              rw [show outs.length + 2 + 2 * i = outs.length + 2 * (i + 1) by omega] at w
              exact w
          · cases i with
            | zero => rw [List.getElem?_cons_zero] at hv; cases hv
            | succ i =>
              rw [List.getElem?_cons_succ] at hu hv
              have w := z.o1 i u hu hv (by omega)
              rwa [show outs.length + 2 + 2 * i = outs.length + 2 * (i + 1) by omega] at w
          · cases i with
            | zero => rw [List.getElem?_cons_zero] at hu; cases hu
            | succ i =>
              rw [List.getElem?_cons_succ] at hu hv
              have w := z.e1 i v hu hv (by omega)
              rwa [show outs.length + 2 + 2 * i = outs.length + 2 * (i + 1) by omega] at w
        · have el := one (decide_eq_false t)
          rw [el] at sub ⊢
          have stop : ¬ ((outs ++ [h]).length < many ∧ (os ≠ [] ∨ es ≠ [])) := fun w => by
            have := w.1
            rw [List.length_append, List.length_singleton] at this
            omega
          rw [comb_end stop] at sub ⊢
          have lone : ∀ i, outs.length + 2 * i < many → i = 0 := fun i hm => by omega
          refine ⟨fun i hi => List.getElem?_append_left hi, fun hp => ?_, fun i u v hu hv hm => ?_, fun i u hu hv hm => ?_, fun i v hu hv hm => ?_⟩
          · show (outs ++ [h]).length = _
            rw [List.length_append, List.length_singleton]
            simp only [List.length_cons]
            omega
          · obtain rfl := lone i hm
            rw [List.getElem?_cons_zero] at hu hv
            cases hu
            cases hv
            exact ⟨h, get_snoc outs h, c1, c2, fun w => by omega⟩
          · obtain rfl := lone i hm
            rw [List.getElem?_cons_zero] at hv
            cases hv
          · obtain rfl := lone i hm
            rw [List.getElem?_cons_zero] at hu
            cases hu
    · rw [comb_end c]
      have stop : ∀ {p i : Nat}, p = outs.length → p + 2 * i < many → os = [] ∧ es = [] := fun {p i} e h => by
        refine ⟨Classical.byContradiction fun z => c ⟨by omega, .inl z⟩, Classical.byContradiction fun z => c ⟨by omega, .inr z⟩⟩
      refine ⟨fun _ _ => rfl, fun h => ?_, fun i x y hx hy hm => ?_, fun i x hx hy hm => ?_, fun i y hx hy hm => ?_⟩
      · show outs.length = _
        by_cases e : outs.length = many
        · omega
        · obtain ⟨a, b⟩ := stop (i := 0) rfl (by omega : outs.length + 2 * 0 < many)
          rw [a, b]
          show outs.length = min many (outs.length + 0 + 0)
          omega
      · rw [(stop rfl hm).1, List.getElem?_nil] at hx
        cases hx
      · rw [(stop rfl hm).1, List.getElem?_nil] at hx
        cases hx
      · rw [(stop rfl hm).2, List.getElem?_nil] at hy
        cases hy
theorem stp2_get {α : Type} : ∀ (l : List α) (i : Nat), (stp2 l)[i]? = l[2 * i]?
  | [], i => by rw [stp2, List.getElem?_nil, List.getElem?_nil]
  | [x], 0 => rfl
  | [x], i + 1 => by
    rw [stp2, List.getElem?_eq_none (by simp), List.getElem?_eq_none (by simp; omega)]
  | x :: y :: r, 0 => rfl
  | x :: y :: r, i + 1 => by
    rw [stp2, List.getElem?_cons_succ, stp2_get r i, show 2 * (i + 1) = 2 * i + 1 + 1 by omega, List.getElem?_cons_succ, List.getElem?_cons_succ]
theorem stp2_get1 {α : Type} (l : List α) (i : Nat) : (stp2 (l.drop 1))[i]? = l[2 * i + 1]? := by
  rw [stp2_get, List.getElem?_drop, Nat.add_comm]
/-- what keeps to clauses, both ways -/
structure Clo (D : Int → Prop) (cs : List PyData) : Prop where
  c2 : ∀ x h, dCl2 x h ∈ cs → (D x → D h) ∧ (D (0 - h) → D (0 - x))
  c3 : ∀ x y l, dCl3 x y l ∈ cs → (D x → D y → D l) ∧ (D x → D (0 - l) → D (0 - y)) ∧ (D y → D (0 - l) → D (0 - x))
theorem Clo.sub {D : Int → Prop} {cs ds : List PyData} (c : Clo D ds) (h : ∀ d ∈ cs, d ∈ ds) : Clo D cs := ⟨fun x y z => c.c2 x y (h _ z), fun x y l z => c.c3 x y l (h _ z)⟩
/-- the first so many are on: as many outs; the out behind off: so are the next ones -/
structure Fwb (D : Int → Prop) (xs ys R : List Int) (many : Nat) : Prop where
  len : R.length = min many (xs.length + ys.length)
  fw : ∀ a b, a ≤ xs.length → b ≤ ys.length → (∀ i x, i < a → xs[i]? = some x → D x) → (∀ i x, i < b → ys[i]? = some x → D x) →
    (∀ i x, i < a + b → R[i]? = some x → D x) ∧ ∀ x, R[a + b]? = some x → D (0 - x) → (∀ y, xs[a]? = some y → D (0 - y)) ∧ ∀ y, ys[b]? = some y → D (0 - y)
theorem fwb_one {D : Int → Prop} {x y h : Int} {R : List Int} {cs : List PyData} {many : Nat} (C : Clo D cs) (hm : many ≠ 0) (c1 : dCl2 x h ∈ cs) (c2 : dCl2 y h ∈ cs) (two : 1 < many → ∃ l, R = [h, l] ∧ dCl3 x y l ∈ cs) (one : ¬ 1 < many → R = [h]) : Fwb D [x] [y] R many := by
  have k1 := C.c2 x h c1
  have k2 := C.c2 y h c2
  have at0 : ∀ {u : Int} {i : Nat} {v : Int}, ([u] : List Int)[i]? = some v → i = 0 ∧ v = u := fun {u i v} e => by
    have l := (List.getElem?_eq_some_iff.mp e).1
    rw [List.length_singleton] at l
    obtain rfl : i = 0 := by omega
    exact ⟨rfl, (Option.some.inj e).symm⟩
  by_cases t : 1 < many
  · obtain ⟨l, rfl, c3⟩ := two t
    have k3 := C.c3 x y l c3
    refine ⟨by show 2 = min many (1 + 1); omega, fun a b ha hb da db => ?_⟩
    have ha : a ≤ 1 := ha
    have hb : b ≤ 1 := hb
    have dx : 0 < a → D x := fun z => da 0 x z rfl
    have dy : 0 < b → D y := fun z => db 0 y z rfl
    refine ⟨fun i v hi e => ?_, fun v e n => ?_⟩
    · match i, e with
      | 0, e =>
        cases e
        by_cases z : 0 < a
        · exact k1.1 (dx z)
        · exact k2.1 (dy (by omega))
      | 1, e =>
        cases e
        exact k3.1 (dx (by omega)) (dy (by omega))
      | i + 2, e => exact (nil_get (α := Int) (i := i) e).elim
    · match a, b, e with
      | 0, 0, e =>
        cases e
        exact ⟨fun u eu => by rw [(at0 eu).2]; exact k1.2 n, fun u eu => by rw [(at0 eu).2]; exact k2.2 n⟩
      | 1, 0, e =>
        cases e
        exact ⟨fun u eu => absurd (at0 eu).1 (by decide), fun u eu => by rw [(at0 eu).2]; exact k3.2.1 (dx (by decide)) n⟩
      | 0, 1, e =>
        cases e
        exact ⟨fun u eu => by rw [(at0 eu).2]; exact k3.2.2 (dy (by decide)) n, fun u eu => absurd (at0 eu).1 (by decide)⟩
      | 1, 1, e => exact (nil_get (α := Int) (i := 0) e).elim
      | a + 2, _, _ => omega
      | _, b + 2, _ => omega
  · have e1 := one t
    subst e1
    refine ⟨by show 1 = min many (1 + 1); omega, fun a b ha hb da db => ?_⟩
    have ha : a ≤ 1 := ha
    have hb : b ≤ 1 := hb
    have dx : 0 < a → D x := fun z => da 0 x z rfl
    have dy : 0 < b → D y := fun z => db 0 y z rfl
    refine ⟨fun i v hi e => ?_, fun v e n => ?_⟩
    · obtain ⟨rfl, rfl⟩ := at0 e
      by_cases z : 0 < a
      · exact k1.1 (dx z)
      · exact k2.1 (dy (by omega))
    · obtain ⟨z, rfl⟩ := at0 e
      obtain rfl : a = 0 := by omega
      obtain rfl : b = 0 := by omega
      exact ⟨fun u eu => by rw [(at0 eu).2]; exact k1.2 n, fun u eu => by rw [(at0 eu).2]; exact k2.2 n⟩
theorem fwb_nil {D : Int → Prop} {xs ys : List Int} {many : Nat} (h : xs = [] ∨ ys = [] ∨ many = 0) : Fwb D xs ys ((xs ++ ys).take many) many := by
  refine ⟨by rw [List.length_take, List.length_append], fun a b ha hb da db => ?_⟩
  have get : ∀ {i : Nat} {x : Int}, ((xs ++ ys).take many)[i]? = some x → i < many ∧ (xs ++ ys)[i]? = some x := fun {i x} e => by
    rw [List.getElem?_take] at e
    by_cases z : i < many
    · rw [if_pos z] at e
      exact ⟨z, e⟩
    · rw [if_neg z] at e
      cases e
  by_cases h1 : xs = []
  · subst h1
    obtain rfl : a = 0 := Nat.le_zero.mp ha
    refine ⟨fun i x hi e => db i x (by omega) (get e).2, fun x e n => ⟨fun y ey => (nil_get ey).elim, fun y ey => ?_⟩⟩
    have e2 : ys[0 + b]? = some x := (get e).2
    rw [Nat.zero_add, ey] at e2
    rw [Option.some.inj e2]
    exact n
  by_cases h2 : ys = []
  · subst h2
    obtain rfl : b = 0 := Nat.le_zero.mp hb
    rw [List.append_nil] at get ⊢
    refine ⟨fun i x hi e => da i x (by omega) (get e).2, fun x e n => ⟨fun y ey => ?_, fun y ey => (nil_get ey).elim⟩⟩
    have e2 := (get e).2
    rw [Nat.add_zero, ey] at e2
    rw [Option.some.inj e2]
    exact n
  · have m0 := (h.resolve_left h1).resolve_left h2
    subst m0
    exact ⟨fun i x _ e => absurd (get e).1 (Nat.not_lt_zero _), fun x e => absurd (get e).1 (Nat.not_lt_zero _)⟩
theorem some_of {l : List Int} {i : Nat} (h : i < l.length) : ∃ x, l[i]? = some x := ⟨_, List.getElem?_eq_getElem h⟩
theorem none_of {l : List Int} {i : Nat} (h : l.length ≤ i) : l[i]? = none := List.getElem?_eq_none h
theorem lt_of_some {l : List Int} {i : Nat} {x : Int} (h : l[i]? = some x) : i < l.length := (List.getElem?_eq_some_iff.mp h).1
theorem fwb_more {D : Int → Prop} {xs ys O E R : List Int} {many : Nat} {cs : List PyData} (C : Clo D cs) (hm : many ≠ 0) (hn : 1 ≤ xs.length ∧ 1 ≤ ys.length) (fo : Fwb D (stp2 xs) (stp2 ys) O (many / 2 + 1)) (fe : Fwb D (stp2 (xs.drop 1)) (stp2 (ys.drop 1)) E (many / 2))
    (K : Cmb many (O.take 1).length (O.take 1) (O.drop 1) E R cs) : Fwb D xs ys R many := by
  have lO := fo.len
  have lE := fe.len
  rw [stp2_len, stp2_len] at lO lE
  rw [List.length_drop, List.length_drop] at lE
  have p1 : (O.take 1).length = 1 := by
    rw [List.length_take]
    omega
  rw [p1] at K
  have lR := K.len (by omega)
  rw [List.length_drop] at lR
  have gO : ∀ i, (O.drop 1)[i]? = O[i + 1]? := fun i => by rw [List.getElem?_drop, Nat.add_comm]
  have R0 : R[0]? = O[0]? := by
    rw [K.pre 0 (by decide), List.getElem?_take, if_pos (by decide)]
  refine ⟨by omega, fun a b ha hb da db => ?_⟩
  obtain ⟨fO, nO⟩ := fo.fw ((a + 1) / 2) ((b + 1) / 2) (by rw [stp2_len]; omega) (by rw [stp2_len]; omega) (fun i x hi e => da (2 * i) x (by omega) (by rw [← stp2_get]; exact e)) fun i x hi e => db (2 * i) x (by omega) (by rw [← stp2_get]; exact e)
  obtain ⟨fE, nE⟩ := fe.fw (a / 2) (b / 2) (by rw [stp2_len, List.length_drop]; omega) (by rw [stp2_len, List.length_drop]; omega) (fun i x hi e => da (2 * i + 1) x (by omega) (by rw [← stp2_get1]; exact e)) fun i x hi e => db (2 * i + 1) x (by omega) (by rw [← stp2_get1]; exact e)
  have nO' : ∀ t x, (a + 1) / 2 + (b + 1) / 2 = t → O[t]? = some x → D (0 - x) → (∀ y, xs[2 * ((a + 1) / 2)]? = some y → D (0 - y)) ∧ ∀ y, ys[2 * ((b + 1) / 2)]? = some y → D (0 - y) := fun t x e ex n => by
    subst e
    obtain ⟨u, v⟩ := nO x ex n
    exact ⟨fun y ey => u y (by rw [stp2_get]; exact ey), fun y ey => v y (by rw [stp2_get]; exact ey)⟩
  have nE' : ∀ t x, a / 2 + b / 2 = t → E[t]? = some x → D (0 - x) → (∀ y, xs[2 * (a / 2) + 1]? = some y → D (0 - y)) ∧ ∀ y, ys[2 * (b / 2) + 1]? = some y → D (0 - y) := fun t x e ex n => by
    subst e
    obtain ⟨u, v⟩ := nE x ex n
    exact ⟨fun y ey => u y (by rw [stp2_get1]; exact ey), fun y ey => v y (by rw [stp2_get1]; exact ey)⟩
  refine ⟨fun i v hi e => ?_, fun v e n => ?_⟩
  · have li := lt_of_some e
    match i, hi, e, li with
    | 0, hi, e, _ =>
      rw [R0] at e
      exact fO 0 v (by omega) e
    | i + 1, hi, e, li =>
      have hd := Nat.div_add_mod i 2
      rcases Nat.mod_two_eq_zero_or_one i with z | z
      · obtain ⟨t, rfl⟩ : ∃ t, i = 2 * t := ⟨i / 2, by omega⟩
        by_cases bo : t + 1 < O.length
        · obtain ⟨x, ex⟩ := some_of bo
          by_cases be : t < E.length
          · obtain ⟨y, ey⟩ := some_of be
            obtain ⟨h, eh, c1, c2, _⟩ := K.both t x y (by rw [gO]; exact ex) ey (by omega)
            rw [show 1 + 2 * t = 2 * t + 1 by omega, e] at eh
            cases eh
            by_cases q : t + 1 < (a + 1) / 2 + (b + 1) / 2
            · exact (C.c2 _ _ c1).1 (fO _ _ q ex)
            · exact (C.c2 _ _ c2).1 (fE _ _ (by omega) ey)
          · have eh := K.o1 t x (by rw [gO]; exact ex) (none_of (by omega)) (by omega)
            rw [show 1 + 2 * t = 2 * t + 1 by omega, e] at eh
            cases eh
            exact fO (t + 1) _ (by omega) ex
        · obtain ⟨y, ey⟩ := some_of (l := E) (i := t) (by omega)
          have eh := K.e1 t y (by rw [gO]; exact none_of (by omega)) ey (by omega)
          rw [show 1 + 2 * t = 2 * t + 1 by omega, e] at eh
          cases eh
          exact fE t _ (by omega) ey
      · obtain ⟨t, rfl⟩ : ∃ t, i = 2 * t + 1 := ⟨i / 2, by omega⟩
        obtain ⟨x, ex⟩ := some_of (l := O) (i := t + 1) (by omega)
        obtain ⟨y, ey⟩ := some_of (l := E) (i := t) (by omega)
        obtain ⟨h, _, _, _, lo⟩ := K.both t x y (by rw [gO]; exact ex) ey (by omega)
        obtain ⟨l, el, c3⟩ := lo (by omega)
        rw [show 1 + 2 * t + 1 = 2 * t + 1 + 1 by omega, e] at el
        cases el
        exact (C.c3 _ _ _ c3).1 (fO _ _ (by omega) ex) (fE _ _ (by omega) ey)
  · have li := lt_of_some e
    by_cases s0 : a + b = 0
    · obtain rfl : a = 0 := by omega
      obtain rfl : b = 0 := by omega
      rw [show 0 + 0 = 0 from rfl, R0] at e
      exact nO' 0 v (by omega) e n
    rcases Nat.mod_two_eq_zero_or_one (a + b) with z | z
    · obtain ⟨t, et⟩ : ∃ t, a + b = 2 * t + 2 := ⟨(a + b - 2) / 2, by omega⟩
      rw [et] at e li
      obtain ⟨x, ex⟩ := some_of (l := O) (i := t + 1) (by omega)
      obtain ⟨y, ey⟩ := some_of (l := E) (i := t) (by omega)
      obtain ⟨h, _, _, _, lo⟩ := K.both t x y (by rw [gO]; exact ex) ey (by omega)
      obtain ⟨l, el, c3⟩ := lo (by omega)
      rw [show 1 + 2 * t + 1 = 2 * t + 2 by omega, e] at el
      cases el
      have k3 := C.c3 _ _ _ c3
      rcases Nat.mod_two_eq_zero_or_one a with za | za
      · have dy := fE t y (by omega) ey
        have w := nO' (t + 1) x (by omega) ex (k3.2.2 dy n)
        rw [show 2 * ((a + 1) / 2) = a by omega, show 2 * ((b + 1) / 2) = b by omega] at w
        exact w
      · have dx := fO (t + 1) x (by omega) ex
        have w := nE' t y (by omega) ey (k3.2.1 dx n)
        rw [show 2 * (a / 2) + 1 = a by omega, show 2 * (b / 2) + 1 = b by omega] at w
        exact w
    · obtain ⟨t, et⟩ : ∃ t, a + b = 2 * t + 1 := ⟨(a + b) / 2, by omega⟩
      rw [et] at e li
      have both : ∀ x y, O[t + 1]? = some x → E[t]? = some y → D (0 - x) ∧ D (0 - y) := fun x y ex ey => by
        obtain ⟨h, eh, c1, c2, _⟩ := K.both t x y (by rw [gO]; exact ex) ey (by omega)
        rw [show 1 + 2 * t = 2 * t + 1 by omega, e] at eh
        cases eh
        exact ⟨(C.c2 _ _ c1).2 n, (C.c2 _ _ c2).2 n⟩
      have oN : ∀ x, O[t + 1]? = some x → D (0 - x) := fun x ex => by
        by_cases be : t < E.length
        · obtain ⟨y, ey⟩ := some_of be
          exact (both x y ex ey).1
        · have eh := K.o1 t x (by rw [gO]; exact ex) (none_of (by omega)) (by omega)
          rw [show 1 + 2 * t = 2 * t + 1 by omega, e] at eh
          cases eh
          exact n
      have eN : ∀ y, E[t]? = some y → D (0 - y) := fun y ey => by
        by_cases bo : t + 1 < O.length
        · obtain ⟨x, ex⟩ := some_of bo
          exact (both x y ex ey).2
        · have eh := K.e1 t y (by rw [gO]; exact none_of (by omega)) ey (by omega)
          rw [show 1 + 2 * t = 2 * t + 1 by omega, e] at eh
          cases eh
          exact n
      refine ⟨fun y ey => ?_, fun y ey => ?_⟩
      · have ly := lt_of_some ey
        rcases Nat.mod_two_eq_zero_or_one a with za | za
        · obtain ⟨x, ex⟩ := some_of (l := O) (i := t + 1) (by omega)
          have w := (nO' (t + 1) x (by omega) ex (oN x ex)).1
          rw [show 2 * ((a + 1) / 2) = a by omega] at w
          exact w y ey
        · obtain ⟨x, ex⟩ := some_of (l := E) (i := t) (by omega)
          have w := (nE' t x (by omega) ex (eN x ex)).1
          rw [show 2 * (a / 2) + 1 = a by omega] at w
          exact w y ey
      · have ly := lt_of_some ey
        rcases Nat.mod_two_eq_zero_or_one b with za | za
        · obtain ⟨x, ex⟩ := some_of (l := O) (i := t + 1) (by omega)
          have w := (nO' (t + 1) x (by omega) ex (oN x ex)).2
          rw [show 2 * ((b + 1) / 2) = b by omega] at w
          exact w y ey
        · obtain ⟨x, ex⟩ := some_of (l := E) (i := t) (by omega)
          have w := (nE' t x (by omega) ex (eN x ex)).2
          rw [show 2 * (b / 2) + 1 = b by omega] at w
          exact w y ey
theorem mrg_fwb {D : Int → Prop} {f : Int} : ∀ (j : Nat) (st : Nets) (xs ys : List Int) (many : Nat), xs.length + ys.length ≤ j → 1 ≤ j → Clo D (mrg f j st xs ys many).1.cs → Fwb D xs ys (mrg f j st xs ys many).2 many
  | 0, _, _, _, _, _, h, _ => absurd h (by decide)
  | j + 1, st, xs, ys, many, hj, _, C => by
    by_cases c : xs = [] ∨ ys = [] ∨ many = 0
    · rw [mrg_none c]
      exact fwb_nil c
    have hm : many ≠ 0 := fun z => c (.inr (.inr z))
    have h1 : 1 ≤ xs.length := List.length_pos_iff.mpr fun z => c (.inl z)
    have h2 : 1 ≤ ys.length := List.length_pos_iff.mpr fun z => c (.inr (.inl z))
    by_cases c2 : xs.length = 1 ∧ ys.length = 1
    · obtain ⟨a, rfl⟩ := (short (Nat.le_of_eq c2.1)).resolve_left fun z => c (.inl z)
      obtain ⟨b, rfl⟩ := (short (Nat.le_of_eq c2.2)).resolve_left fun z => c (.inr (.inl z))
      rw [mrg_one hm] at C ⊢
      obtain ⟨h, _, k1, k2, two, one⟩ := cmp_told (f := f) (st := st) (a := a) (b := b) (both := decide (1 < many))
      exact fwb_one C hm k1 k2 (fun t => two (decide_eq_true t)) fun t => one (decide_eq_false t)
    · rw [mrg_more c c2] at C ⊢
      have C2 := C.sub (comb_subc _ _ _ _ _ (Nat.le_refl _))
      have C1 := C2.sub (mrg_subc j _ _ _ _)
      have s0 := stp2_len xs
      have s1 := stp2_len ys
      have s2 := stp2_len (xs.drop 1)
      have s3 := stp2_len (ys.drop 1)
      rw [List.length_drop] at s2 s3
      have fo := mrg_fwb j _ _ _ _ (by omega) (by omega) C1
      have fe := mrg_fwb j _ _ _ _ (by omega) (by omega) C2
      have lO := fo.len
      have lE := fe.len
      refine fwb_more C hm ⟨h1, h2⟩ fo fe (comb_all _ _ _ _ _ (Nat.le_refl _) ?_ ?_)
      · rw [List.length_drop]
        omega
      · rw [List.length_drop]
        omega

/-! ### nets' names rise, and a setting that keeps their meanings -/
def unT : PyData → List Int
  | .tuple ds => ds.filterMap fun d => match d with | .int i => some i | _ => none
  | _ => []
theorem unT_tI (c : List Int) : unT (tI c) = c := by
  unfold tI unT
  induction c with
  | nil => rfl
  | cons x r ih =>
    have ih : List.filterMap (fun d => match d with | PyData.int i => some i | _ => none) (r.map PyData.int) = r := ih
    rw [List.map_cons]
    show x :: List.filterMap (fun d => match d with | PyData.int i => some i | _ => none) (r.map PyData.int) = x :: r
    rw [ih]
def Ord (f : Int) (st : Nets) : Prop := ∀ (i : Nat) (d : PyData), st.ns[i]? = some d → ∃ a b, (d = dHigh (f + (i : Int)) a b ∨ d = dLow (f + (i : Int)) a b) ∧ (a.natAbs : Int) < f + i ∧ (b.natAbs : Int) < f + i
def Nc (d : PyData) : Prop := ∃ c, d = tI c ∧ c.Nodup ∧ (∀ x ∈ c, x ≠ 0) ∧ c.length ≤ 3
structure Mk (f : Int) (st st' : Nets) (src R : List Int) : Prop where
  up : st.ns.length ≤ st'.ns.length
  ord : Ord f st'
  nd : ∀ d ∈ st'.cs, Nc d
  out : ∀ x ∈ R, (x ∈ src ∨ f + (st.ns.length : Int) ≤ x) ∧ (x.natAbs : Int) < f + (st'.ns.length : Int) ∧ x ≠ 0
def Und (f : Int) (st : Nets) (l : List Int) : Prop := ∀ x ∈ l, (x.natAbs : Int) < f + (st.ns.length : Int) ∧ x ≠ 0
theorem Und.up {f : Int} {st st' : Nets} {l : List Int} (h : Und f st l) (u : st.ns.length ≤ st'.ns.length) : Und f st' l := fun x hx => by
  have := h x hx
  exact ⟨by omega, this.2⟩
theorem ord_snoc {f : Int} {ns cs : List PyData} {cs' : List PyData} {d : PyData} {a b : Int} (o : Ord f ⟨ns, cs⟩) (h : d = dHigh (f + (ns.length : Int)) a b ∨ d = dLow (f + (ns.length : Int)) a b) (ha : (a.natAbs : Int) < f + (ns.length : Int)) (hb : (b.natAbs : Int) < f + (ns.length : Int)) : Ord f ⟨ns ++ [d], cs'⟩ := fun i e he => by
  have he : (ns ++ [d])[i]? = some e := he
  by_cases c : i < ns.length
  · rw [List.getElem?_append_left c] at he
    exact o i e he
  · rw [List.getElem?_append_right (by omega)] at he
    have l := (List.getElem?_eq_some_iff.mp he).1
    rw [List.length_singleton] at l
    obtain rfl : i = ns.length := by omega
    rw [Nat.sub_self] at he
    obtain rfl := Option.some.inj he
    exact ⟨a, b, h, ha, hb⟩
theorem nc_two {a h : Int} (n : 0 - a ≠ h) (ha : a ≠ 0) (hh : h ≠ 0) : Nc (dCl2 a h) := ⟨[0 - a, h], rfl, by simp; omega, fun x hx => by
  simp only [List.mem_cons, List.not_mem_nil, or_false] at hx
  omega, by show 2 ≤ 3; decide⟩
theorem nc_three {a b l : Int} (n : 0 - a ≠ l) (n2 : 0 - b ≠ l) (ab : a ≠ b) (ha : a ≠ 0) (hb : b ≠ 0) (hl : l ≠ 0) : Nc (dCl3 a b l) := ⟨[0 - a, 0 - b, l], rfl, by
  rw [List.nodup_cons, List.nodup_cons]
  refine ⟨fun z => ?_, fun z => ?_, by simp⟩
  · simp only [List.mem_cons, List.not_mem_nil, or_false] at z
    omega
  · simp only [List.mem_cons, List.not_mem_nil, or_false] at z
    omega, fun x hx => by
  simp only [List.mem_cons, List.not_mem_nil, or_false] at hx
  omega, by show 3 ≤ 3; decide⟩
theorem cmp_mk {f : Int} {st : Nets} {a b : Int} {both : Bool} {src : List Int} (hf : 0 < f) (o : Ord f st) (n : ∀ d ∈ st.cs, Nc d) (u : Und f st [a, b]) (ab : a ≠ b) : Mk f st (st.cmp f a b both).1 src (st.cmp f a b both).2 := by
  obtain ⟨ua, za⟩ := u a List.mem_cons_self
  obtain ⟨ub, zb⟩ := u b (List.mem_cons_of_mem _ List.mem_cons_self)
  have o1 : Ord f ⟨st.ns ++ [dHigh (f + (st.ns.length : Nat)) a b], st.cs⟩ := ord_snoc o (.inl rfl) ua ub
  have two : ∀ d ∈ [dCl2 a (f + (st.ns.length : Nat)), dCl2 b (f + (st.ns.length : Nat))], Nc d := fun d hd => by
    rcases List.mem_cons.mp hd with z | z
    · rw [z]
      exact nc_two (by omega) za (by omega)
    · rw [List.mem_singleton.mp z]
      exact nc_two (by omega) zb (by omega)
  cases both with
  | true =>
    refine ⟨?_, ?_, fun d hd => ?_, fun x hx => ?_⟩
    · show st.ns.length ≤ (st.ns ++ [_] ++ [_]).length
      rw [List.length_append, List.length_append]
      omega
    · have l1 : (st.ns ++ [dHigh (f + (st.ns.length : Nat)) a b]).length = st.ns.length + 1 := by rw [List.length_append]; rfl
      exact ord_snoc o1 (.inr (by rw [l1]; show dLow (f + (st.ns.length : Nat) + 1) a b = _; rw [show f + ((st.ns.length : Nat) : Int) + 1 = f + ((st.ns.length + 1 : Nat) : Int) by omega])) (by rw [l1]; omega) (by rw [l1]; omega)
    · rcases List.mem_append.mp hd with z | z
      · rcases List.mem_append.mp z with z | z
        · exact n d z
        · exact two d z
      · rw [List.mem_singleton.mp z]
        exact nc_three (by omega) (by omega) ab za zb (by omega)
    · have lx : (st.cmp f a b true).1.ns.length = st.ns.length + 2 := by
        show (st.ns ++ [_] ++ [_]).length = _
        rw [List.length_append, List.length_append]
        rfl
      rw [lx]
      have hx : x ∈ [f + (st.ns.length : Nat), f + (st.ns.length : Nat) + 1] := hx
      simp only [List.mem_cons, List.not_mem_nil, or_false] at hx
      exact ⟨.inr (by omega), by omega, by omega⟩
  | false =>
    refine ⟨?_, ?_, fun d hd => ?_, fun x hx => ?_⟩
    · show st.ns.length ≤ (st.ns ++ [_]).length
      rw [List.length_append]
      omega
    · exact ord_snoc o (.inl rfl) ua ub
    · rcases List.mem_append.mp hd with z | z
      · exact n d z
      · exact two d z
    · have lx : (st.cmp f a b false).1.ns.length = st.ns.length + 1 := by
        show (st.ns ++ [_]).length = _
        rw [List.length_append]
        rfl
      rw [lx]
      have hx : x ∈ [f + (st.ns.length : Nat)] := hx
      have := List.mem_singleton.mp hx
      exact ⟨.inr (by omega), by omega, by omega⟩
theorem one_mk {f : Int} {st : Nets} {xs ys : List Int} {many : Nat} (hf : 0 < f) (o : Ord f st) (n : ∀ d ∈ st.cs, Nc d) (u : Und f st (xs ++ ys)) (ab : ∀ a ∈ xs, ∀ b ∈ ys, a ≠ b) : Mk f st (st.one f xs ys many).1 (xs ++ ys) (st.one f xs ys many).2 := by
  by_cases c : xs.length = 1 ∧ ys.length = 1
  · match xs, ys, c with
    | [a], [b], _ => exact cmp_mk hf o n u (ab a List.mem_cons_self b List.mem_cons_self)
  · rw [one_notB c]
    exact ⟨Nat.le_refl _, o, n, fun x hx => ⟨.inl hx, u x hx⟩⟩
theorem mem_take1 {α : Type} {l : List α} {x : α} {k : Nat} (h : x ∈ l.take k) : x ∈ l := List.mem_of_mem_take h
theorem comb_mk {f : Int} {many : Nat} (hf : 0 < f) : ∀ (k : Nat) (st : Nets) (outs os es : List Int), os.length + es.length ≤ k → Ord f st → (∀ d ∈ st.cs, Nc d) → Und f st (outs ++ (os ++ es)) → (∀ a ∈ os, ∀ b ∈ es, a ≠ b) →
    Mk f st (comb f many st outs os es).1 (outs ++ (os ++ es)) (comb f many st outs os es).2 := by
  intro k
  induction k with
  | zero =>
    intro st outs os es hk o n u ab
    have e1 : os = [] := List.length_eq_zero_iff.mp (by omega)
    have e2 : es = [] := List.length_eq_zero_iff.mp (by omega)
    subst e1 e2
    rw [comb_end (fun z => z.2.elim (fun y => y rfl) fun y => y rfl)]
    exact ⟨Nat.le_refl _, o, n, fun x hx => ⟨.inl (List.mem_append_left _ hx), u x (List.mem_append_left _ hx)⟩⟩
  | succ k ih =>
    intro st outs os es hk o n u ab
    by_cases c : outs.length < many ∧ (os ≠ [] ∨ es ≠ [])
    · rw [comb_go c.1 c.2]
      have m1 := one_mk (xs := os.take 1) (ys := es.take 1) (many := many - outs.length) hf o n (fun x hx => u x (List.mem_append_right _ ((List.mem_append.mp hx).elim (fun z => List.mem_append_left _ (mem_take1 z)) fun z => List.mem_append_right _ (mem_take1 z)))) fun a ha b hb => ab a (mem_take1 ha) b (mem_take1 hb)
      have m2 := ih (st.one f (os.take 1) (es.take 1) (many - outs.length)).1 (outs ++ (st.one f (os.take 1) (es.take 1) (many - outs.length)).2) (os.drop 1) (es.drop 1) (by
        rw [List.length_drop, List.length_drop]
        rcases c.2 with z | z
        · have := List.length_pos_iff.mpr z
          omega
        · have := List.length_pos_iff.mpr z
          omega) m1.ord m1.nd (fun x hx => by
        rcases List.mem_append.mp hx with z | z
        · rcases List.mem_append.mp z with z | z
          · exact (u.up m1.up) x (List.mem_append_left _ z)
          · exact (m1.out x z).2
        · exact (u.up m1.up) x (List.mem_append_right _ ((List.mem_append.mp z).elim (fun z => List.mem_append_left _ (List.mem_of_mem_drop z)) fun z => List.mem_append_right _ (List.mem_of_mem_drop z)))) fun a ha b hb => ab a (List.mem_of_mem_drop ha) b (List.mem_of_mem_drop hb)
      refine ⟨Nat.le_trans m1.up m2.up, m2.ord, m2.nd, fun x hx => ⟨?_, (m2.out x hx).2⟩⟩
      have up1 := m1.up
      rcases (m2.out x hx).1 with z | z
      · rcases List.mem_append.mp z with z | z
        · rcases List.mem_append.mp z with z | z
          · exact .inl (List.mem_append_left _ z)
          · rcases (m1.out x z).1 with w | w
            · exact .inl (List.mem_append_right _ ((List.mem_append.mp w).elim (fun z => List.mem_append_left _ (mem_take1 z)) fun z => List.mem_append_right _ (mem_take1 z)))
            · exact .inr w
        · exact .inl (List.mem_append_right _ ((List.mem_append.mp z).elim (fun z => List.mem_append_left _ (List.mem_of_mem_drop z)) fun z => List.mem_append_right _ (List.mem_of_mem_drop z)))
      · exact .inr (by omega)
    · rw [comb_end c]
      exact ⟨Nat.le_refl _, o, n, fun x hx => ⟨.inl (List.mem_append_left _ hx), u x (List.mem_append_left _ hx)⟩⟩
theorem stp2_mem {α : Type} {x : α} : ∀ {l : List α}, x ∈ stp2 l → x ∈ l
  | [], h => h
  | [_], h => h
  | y :: _ :: r, h => by
    rw [stp2] at h
    rcases List.mem_cons.mp h with z | z
    · rw [z]
      exact List.mem_cons_self
    · exact List.mem_cons_of_mem _ (List.mem_cons_of_mem _ (stp2_mem z))
theorem stp2_nd {α : Type} : ∀ {l : List α}, l.Nodup → (stp2 l).Nodup
  | [], _ => List.nodup_nil
  | [_], h => h
  | y :: z :: r, h => by
    rw [List.nodup_cons, List.nodup_cons] at h
    rw [stp2, List.nodup_cons]
    exact ⟨fun m => h.1 (List.mem_cons_of_mem _ (stp2_mem m)), stp2_nd h.2.2⟩
theorem stp2_apart {α : Type} : ∀ {l : List α}, l.Nodup → ∀ a ∈ stp2 l, ∀ b ∈ stp2 (l.drop 1), a ≠ b
  | [], _, a, ha, _, _ => by cases ha
  | [_], _, a, _, b, hb => by cases hb
  | [x, y], h, a, ha, b, hb => by
    have ha : a ∈ [x] := ha
    have hb : b ∈ [y] := hb
    rw [List.mem_singleton.mp ha, List.mem_singleton.mp hb]
    intro e
    rw [List.nodup_cons] at h
    exact h.1 (by rw [e]; exact List.mem_cons_self)
  | x :: y :: z :: r, h, a, ha, b, hb => by
    have ha : a ∈ x :: stp2 (z :: r) := ha
    have hb : b ∈ y :: stp2 ((z :: r).drop 1) := hb
    rw [List.nodup_cons, List.nodup_cons] at h
    rcases List.mem_cons.mp ha with ea | ea
    · rw [ea]
      intro e
      rcases List.mem_cons.mp hb with eb | eb
      · exact h.1 (by rw [e, eb]; exact List.mem_cons_self)
      · exact h.1 (by rw [e]; exact List.mem_cons_of_mem _ (List.mem_of_mem_drop (stp2_mem eb)))
    · rcases List.mem_cons.mp hb with eb | eb
      · rw [eb]
        intro e
        exact h.2.1 (by rw [← e]; exact stp2_mem ea)
      · exact stp2_apart h.2.2 a ea b eb
theorem mrg_mk {f : Int} (hf : 0 < f) : ∀ (j : Nat) (st : Nets) (xs ys : List Int) (many : Nat), Ord f st → (∀ d ∈ st.cs, Nc d) → Und f st (xs ++ ys) → (xs ++ ys).Nodup → Mk f st (mrg f j st xs ys many).1 (xs ++ ys) (mrg f j st xs ys many).2
  | 0, st, xs, ys, many, o, n, _, _ => ⟨Nat.le_refl _, o, n, fun x hx => (by cases hx)⟩
  | j + 1, st, xs, ys, many, o, n, u, nd => by
    by_cases c : xs = [] ∨ ys = [] ∨ many = 0
    · rw [mrg_none c]
      exact ⟨Nat.le_refl _, o, n, fun x hx => ⟨.inl (mem_take1 hx), u x (mem_take1 hx)⟩⟩
    have ndp := List.nodup_append.mp nd
    by_cases c2 : xs.length = 1 ∧ ys.length = 1
    · obtain ⟨a, rfl⟩ := (short (Nat.le_of_eq c2.1)).resolve_left fun z => c (.inl z)
      obtain ⟨b, rfl⟩ := (short (Nat.le_of_eq c2.2)).resolve_left fun z => c (.inr (.inl z))
      rw [mrg_one (fun z => c (.inr (.inr z)))]
      exact cmp_mk hf o n u (ndp.2.2 a List.mem_cons_self b List.mem_cons_self)
    · rw [mrg_more c c2]
      have inO : ∀ x ∈ stp2 xs ++ stp2 ys, x ∈ xs ++ ys := fun x hx => (List.mem_append.mp hx).elim (fun z => List.mem_append_left _ (stp2_mem z)) fun z => List.mem_append_right _ (stp2_mem z)
      have inE : ∀ x ∈ stp2 (xs.drop 1) ++ stp2 (ys.drop 1), x ∈ xs ++ ys := fun x hx => (List.mem_append.mp hx).elim (fun z => List.mem_append_left _ (List.mem_of_mem_drop (stp2_mem z))) fun z => List.mem_append_right _ (List.mem_of_mem_drop (stp2_mem z))
      have dr : ∀ {l : List Int}, l.Nodup → (l.drop 1).Nodup := fun h => h.sublist (List.drop_sublist 1 _)
      have m1 := mrg_mk hf j st (stp2 xs) (stp2 ys) (many / 2 + 1) o n (fun x hx => u x (inO x hx)) (List.nodup_append.mpr ⟨stp2_nd ndp.1, stp2_nd ndp.2.1, fun a ha b hb => ndp.2.2 a (stp2_mem ha) b (stp2_mem hb)⟩)
      have m2 := mrg_mk hf j (mrg f j st (stp2 xs) (stp2 ys) (many / 2 + 1)).1 (stp2 (xs.drop 1)) (stp2 (ys.drop 1)) (many / 2) m1.ord m1.nd (fun x hx => (u.up m1.up) x (inE x hx)) (List.nodup_append.mpr ⟨stp2_nd (dr ndp.1), stp2_nd (dr ndp.2.1), fun a ha b hb => ndp.2.2 a (List.mem_of_mem_drop (stp2_mem ha)) b (List.mem_of_mem_drop (stp2_mem hb))⟩)
      have up1 := m1.up
      have up2 := m2.up
      have src1 : ∀ x ∈ (mrg f j st (stp2 xs) (stp2 ys) (many / 2 + 1)).2, (x ∈ xs ++ ys ∨ f + (st.ns.length : Int) ≤ x) ∧ (x.natAbs : Int) < f + ((mrg f j st (stp2 xs) (stp2 ys) (many / 2 + 1)).1.ns.length : Int) ∧ x ≠ 0 := fun x hx => ⟨(m1.out x hx).1.imp (inO x) id, (m1.out x hx).2⟩
      have apart : ∀ a ∈ (mrg f j st (stp2 xs) (stp2 ys) (many / 2 + 1)).2, ∀ b ∈ (mrg f j (mrg f j st (stp2 xs) (stp2 ys) (many / 2 + 1)).1 (stp2 (xs.drop 1)) (stp2 (ys.drop 1)) (many / 2)).2, a ≠ b := fun a ha b hb e => by
        subst e
        have ua := (m1.out a ha).2.1
        rcases (m2.out a hb).1 with zb | zb
        · rcases (m1.out a ha).1 with za | za
          · rcases List.mem_append.mp za with za | za <;> rcases List.mem_append.mp zb with zb | zb
            · exact stp2_apart ndp.1 a za a zb rfl
            · exact ndp.2.2 a (stp2_mem za) a (List.mem_of_mem_drop (stp2_mem zb)) rfl
            · exact ndp.2.2 a (List.mem_of_mem_drop (stp2_mem zb)) a (stp2_mem za) rfl
            · exact stp2_apart ndp.2.1 a za a zb rfl
          · have := (u a (inE a zb)).1
            omega
        · omega
      have m3 := comb_mk (many := many) hf _ (mrg f j (mrg f j st (stp2 xs) (stp2 ys) (many / 2 + 1)).1 (stp2 (xs.drop 1)) (stp2 (ys.drop 1)) (many / 2)).1 ((mrg f j st (stp2 xs) (stp2 ys) (many / 2 + 1)).2.take 1) ((mrg f j st (stp2 xs) (stp2 ys) (many / 2 + 1)).2.drop 1)
        (mrg f j (mrg f j st (stp2 xs) (stp2 ys) (many / 2 + 1)).1 (stp2 (xs.drop 1)) (stp2 (ys.drop 1)) (many / 2)).2 (Nat.le_refl _) m2.ord m2.nd (fun x hx => by
          rcases List.mem_append.mp hx with z | z
          · have := (src1 x (mem_take1 z)).2
            exact ⟨by omega, this.2⟩
          · rcases List.mem_append.mp z with z | z
            · have := (src1 x (List.mem_of_mem_drop z)).2
              exact ⟨by omega, this.2⟩
            · exact (m2.out x z).2) fun a ha b hb => apart a (List.mem_of_mem_drop ha) b hb
      refine ⟨Nat.le_trans up1 (Nat.le_trans up2 m3.up), m3.ord, m3.nd, fun x hx => ⟨?_, (m3.out x hx).2⟩⟩
      rcases (m3.out x hx).1 with z | z
      · rcases List.mem_append.mp z with z | z
        · exact (src1 x (mem_take1 z)).1
        · rcases List.mem_append.mp z with z | z
          · exact (src1 x (List.mem_of_mem_drop z)).1
          · rcases (m2.out x z).1 with w | w
            · exact .inl (inE x w)
            · exact .inr (by omega)
      · exact .inr (by omega)

/-! ### sorted(xs, key=abs), xs of whole numbers, any length -/
def byAbs (ns : List Int) : List Int := ns.mergeSort fun a b => decide ((if a < 0 then -a else a) ≤ (if b < 0 then -b else b))
def tSortAbs (K : PySem.W.Frag) (t : TA) : TE := fun σ H Q => t σ H fun vs H1 => ∃ (a : Addr) (ns : List Int), vs = [.ref a] ∧ SqL K H1 a (ns.map V.int) ∧ ∀ p, H1 p = none → Q (.ref p) (upd H1 p (.lst ((byAbs ns).map V.int)))
theorem each_ints : ∀ {vs : List Value} {ns : List Int}, IntsAre vs ns → PySem.W.EachIs (fun v (n : Int) => ∃ t, v = Value.int n t) vs ns
  | _, _, .nil => .nil
  | _, _, .cons _ u t => .cons ⟨u, rfl⟩ (each_ints t)
theorem vals_each : ∀ {vs : List Value} {ns : List Int}, PySem.W.EachIs (fun v (n : Int) => ∃ t, v = Value.int n t) vs ns → Vals (ns.map V.int) vs
  | _, _, .nil => .nil
  | _, _, .cons h t => .cons h (vals_each t)
section
variable {X : Cx}
theorem pe_sortAbs {e : Expr} {t : TA} {p p2 kpos pos : Pos} (hu : X.A.units + 64 < cLine) (hg : Gl X "sorted") (hm : X.mg "sorted" = none) (ha : Gl X "abs") (hma : X.mg "abs" = none) (he : PA X [e] t)
    (h1 : backTo pos (starEach [e] X.env) = (false, eval e X.env) :: backTo pos (starEach [] X.env) := by rfl) (hpl : (backTo pos (starEach [e] X.env)).any (·.1) = false := by rfl)
    (hall : (backToKw pos (keywordEach [⟨some "key", .Name "abs" p2, kpos⟩] X.env)).all (·.1.isSome) = true := by rfl) (hnone : (backToKw pos (keywordEach [⟨some "key", .Name "abs" p2, kpos⟩] X.env)).any (·.1.isNone) = false := by rfl)
    (hks : (backToKw pos (keywordEach [⟨some "key", .Name "abs" p2, kpos⟩] X.env)).filterMap (·.1) = [Str.ofString "key"] := by rfl) :
    PE X (.Call (.Name "sorted" p) [e] [⟨some "key", .Name "abs" p2, kpos⟩] pos) (tSortAbs X.K t) := by
  refine ⟨fun pins s σ H Q I h => ?_⟩
  refine wpAny_Call_Name_kw (ld_blt I hg hm (u := .builtin "sorted") (by decide +kernel) ?_ (by decide) (by decide))
  refine PyProof.Rows.callWith_kw (thn (he.run pos pins s σ H _ I h) fun us s1 ⟨vs, H1, I1, r1, q1⟩ => ?_) h1 hpl hall hnone
  obtain ⟨a, ns, ev, hs, q⟩ := q1
  rw [hks]
  show wpAny _ _ (evalAll ((do let v ← eval (.Name "abs" p2) X.env; standAt pos; pure v) :: [])) _ _ s1
  refine wpAny_evalAll_cons (wpAny_bind (ld_blt I1 ha hma (u := .builtin "abs") (by decide +kernel) (wpAny_bind (wpAny_standAt (wpAny_pure ?_))) (by decide) (by decide)))
  refine wpAny_evalAll_nil ?_
  subst ev
  obtain rfl := Vals.ref1 r1
  obtain ⟨its, rv, hl, hz⟩ := I1.list hs
  rw [List.length_map] at hz
  refine PySem.W.sorted_key_data (b := false) (bs := ns) (R := fun v (n : Int) => ∃ t, v = Value.int n t) (fun z => PyData.int (if z < 0 then -z else z)) hl.isList (each_ints rv.ints) (PySem.W.AllAlike.of fun _ _ => by simp [PySem.W.alike])
    (PySem.W.Sortable.others fun _ => ⟨by simp, by simp⟩) hz (fun x _ => ?_) (ksk_s1 _ _) (fun _ => ksk_l1 _ _) (fun a => ksk_t4 "abs" a) (fun v x hv hx h' tk hk => ?_) fun out c h' tk hk fr hD _ eo => ?_
  · have e0 : (PyData.int (if x < 0 then -x else x)).depth = 0 := rfl
    rw [e0]
    omega
  · obtain ⟨t', rfl⟩ := hv
    exact call_abs_int fun u tk' => ⟨h', tk', rfl, fun _ _ e => e, .int _ _⟩
  · rw [PySem.W.dataLe_int] at eo
    have rv2 : Vals ((byAbs ns).map V.int) out := vals_each eo
    have hlen : ((byAbs ns).map V.int).length ≤ sizeLine := by
      rw [List.length_map]
      unfold byAbs
      rw [List.length_mergeSort]
      exact hz
    exact ⟨.ref _, upd H1 (s1.heap.objs.size + 1) (.lst ((byAbs ns).map V.int)), I1.laid (t' := tk) hk (Nat.le_succ _) ⟨hlen, _, c, rv2, hD⟩, rfl, q _ (I1.hok.fresh (Nat.le_succ _))⟩
end

/-! ### what follows at once, as plain functions and sets -/
theorem mem_left {tr c : List Int} {x : Int} : x ∈ left tr c ↔ x ∈ c ∧ -x ∉ tr := by
  unfold left
  rw [List.mem_filter]
  simp
def offC (tr c : List Int) : Int := ((c.filter fun m => decide (-m ∈ tr)).length : Int)
theorem off_left (tr : List Int) : ∀ c : List Int, offC tr c + ((left tr c).length : Int) = (c.length : Int)
  | [] => rfl
  | x :: r => by
    have ih := off_left tr r
    unfold offC left at ih ⊢
    by_cases h : -x ∈ tr
    · rw [List.filter_cons_of_pos (by simp [h]), List.filter_cons_of_neg (by simp [h]), List.length_cons, List.length_cons]
      omega
    · rw [List.filter_cons_of_neg (by simp [h]), List.filter_cons_of_pos (by simp [h]), List.length_cons, List.length_cons]
      omega
theorem left_snoc (tr c : List Int) (m : Int) : left (tr ++ [m]) c = (left tr c).filter fun x => decide (x ≠ -m) := by
  unfold left
  rw [List.filter_filter]
  refine List.filter_congr fun x _ => ?_
  by_cases h1 : -x ∈ tr
  · simp [h1]
  · by_cases h2 : x = -m
    · simp [h1, h2]
    · have h3 : -x ≠ m := fun e => h2 (by omega)
      simp [h1, h2, h3]
def Quiet (tr c : List Int) : Prop := left tr c ≠ [] ∧ ∀ x, left tr c = [x] → x ∈ tr
def Closed (cs : List (List Int)) (tr : List Int) : Prop := ∀ c ∈ cs, Quiet tr c
theorem quiet_big {tr c : List Int} (h : 2 ≤ (left tr c).length) : Quiet tr c := by
  refine ⟨fun e => ?_, fun x e => ?_⟩
  · rw [e] at h
    exact absurd h (by decide)
  · rw [e] at h
    exact absurd h (by simp)
theorem left_other {tr c : List Int} {m : Int} (h : -m ∉ c) : left (tr ++ [m]) c = left tr c := by
  rw [left_snoc]
  refine List.filter_eq_self.mpr fun x hx => ?_
  have hc := (mem_left.mp hx).1
  exact decide_eq_true fun e => h (e ▸ hc)
theorem quiet_other {tr c : List Int} {m : Int} (h : -m ∉ c) (q : Quiet tr c) : Quiet (tr ++ [m]) c := by
  unfold Quiet
  rw [left_other h]
  exact ⟨q.1, fun x e => List.mem_append_left _ (q.2 x e)⟩
theorem len_drop_one {l : List Int} {y : Int} (hn : l.Nodup) (hy : y ∈ l) : (l.filter fun x => decide (x ≠ y)).length + 1 = l.length := by
  induction l with
  | nil => cases hy
  | cons a r ih =>
    have hn' := List.nodup_cons.mp hn
    by_cases e : a = y
    · subst e
      rw [List.filter_cons_of_neg (by simp), List.length_cons]
      have : r.filter (fun x => decide (x ≠ a)) = r := List.filter_eq_self.mpr fun x hx => decide_eq_true fun z => hn'.1 (z ▸ hx)
      rw [this]
    · rw [List.filter_cons_of_pos (by simpa using e), List.length_cons, List.length_cons, ih hn'.2 ((List.mem_cons.mp hy).resolve_left fun z => e z.symm)]
theorem left_has {tr c : List Int} {m : Int} (hn : c.Nodup) (hm : m ∉ tr) (h : -m ∈ c) : (left (tr ++ [m]) c).length + 1 = (left tr c).length := by
  rw [left_snoc]
  exact len_drop_one (hn.sublist List.filter_sublist) (mem_left.mpr ⟨h, by rw [Int.neg_neg]; exact hm⟩)
/-- the numbers of the clauses that have a mark -/
def nums (cs : List (List Int)) (x : Int) : List Nat := (List.range cs.length).filter fun i => decide (x ∈ cs.getD i [])
theorem nums_snoc (cs : List (List Int)) (c : List Int) (x : Int) : nums (cs ++ [c]) x = nums cs x ++ (if x ∈ c then [cs.length] else []) := by
  unfold nums
  rw [List.length_append, List.length_singleton, List.range_succ, List.filter_append]
  congr 1
  · refine List.filter_congr fun i hi => ?_
    have hl := List.mem_range.mp hi
    rw [List.getD_eq_getElem?_getD, List.getD_eq_getElem?_getD, List.getElem?_append_left hl]
  · have e : (cs ++ [c]).getD cs.length [] = c := by
      rw [List.getD_eq_getElem?_getD, List.getElem?_append_right (Nat.le_refl _), Nat.sub_self]
      rfl
    by_cases h : x ∈ c
    · rw [if_pos h, List.filter_cons_of_pos (by rw [e]; exact decide_eq_true h)]
      rfl
    · rw [if_neg h, List.filter_cons_of_neg (by rw [e]; simpa using h)]
      rfl
theorem mem_nums {cs : List (List Int)} {x : Int} {i : Nat} : i ∈ nums cs x ↔ ∃ c, cs[i]? = some c ∧ x ∈ c := by
  unfold nums
  rw [List.mem_filter, List.mem_range]
  constructor
  · rintro ⟨h, hx⟩
    refine ⟨cs[i], List.getElem?_eq_getElem h, ?_⟩
    have := of_decide_eq_true hx
    rw [List.getD_eq_getElem?_getD, List.getElem?_eq_getElem h] at this
    exact this
  · rintro ⟨c, h, hx⟩
    have hl := (List.getElem?_eq_some_iff.mp h).1
    refine ⟨hl, decide_eq_true ?_⟩
    rw [List.getD_eq_getElem?_getD, h]
    exact hx
theorem nums_nodup (cs : List (List Int)) (x : Int) : (nums cs x).Nodup := List.nodup_range.sublist List.filter_sublist
def leftSum (cs : List (List Int)) (tr : List Int) : Nat := (cs.map fun c => (left tr c).length).sum
theorem leftSum_cons (c : List Int) (cs : List (List Int)) (tr : List Int) : leftSum (c :: cs) tr = (left tr c).length + leftSum cs tr := by
  unfold leftSum
  rw [List.map_cons, List.sum_cons]
theorem leftSum_append (a b : List (List Int)) (tr : List Int) : leftSum (a ++ b) tr = leftSum a tr + leftSum b tr := by
  unfold leftSum
  rw [List.map_append, List.sum_append]
theorem rev_ind {α : Type} {P : List α → Prop} (h0 : P []) (h1 : ∀ xs x, P xs → P (xs ++ [x])) : ∀ xs, P xs := by
  intro xs
  have h : ∀ ys : List α, P ys.reverse := by
    intro ys
    induction ys with
    | nil => exact h0
    | cons a r ih =>
      rw [List.reverse_cons]
      exact h1 _ _ ih
  have := h xs.reverse
  rw [List.reverse_reverse] at this
  exact this
theorem leftSum_snoc {m : Int} {tr : List Int} (hm : m ∉ tr) : ∀ cs : List (List Int), (∀ c ∈ cs, c.Nodup) → leftSum cs (tr ++ [m]) + (nums cs (-m)).length = leftSum cs tr := by
  refine rev_ind (fun _ => rfl) fun xs c ih hn => ?_
  have ih' := ih fun d hd => hn d (List.mem_append_left _ hd)
  have hc := hn c (List.mem_append_right _ List.mem_cons_self)
  rw [leftSum_append, leftSum_append, nums_snoc, List.length_append]
  have one : ∀ t, leftSum [c] t = (left t c).length := fun t => by
    rw [leftSum_cons]
    rfl
  rw [one, one]
  by_cases h : -m ∈ c
  · rw [if_pos h]
    have := left_has hc hm h
    simp only [List.length_singleton]
    omega
  · rw [if_neg h, left_other h]
    simp only [List.length_nil]
    omega
theorem leftSum_le (cs : List (List Int)) (tr : List Int) : leftSum cs tr ≤ cs.flatten.length := by
  induction cs with
  | nil => exact Nat.le_refl _
  | cons c r ih =>
    rw [leftSum_cons, List.flatten_cons, List.length_append]
    have : (left tr c).length ≤ c.length := List.length_filter_le _ _
    omega
/-! ### derived marks -/
inductive Der (cs : List (List Int)) (ps : List Int) : Int → Prop
  | put {m : Int} : m ∈ ps → Der cs ps m
  | cl {m : Int} {c : List Int} : c ∈ cs → m ∈ c → (∀ x ∈ c, x ≠ m → Der cs ps (-x)) → Der cs ps m
def Brk (cs : List (List Int)) (ps : List Int) : Prop := ∃ c ∈ cs, ∀ x ∈ c, Der cs ps (-x)
/-- each mark of a trail came by a row or was put -/
def Just (cs : List (List Int)) (ps tr : List Int) (rw : List (Option Int)) : Prop :=
  ∀ (i : Nat) (m : Int), tr[i]? = some m → (rw[i]? = some none ∧ m ∈ ps) ∨ ∃ (k : Nat) (c : List Int), rw[i]? = some (some (k : Int)) ∧ cs[k]? = some c ∧ m ∈ c ∧ ∀ x ∈ c, x ≠ m → -x ∈ tr.take i
theorem mem_take {α : Type} {l : List α} {i : Nat} {x : α} (h : x ∈ l.take i) : ∃ j, j < i ∧ l[j]? = some x := by
  obtain ⟨j, hj⟩ := List.mem_iff_getElem?.mp h
  rw [List.getElem?_take] at hj
  by_cases c : j < i
  · rw [if_pos c] at hj
    exact ⟨j, c, hj⟩
  · rw [if_neg c] at hj
    cases hj
theorem just_der {cs : List (List Int)} {ps tr : List Int} {rw : List (Option Int)} (h : Just cs ps tr rw) : ∀ (n i : Nat) (m : Int), i < n → tr[i]? = some m → Der cs ps m := by
  intro n
  induction n with
  | zero => intro i m hi; exact absurd hi (Nat.not_lt_zero _)
  | succ n ih =>
    intro i m hi hm
    rcases h i m hm with ⟨_, hp⟩ | ⟨k, c, _, hc, hmc, ho⟩
    · exact .put hp
    · refine .cl (List.mem_of_getElem? hc) hmc fun x hx hne => ?_
      obtain ⟨j, hj, e⟩ := mem_take (ho x hx hne)
      exact ih j (-x) (by omega) e
theorem Just.der {cs : List (List Int)} {ps tr : List Int} {rw : List (Option Int)} (h : Just cs ps tr rw) {m : Int} (hm : m ∈ tr) : Der cs ps m := by
  obtain ⟨i, e⟩ := List.mem_iff_getElem?.mp hm
  exact just_der h (i + 1) i m (Nat.lt_succ_self _) e
theorem der_in {cs : List (List Int)} {ps tr : List Int} (hn : ∀ c ∈ cs, c.Nodup) (hp : ∀ m ∈ ps, m ∈ tr) (hc : Closed cs tr) {m : Int} (h : Der cs ps m) : m ∈ tr := by
  induction h with
  | put h => exact hp _ h
  | @cl m c hm hmc _ ih =>
    have q := hc c hm
    have sub : ∀ x ∈ left tr c, x = m := fun x hx => by
      obtain ⟨h1, h2⟩ := mem_left.mp hx
      by_cases e : x = m
      · exact e
      · exact absurd (ih x h1 e) h2
    have nd : (left tr c).Nodup := (hn c hm).sublist List.filter_sublist
    cases e : left tr c with
    | nil => exact absurd e q.1
    | cons a r =>
      rw [e] at sub nd
      have ha := sub a List.mem_cons_self
      cases r with
      | nil => exact ha ▸ q.2 a e
      | cons b r2 =>
        have hb := sub b (List.mem_cons_of_mem _ List.mem_cons_self)
        exact absurd (List.mem_cons_self : b ∈ b :: r2) ((List.nodup_cons.mp nd).1 |> fun z => by rw [ha, ← hb] at z; exact z)
theorem not_brk {cs : List (List Int)} {ps tr : List Int} (hn : ∀ c ∈ cs, c.Nodup) (hp : ∀ m ∈ ps, m ∈ tr) (hc : Closed cs tr) : ¬ Brk cs ps := by
  rintro ⟨c, hm, h⟩
  refine (hc c hm).1 (List.filter_eq_nil_iff.mpr fun x hx => ?_)
  have := der_in hn hp hc (h x hx)
  simp [this]
theorem Der.more {cs cs' : List (List Int)} {ps ps' : List Int} (hc : ∀ c ∈ cs, c ∈ cs') (hp : ∀ m ∈ ps, m ∈ ps') {m : Int} (h : Der cs ps m) : Der cs' ps' m := by
  induction h with
  | put h => exact .put (hp _ h)
  | cl h1 h2 _ ih => exact .cl (hc _ h1) h2 ih
theorem nodup_le {α : Type} [DecidableEq α] : ∀ {xs ys : List α}, xs.Nodup → (∀ x ∈ xs, x ∈ ys) → xs.length ≤ ys.length
  | [], _, _, _ => Nat.zero_le _
  | a :: r, ys, hn, h => by
    have hn' := List.nodup_cons.mp hn
    have ha := h a List.mem_cons_self
    have l := nodup_le (ys := ys.erase a) hn'.2 fun x hx => (List.mem_erase_of_ne (fun e : x = a => hn'.1 (by rw [← e]; exact hx))).mpr (h x (List.mem_cons_of_mem _ hx))
    rw [List.length_erase_of_mem ha] at l
    have := List.length_pos_of_mem ha
    rw [List.length_cons]
    omega
/-! ### sorted by names -/
def ab (a : Int) : Int := if a < 0 then -a else a
theorem byAbs_perm (ns : List Int) : (byAbs ns).Perm ns := List.mergeSort_perm _ _
theorem byAbs_sorted (ns : List Int) : (byAbs ns).Pairwise fun a b => ab a ≤ ab b := by
  have h := List.pairwise_mergeSort (le := fun a b => decide (ab a ≤ ab b)) (fun a b c h1 h2 => by
    have := of_decide_eq_true h1
    have := of_decide_eq_true h2
    exact decide_eq_true (by omega)) (fun a b => by
    by_cases c : ab a ≤ ab b
    · simp [c]
    · have : ab b ≤ ab a := by omega
      simp [this]) ns
  exact h.imp fun h => of_decide_eq_true h
theorem sorted_one : ∀ {xs ys : List Int}, xs.Perm ys → xs.Pairwise (fun a b => ab a ≤ ab b) → ys.Pairwise (fun a b => ab a ≤ ab b) → (∀ a ∈ xs, ∀ b ∈ xs, ab a = ab b → a = b) → xs = ys
  | [], ys, h, _, _, _ => (List.nil_perm.mp h).symm
  | a :: r, [], h, _, _, _ => absurd h.length_eq (by simp)
  | a :: r, b :: s, h, h1, h2, hi => by
    have p1 := List.pairwise_cons.mp h1
    have p2 := List.pairwise_cons.mp h2
    have ma : a ∈ b :: s := h.mem_iff.mp List.mem_cons_self
    have mb : b ∈ a :: r := h.mem_iff.mpr List.mem_cons_self
    have le1 : ab b ≤ ab a := by
      rcases List.mem_cons.mp ma with e | m
      · rw [e]; exact Int.le_refl _
      · exact p2.1 a m
    have le2 : ab a ≤ ab b := by
      rcases List.mem_cons.mp mb with e | m
      · rw [e]; exact Int.le_refl _
      · exact p1.1 b m
    have e : a = b := hi a List.mem_cons_self b mb (by omega)
    subst e
    rw [sorted_one ((List.perm_cons a).mp h) p1.2 p2.2 fun x hx y hy => hi x (List.mem_cons_of_mem _ hx) y (List.mem_cons_of_mem _ hy)]
theorem perm_of {xs ys : List Int} (hx : xs.Nodup) (hy : ys.Nodup) (h : ∀ x, x ∈ xs ↔ x ∈ ys) : xs.Perm ys := (List.perm_ext_iff_of_nodup hx hy).mpr h
theorem byAbs_eq {xs ys : List Int} (hx : xs.Nodup) (hy : ys.Nodup) (hc : ∀ x ∈ xs, -x ∉ xs) (h : ∀ x, x ∈ xs ↔ x ∈ ys) : byAbs xs = byAbs ys := by
  refine sorted_one (((byAbs_perm xs).trans (perm_of hx hy h)).trans (byAbs_perm ys).symm) (byAbs_sorted xs) (byAbs_sorted ys) fun a ha b hb e => ?_
  have ha' := (byAbs_perm xs).mem_iff.mp ha
  have hb' := (byAbs_perm xs).mem_iff.mp hb
  unfold ab at e
  by_cases c : a = b
  · exact c
  · have : b = -a := by
      split at e <;> split at e <;> omega
    exact absurd (this ▸ hb') (hc a ha')

/-! ### settings that keep nets' meanings; what follows is so -/
def wOf (V : Int → Bool) (x : Int) : Bool := if 0 < x then V x else !V (0 - x)
theorem wOf_neg (V : Int → Bool) : Neg (wOf V) := fun x hx => by
  unfold wOf
  by_cases c : 0 < x
  · rw [if_neg (by omega : ¬ 0 < 0 - x), if_pos c, show 0 - (0 - x) = x by omega]
  · rw [if_pos (by omega : 0 < 0 - x), if_neg c, Bool.not_not]
theorem high_inj {h a b h' a' b' : Int} (e : dHigh h a b = dHigh h' a' b') : h = h' ∧ a = a' ∧ b = b' := by simpa [dHigh] using e
theorem low_inj {h a b h' a' b' : Int} (e : dLow h a b = dLow h' a' b') : h = h' ∧ a = a' ∧ b = b' := by simpa [dLow] using e
theorem high_low {h a b h' a' b' : Int} (e : dHigh h a b = dLow h' a' b') : False := by simp [dHigh, dLow] at e
theorem wOf_at {V : Int → Bool} {k x : Int} {v : Bool} (h : (x.natAbs : Int) < k) : wOf (fun y => if y = k then v else V y) x = wOf V x := by
  unfold wOf
  by_cases c : 0 < x
  · rw [if_pos c, if_pos c]
    exact if_neg (by omega)
  · rw [if_neg c, if_neg c]
    exact congrArg (fun b => !b) (if_neg (by omega))
theorem wOf_k {V : Int → Bool} {k : Int} {v : Bool} (h : 0 < k) : wOf (fun y => if y = k then v else V y) k = v := by
  unfold wOf
  rw [if_pos h]
  exact if_pos rfl
theorem val_ex {f : Int} (hf : 0 < f) (V0 : Int → Bool) : ∀ (n : Nat) (ns : List PyData), ns.length = n → Ord f ⟨ns, []⟩ → ∃ V : Int → Bool, (∀ x : Int, (x.natAbs : Int) < f → wOf V x = wOf V0 x) ∧ Sat (wOf V) ns := by
  intro n
  induction n with
  | zero =>
    intro ns l o
    obtain rfl := List.length_eq_zero_iff.mp l
    exact ⟨V0, fun _ _ => rfl, ⟨fun h a b z => (by cases z), fun h a b z => (by cases z)⟩⟩
  | succ n ih =>
    intro ns l o
    have ne : ns ≠ [] := fun z => by
      rw [z] at l
      cases l
    obtain ⟨ms, d, rfl⟩ : ∃ ms d, ns = ms ++ [d] := ⟨_, _, (List.dropLast_concat_getLast ne).symm⟩
    rw [List.length_append, List.length_singleton] at l
    have lm : ms.length = n := by omega
    have o1 : Ord f ⟨ms, []⟩ := fun i e he => o i e (by
      show (ms ++ [d])[i]? = some e
      rw [List.getElem?_append_left (List.getElem?_eq_some_iff.mp he).1]
      exact he)
    obtain ⟨V, v0, sat⟩ := ih ms lm o1
    obtain ⟨a, b, hd, ha, hb⟩ := o ms.length d (by
      show (ms ++ [d])[ms.length]? = some d
      rw [List.getElem?_append_right (Nat.le_refl _), Nat.sub_self]
      rfl)
    obtain ⟨v, hv1, hv2⟩ : ∃ v : Bool, (d = dHigh (f + (ms.length : Int)) a b → v = (wOf V a || wOf V b)) ∧ (d = dLow (f + (ms.length : Int)) a b → v = (wOf V a && wOf V b)) := by
      rcases hd with e | e
      · exact ⟨_, fun _ => rfl, fun w => (high_low (e.symm.trans w)).elim⟩
      · exact ⟨_, fun w => (high_low (w.symm.trans e)).elim, fun _ => rfl⟩
    have k0 : 0 < f + (ms.length : Int) := by omega
    refine ⟨fun y => if y = f + (ms.length : Int) then v else V y, fun x hx => ?_, ?_⟩
    · rw [wOf_at (by omega)]
      exact v0 x hx
    · have old : ∀ e, e ∈ ms → ∃ h a b, (e = dHigh h a b ∨ e = dLow h a b) ∧ (h.natAbs : Int) < f + ms.length ∧ (a.natAbs : Int) < f + ms.length ∧ (b.natAbs : Int) < f + ms.length := fun e he => by
        obtain ⟨i, hi, ei⟩ := List.getElem_of_mem he
        obtain ⟨a, b, z, la, lb⟩ := o1 i e (by show ms[i]? = some e; rw [List.getElem?_eq_getElem hi, ei])
        exact ⟨_, a, b, z, by omega, by omega, by omega⟩
      refine ⟨fun h x y z => ?_, fun h x y z => ?_⟩
      · rcases List.mem_append.mp z with z | z
        · obtain ⟨h', x', y', e, l1, l2, l3⟩ := old _ z
          rcases e with e | e
          · obtain ⟨rfl, rfl, rfl⟩ := high_inj e
            rw [wOf_at l1, wOf_at l2, wOf_at l3]
            exact sat.hi _ _ _ z
          · exact (high_low e).elim
        · have z := List.mem_singleton.mp z
          rcases hd with e | e
          · rw [e] at z
            obtain ⟨rfl, rfl, rfl⟩ := high_inj z
            rw [wOf_k k0, wOf_at ha, wOf_at hb, hv1 e]
          · rw [e] at z
            exact (high_low z).elim
      · rcases List.mem_append.mp z with z | z
        · obtain ⟨h', x', y', e, l1, l2, l3⟩ := old _ z
          rcases e with e | e
          · exact (high_low e.symm).elim
          · obtain ⟨rfl, rfl, rfl⟩ := low_inj e
            rw [wOf_at l1, wOf_at l2, wOf_at l3]
            exact sat.lo _ _ _ z
        · have z := List.mem_singleton.mp z
          rcases hd with e | e
          · rw [e] at z
            exact (high_low z.symm).elim
          · have e2 := e
            rw [e] at z
            obtain ⟨rfl, rfl, rfl⟩ := low_inj z
            rw [wOf_k k0, wOf_at ha, wOf_at hb, hv2 e2]
/-- marks of a row on just as wanted -/
def vOn (S ms : List Int) (n : Int) : Bool := decide (n ∈ S) || (decide ((0 - n) ∈ ms) && !decide ((0 - n) ∈ S))
theorem unlike {ms : List Int} (u : Un ms) {x : Int} (hx : x ∈ ms) : 0 - x ∉ ms := fun z => by
  obtain ⟨i, hi, ei⟩ := List.getElem_of_mem hx
  obtain ⟨j, hj, ej⟩ := List.getElem_of_mem z
  have nz := u.nz x hx
  have nd := u.nd
  unfold nas at nd
  have ij : i ≠ j := fun e => by
    subst e
    rw [ei] at ej
    omega
  have key : (ms.map Int.natAbs)[i]'(by rw [List.length_map]; exact hi) = (ms.map Int.natAbs)[j]'(by rw [List.length_map]; exact hj) := by
    rw [List.getElem_map, List.getElem_map, ei, ej]
    omega
  exact ij ((List.getElem_inj nd).mp key)
theorem vOn_at {S ms : List Int} (u : Un ms) (sub : ∀ x ∈ S, x ∈ ms) {x : Int} (hx : x ∈ ms) : wOf (vOn S ms) x = decide (x ∈ S) := by
  have nx := unlike u hx
  have nS : 0 - x ∉ S := fun z => nx (sub _ z)
  have nz := u.nz x hx
  unfold wOf vOn
  by_cases c : 0 < x
  · rw [if_pos c, decide_eq_false nx, Bool.false_and, Bool.or_false]
  · rw [if_neg c, show 0 - (0 - x) = x by omega, decide_eq_false nS, Bool.false_or, decide_eq_true hx, Bool.true_and, Bool.not_not]
theorem der_so {W : Int → Bool} {cs : List (List Int)} {ps : List Int} (ng : Neg W) (nz : ∀ c ∈ cs, ∀ x ∈ c, x ≠ 0) (hc : ∀ c ∈ cs, ∃ x ∈ c, W x = true) (hp : ∀ p ∈ ps, W p = true) {x : Int} (h : Der cs ps x) : W x = true := by
  induction h with
  | put hm => exact hp _ hm
  | @cl m c hcm hm _ ih =>
    obtain ⟨y, hy, wy⟩ := hc c hcm
    by_cases e : y = m
    · rw [← e]
      exact wy
    · have z := ih y hy e
      have n := ng y (nz c hcm y hy)
      rw [show 0 - y = -y by omega, wy] at n
      rw [n] at z
      cases z
theorem brk_so {W : Int → Bool} {cs : List (List Int)} {ps : List Int} (ng : Neg W) (nz : ∀ c ∈ cs, ∀ x ∈ c, x ≠ 0) (hc : ∀ c ∈ cs, ∃ x ∈ c, W x = true) (hp : ∀ p ∈ ps, W p = true) : ¬ Brk cs ps := fun ⟨c, hcm, h⟩ => by
  obtain ⟨y, hy, wy⟩ := hc c hcm
  have z := der_so ng nz hc hp (h y hy)
  have n := ng y (nz c hcm y hy)
  rw [show 0 - y = -y by omega, wy] at n
  rw [n] at z
  cases z
/-- clauses of a net, as lists -/
def csOf (st : Nets) : List (List Int) := st.cs.map unT
theorem clo_der {st : Nets} {ps : List Int} : Clo (Der (csOf st) ps) st.cs := by
  have neg : ∀ {y : Int}, Der (csOf st) ps y → Der (csOf st) ps (-(0 - y)) := fun {y} h => by
    rw [show -(0 - y) = y by omega]
    exact h
  have neg0 : ∀ {y : Int}, Der (csOf st) ps (0 - y) → Der (csOf st) ps (-y) := fun {y} h => by
    rw [show -y = 0 - y by omega]
    exact h
  refine ⟨fun x h m => ?_, fun x y l m => ?_⟩
  · have hc : [0 - x, h] ∈ csOf st := List.mem_map.mpr ⟨_, m, unT_tI [0 - x, h]⟩
    refine ⟨fun d => .cl hc (by simp) fun v hv ne => ?_, fun d => .cl hc (by simp) fun v hv ne => ?_⟩
    · simp only [List.mem_cons, List.not_mem_nil, or_false] at hv
      rcases hv with rfl | rfl
      · exact neg d
      · exact absurd rfl ne
    · simp only [List.mem_cons, List.not_mem_nil, or_false] at hv
      rcases hv with rfl | rfl
      · exact absurd rfl ne
      · exact neg0 d
  · have hc : [0 - x, 0 - y, l] ∈ csOf st := List.mem_map.mpr ⟨_, m, unT_tI [0 - x, 0 - y, l]⟩
    refine ⟨fun d d2 => .cl hc (by simp) fun v hv ne => ?_, fun d d2 => .cl hc (by simp) fun v hv ne => ?_, fun d d2 => .cl hc (by simp) fun v hv ne => ?_⟩
    · simp only [List.mem_cons, List.not_mem_nil, or_false] at hv
      rcases hv with rfl | rfl | rfl
      · exact neg d
      · exact neg d2
      · exact absurd rfl ne
    · simp only [List.mem_cons, List.not_mem_nil, or_false] at hv
      rcases hv with rfl | rfl | rfl
      · exact neg d
      · exact absurd rfl ne
      · exact neg0 d2
    · simp only [List.mem_cons, List.not_mem_nil, or_false] at hv
      rcases hv with rfl | rfl | rfl
      · exact absurd rfl ne
      · exact neg d
      · exact neg0 d2
/-- what is told of a net of rows that are so many -/
structure Net2 (xs ys : List Int) (cap : Nat) (cs : List (List Int)) (outs : List Int) : Prop where
  len : outs.length = min cap (xs.length + ys.length)
  nd : ∀ c ∈ cs, c.Nodup ∧ c.length ≤ 3
  nb : ∀ a b, a ≤ xs.length → b ≤ ys.length → ¬ Brk cs (xs.take a ++ ys.take b)
  on : ∀ a b, a ≤ xs.length → b ≤ ys.length → ∀ i x, i < a + b → outs[i]? = some x → Der cs (xs.take a ++ ys.take b) x
  rows : ∀ a b, a ≤ xs.length → b ≤ ys.length → ∀ x ∈ xs ++ ys, (Der cs (xs.take a ++ ys.take b) x → x ∈ xs.take a ++ ys.take b) ∧ ¬ Der cs (xs.take a ++ ys.take b) (0 - x)
  rest : ∀ a b, a ≤ xs.length → b ≤ ys.length → ∀ i x, a + b ≤ i → outs[i]? = some x → ¬ Der cs (xs.take a ++ ys.take b) x ∧ ¬ Der cs (xs.take a ++ ys.take b) (0 - x)
  off : ∀ a b, a ≤ xs.length → b ≤ ys.length → ∀ o, outs[a + b]? = some o → ¬ Brk cs ((xs.take a ++ ys.take b) ++ [0 - o]) ∧ (∀ y, xs[a]? = some y → Der cs ((xs.take a ++ ys.take b) ++ [0 - o]) (0 - y)) ∧ ∀ y, ys[b]? = some y → Der cs ((xs.take a ++ ys.take b) ++ [0 - o]) (0 - y)
theorem get_take {l : List Int} {a i : Nat} {x : Int} (h : i < a) (e : l[i]? = some x) : x ∈ l.take a := List.mem_of_getElem? (i := i) (by rw [List.getElem?_take, if_pos h]; exact e)
theorem map_take_on {W : Int → Bool} {xs S : List Int} {a : Nat} (nd : xs.Nodup) (ha : a ≤ xs.length) (hw : ∀ x ∈ xs, W x = decide (x ∈ S)) (hS : ∀ x ∈ xs, x ∈ S ↔ x ∈ xs.take a) : xs.map W = srt a xs.length := by
  refine List.ext_getElem (by rw [List.length_map, srt_len]) fun i h1 h2 => ?_
  rw [List.length_map] at h1
  have g := srt_get a xs.length i h1
  rw [List.getElem?_eq_getElem h2] at g
  rw [Option.some.inj g, List.getElem_map, hw _ (List.getElem_mem h1)]
  refine decide_eq_decide.mpr ((hS _ (List.getElem_mem h1)).trans ⟨fun m => ?_, fun l => get_take l (List.getElem?_eq_getElem h1)⟩)
  obtain ⟨j, hj, ej⟩ := List.getElem_of_mem m
  rw [List.length_take] at hj
  rw [List.getElem_take] at ej
  have := (List.getElem_inj nd).mp ej
  omega
theorem net2 {f : Int} {xs ys : List Int} {cap : Nat} (hf : 0 < f) (u : Un (xs ++ ys)) (small : ∀ x ∈ xs ++ ys, (x.natAbs : Int) < f) (l60 : xs.length + ys.length ≤ 60) : Net2 xs ys cap (csOf (mrg f 60 st00 xs ys cap).1) (mrg f 60 st00 xs ys cap).2 := by
  have nd := u.nodup
  have ndp := List.nodup_append.mp nd
  have o0 : Ord f st00 := fun i d h => (nil_get h).elim
  have mk := mrg_mk hf 60 st00 xs ys cap o0 (fun d h => by cases h) (fun x hx => ⟨by show (x.natAbs : Int) < f + ((0 : Nat) : Int); have := small x hx; omega, u.nz x hx⟩) nd
  have nzs : ∀ x ∈ xs ++ ys, x ≠ 0 := u.nz
  have fwb : ∀ ps, Fwb (Der (csOf (mrg f 60 st00 xs ys cap).1) ps) xs ys (mrg f 60 st00 xs ys cap).2 cap := fun ps => mrg_fwb 60 st00 xs ys cap l60 (by decide) clo_der
  have model : ∀ a b, a ≤ xs.length → b ≤ ys.length → ∃ W : Int → Bool, Neg W ∧ (∀ x ∈ xs ++ ys, W x = decide (x ∈ xs.take a ++ ys.take b)) ∧ (∀ c ∈ csOf (mrg f 60 st00 xs ys cap).1, ∃ x ∈ c, W x = true) ∧ (mrg f 60 st00 xs ys cap).2.map W = srt (a + b) (min cap (xs.length + ys.length)) := fun a b ha hb => by
    have sub : ∀ x ∈ xs.take a ++ ys.take b, x ∈ xs ++ ys := fun x hx => (List.mem_append.mp hx).elim (fun z => List.mem_append_left _ (mem_take1 z)) fun z => List.mem_append_right _ (mem_take1 z)
    obtain ⟨V, v0, sat⟩ := val_ex hf (vOn (xs.take a ++ ys.take b) (xs ++ ys)) _ (mrg f 60 st00 xs ys cap).1.ns rfl (fun i d h => mk.ord i d h)
    have wx : ∀ x ∈ xs ++ ys, wOf V x = decide (x ∈ xs.take a ++ ys.take b) := fun x hx => by
      rw [v0 x (small x hx)]
      exact vOn_at u sub hx
    refine ⟨wOf V, wOf_neg V, wx, fun c hc => ?_, ?_⟩
    · obtain ⟨d, hd, rfl⟩ := List.mem_map.mp hc
      rcases (mrg_cl (wOf_neg V) hf 60 st00 xs ys cap sat (fun d h => by cases h) (fun x hx => nzs x (List.mem_append_left _ hx)) (fun x hx => nzs x (List.mem_append_right _ hx))).1 d hd with ⟨x, h, rfl, w⟩ | ⟨x, y, l, rfl, w⟩
      · have e : unT (dCl2 x h) = [0 - x, h] := unT_tI [0 - x, h]
        rw [e]
        rcases (Bool.or_eq_true _ _).mp w with w | w
        · exact ⟨_, List.mem_cons_self, w⟩
        · exact ⟨_, List.mem_cons_of_mem _ List.mem_cons_self, w⟩
      · have e : unT (dCl3 x y l) = [0 - x, 0 - y, l] := unT_tI [0 - x, 0 - y, l]
        rw [e]
        rcases (Bool.or_eq_true _ _).mp w with w | w
        · exact ⟨_, List.mem_cons_self, w⟩
        · rcases (Bool.or_eq_true _ _).mp w with w | w
          · exact ⟨_, List.mem_cons_of_mem _ List.mem_cons_self, w⟩
          · exact ⟨_, List.mem_cons_of_mem _ (List.mem_cons_of_mem _ List.mem_cons_self), w⟩
    · refine net_says sat (map_take_on ndp.1 ha (fun x hx => wx x (List.mem_append_left _ hx)) fun x hx => ⟨fun m => ?_, fun m => List.mem_append_left _ m⟩) (map_take_on ndp.2.1 hb (fun x hx => wx x (List.mem_append_right _ hx)) fun x hx => ⟨fun m => ?_, fun m => List.mem_append_right _ m⟩) ha hb l60 (by decide)
      · rcases List.mem_append.mp m with z | z
        · exact z
        · exact absurd rfl (ndp.2.2 x hx x (mem_take1 z))
      · rcases List.mem_append.mp m with z | z
        · exact absurd rfl (ndp.2.2 x (mem_take1 z) x hx)
        · exact z
  have nz : ∀ c ∈ csOf (mrg f 60 st00 xs ys cap).1, ∀ x ∈ c, x ≠ 0 := fun c hc => by
    obtain ⟨d, hd, rfl⟩ := List.mem_map.mp hc
    obtain ⟨c, rfl, _, h, _⟩ := mk.nd d hd
    rw [unT_tI]
    exact h
  have len := (fwb []).len
  have put : ∀ a b (W : Int → Bool), (∀ x ∈ xs ++ ys, W x = decide (x ∈ xs.take a ++ ys.take b)) → ∀ p ∈ xs.take a ++ ys.take b, W p = true := fun a b W hw p hp => by
    rw [hw p ((List.mem_append.mp hp).elim (fun z => List.mem_append_left _ (mem_take1 z)) fun z => List.mem_append_right _ (mem_take1 z))]
    exact decide_eq_true hp
  have outW : ∀ {a b : Nat} {W : Int → Bool}, (mrg f 60 st00 xs ys cap).2.map W = srt (a + b) (min cap (xs.length + ys.length)) → ∀ i x, (mrg f 60 st00 xs ys cap).2[i]? = some x → W x = decide (i < a + b) := fun {a b W} e i x ex => by
    have li := (List.getElem?_eq_some_iff.mp ex).1
    have g := srt_get (a + b) (min cap (xs.length + ys.length)) i (by omega)
    rw [← e, List.getElem?_map, ex] at g
    exact Option.some.inj g
  -- all on
  have full : ∀ {a b : Nat}, a ≤ xs.length → b ≤ ys.length → ∀ x, (x ∈ xs ++ ys ∨ x ∈ (mrg f 60 st00 xs ys cap).2) → ¬ Der (csOf (mrg f 60 st00 xs ys cap).1) (xs.take a ++ ys.take b) (0 - x) := fun {a b} ha hb x hx h => by
    obtain ⟨W, ng, wx, wc, wo⟩ := model xs.length ys.length (Nat.le_refl _) (Nat.le_refl _)
    rw [List.take_length, List.take_length] at wx
    have z := der_so ng nz wc (fun p hp => by
      have m : p ∈ xs ++ ys := (List.mem_append.mp hp).elim (fun z => List.mem_append_left _ (mem_take1 z)) fun z => List.mem_append_right _ (mem_take1 z)
      rw [wx p m]
      exact decide_eq_true m) h
    have wt : W x = true ∧ x ≠ 0 := by
      rcases hx with m | m
      · exact ⟨by rw [wx x m]; exact decide_eq_true m, nzs x m⟩
      · obtain ⟨i, hi, ei⟩ := List.getElem_of_mem m
        refine ⟨?_, (mk.out x m).2.2⟩
        rw [outW wo i x (by rw [List.getElem?_eq_getElem hi, ei])]
        exact decide_eq_true (by omega)
    rw [ng x wt.2, wt.1] at z
    cases z
  refine ⟨len, fun c hc => ?_, fun a b ha hb => ?_, fun a b ha hb i x hi ex => ?_, fun a b ha hb x hx => ⟨fun h => ?_, full ha hb x (.inl hx)⟩, fun a b ha hb i x hi ex => ⟨fun h => ?_, full ha hb x (.inr (List.mem_of_getElem? ex))⟩, fun a b ha hb o ex => ⟨?_, ?_⟩⟩
  · obtain ⟨d, hd, rfl⟩ := List.mem_map.mp hc
    obtain ⟨c, rfl, h1, _, h3⟩ := mk.nd d hd
    rw [unT_tI]
    exact ⟨h1, h3⟩
  · obtain ⟨W, ng, wx, wc, wo⟩ := model a b ha hb
    exact brk_so ng nz wc (put a b W wx)
  · exact ((fwb _).fw a b ha hb (fun i x hi e => .put (List.mem_append_left _ (get_take hi e))) fun i x hi e => .put (List.mem_append_right _ (get_take hi e))).1 i x hi ex
  · obtain ⟨W, ng, wx, wc, wo⟩ := model a b ha hb
    have z := der_so ng nz wc (put a b W wx) h
    rw [wx x hx] at z
    exact of_decide_eq_true z
  · obtain ⟨W, ng, wx, wc, wo⟩ := model a b ha hb
    have z := der_so ng nz wc (put a b W wx) h
    rw [outW wo i x ex] at z
    have := of_decide_eq_true z
    omega
  · obtain ⟨W, ng, wx, wc, wo⟩ := model a b ha hb
    refine brk_so ng nz wc fun p hp => ?_
    rcases List.mem_append.mp hp with m | m
    · exact put a b W wx p m
    · rw [List.mem_singleton.mp m, ng o (mk.out o (List.mem_of_getElem? ex)).2.2, outW wo _ o ex, decide_eq_false (by omega)]
      rfl
  · exact ((fwb _).fw a b ha hb (fun i x hi e => .put (List.mem_append_left _ (List.mem_append_left _ (get_take hi e)))) fun i x hi e => .put (List.mem_append_left _ (List.mem_append_right _ (get_take hi e)))).2 o ex (.put (List.mem_append_right _ List.mem_cons_self))
theorem net_form {f : Int} {xs ys : List Int} {cap : Nat} (hf : 0 < f) (u : Un (xs ++ ys)) (small : ∀ x ∈ xs ++ ys, (x.natAbs : Int) < f) : (mrg f 60 st00 xs ys cap).1.cs = (csOf (mrg f 60 st00 xs ys cap).1).map tI := by
  have mk := mrg_mk hf 60 st00 xs ys cap (fun i d h => (nil_get h).elim) (fun d h => by cases h) (fun x hx => ⟨by show (x.natAbs : Int) < f + ((0 : Nat) : Int); have := small x hx; omega, u.nz x hx⟩) u.nodup
  unfold csOf
  rw [List.map_map]
  refine (List.map_id _).symm.trans (List.map_congr_left fun d hd => ?_)
  obtain ⟨c, rfl, _⟩ := mk.nd d hd
  show tI c = tI (unT (tI c))
  rw [unT_tI]
theorem flat_three : ∀ {cs : List (List Int)}, (∀ c ∈ cs, c.length ≤ 3) → cs.flatten.length ≤ 3 * cs.length
  | [], _ => Nat.le_refl _
  | c :: r, h => by
    have a := h c List.mem_cons_self
    have b := flat_three (cs := r) fun d hd => h d (List.mem_cons_of_mem _ hd)
    rw [List.flatten_cons, List.length_append, List.length_cons]
    omega

/-! ### names put on by their meanings, one by one -/
def so (on : List Int) (x : Int) : Bool := wOf (fun n => decide (n ∈ on)) x
def dN (q : Int × List (List Int)) : PyData := .tuple [.int q.1, .tuple (q.2.map tI)]
def mean (on : List Int) (ss : List (List Int)) : Bool := ss.any fun s => s.all (so on)
def nmd (on : List Int) (q : Int × List (List Int)) : List Int := if mean on q.2 = true then ins on q.1 else on
/-- names and meanings as they come: the i-th name is f + i, its meaning is of two marks ahead -/
def Nms (f : Int) (qs : List (Int × List (List Int))) : Prop := ∀ (i : Nat) q, qs[i]? = some q → q.1 = f + (i : Int) ∧ ∃ a b : Int, (q.2 = [[a], [b]] ∨ q.2 = [[a, b]]) ∧ (a.natAbs : Int) < f + i ∧ (b.natAbs : Int) < f + i
theorem nms_ex {f : Int} : ∀ (n : Nat) (ns : List PyData), ns.length = n → Ord f ⟨ns, []⟩ → ∃ qs, ns = qs.map dN ∧ Nms f qs := by
  intro n
  induction n with
  | zero =>
    intro ns l _
    obtain rfl := List.length_eq_zero_iff.mp l
    exact ⟨[], rfl, fun i q e => by simp at e⟩
  | succ n ih =>
    intro ns l o
    have ne : ns ≠ [] := fun z => by rw [z] at l; cases l
    have e := (List.dropLast_concat_getLast ne).symm
    have ld : ns.dropLast.length = n := by rw [List.length_dropLast, l, Nat.add_sub_cancel]
    generalize ns.getLast ne = d at e
    generalize ns.dropLast = r at e ld
    subst e
    obtain ⟨qs, rfl, h⟩ := ih r ld fun i d' e => o i d' (by
      have li := (List.getElem?_eq_some_iff.mp e).1
      show (r ++ [d])[i]? = _
      rw [List.getElem?_append_left li]
      exact e)
    obtain ⟨a, b, hd, ha, hb⟩ := o n d (by
      show (_ ++ [d])[n]? = _
      rw [List.getElem?_append_right (by omega), ld, Nat.sub_self]
      rfl)
    rw [List.length_map] at ld
    have add : ∀ ss, (ss = [[a], [b]] ∨ ss = [[a, b]]) → Nms f (qs ++ [(f + (n : Int), ss)]) := fun ss hs i q e => by
      rcases getElem_snoc e with ⟨_, z⟩ | ⟨z1, z2⟩
      · exact h i q z
      · rw [← z2, z1, ld]
        exact ⟨rfl, a, b, hs, ha, hb⟩
    rcases hd with rfl | rfl
    · exact ⟨qs ++ [(f + (n : Int), [[a], [b]])], by rw [List.map_append]; rfl, add _ (.inl rfl)⟩
    · exact ⟨qs ++ [(f + (n : Int), [[a, b]])], by rw [List.map_append]; rfl, add _ (.inr rfl)⟩
theorem so_ins {on : List Int} {k x : Int} (h : (x.natAbs : Int) < k) : so (ins on k) x = so on x := by
  unfold so wOf
  have e : ∀ y : Int, y ≠ k → decide (y ∈ ins on k) = decide (y ∈ on) := fun y ne => decide_eq_decide.mpr (by
    unfold ins
    by_cases z : k ∈ on
    · rw [if_pos z]
    · rw [if_neg z, List.mem_append, List.mem_singleton]
      exact ⟨fun w => w.elim id fun w => absurd w ne, .inl⟩)
  by_cases c : 0 < x
  · rw [if_pos c, if_pos c]
    exact e x (by omega)
  · rw [if_neg c, if_neg c]
    exact congrArg (fun b => !b) (e (0 - x) (by omega))
theorem so_nmd {on : List Int} {q : Int × List (List Int)} {x : Int} (h : (x.natAbs : Int) < q.1) : so (nmd on q) x = so on x := by
  unfold nmd
  split
  · exact so_ins h
  · rfl
theorem mean_nmd {on : List Int} {q : Int × List (List Int)} {a b : Int} {ss : List (List Int)} (hs : ss = [[a], [b]] ∨ ss = [[a, b]]) (ha : (a.natAbs : Int) < q.1) (hb : (b.natAbs : Int) < q.1) : mean (nmd on q) ss = mean on ss := by
  rcases hs with rfl | rfl <;> simp [mean, so_nmd ha, so_nmd hb]
theorem mem_insY {on : List Int} {k x : Int} : x ∈ ins on k ↔ x ∈ on ∨ x = k := by
  unfold ins
  by_cases z : k ∈ on
  · rw [if_pos z]
    exact ⟨.inl, fun w => w.elim id fun w => w ▸ z⟩
  · rw [if_neg z, List.mem_append, List.mem_singleton]
/-- all names so far are as their meanings -/
structure Walk (f : Int) (on0 on : List Int) (qs : List (Int × List (List Int))) : Prop where
  low : ∀ x : Int, (x.natAbs : Int) < f → so on x = so on0 x
  top : ∀ x ∈ on, x < f + (qs.length : Int)
  is_ : ∀ q ∈ qs, decide (q.1 ∈ on) = mean on q.2
theorem Walk.nil {f : Int} {on0 : List Int} (h : ∀ x ∈ on0, x < f) : Walk f on0 on0 [] := ⟨fun _ _ => rfl, fun x hx => by have := h x hx; simpa using this, fun q hq => by cases hq⟩
theorem Walk.step {f : Int} {on0 on : List Int} {qs : List (Int × List (List Int))} {q : Int × List (List Int)} (hf : 0 < f) (n : Nms f (qs ++ [q])) (h : Walk f on0 on qs) : Walk f on0 (nmd on q) (qs ++ [q]) := by
  obtain ⟨e, a, b, hs, ha, hb⟩ := n qs.length q (by rw [List.getElem?_append_right (Nat.le_refl _), Nat.sub_self]; rfl)
  rw [← e] at ha hb
  have old : ∀ y : Int, y < q.1 → decide (y ∈ nmd on q) = decide (y ∈ on) := fun y hy => decide_eq_decide.mpr (by
    unfold nmd
    split
    · rw [mem_insY]
      exact ⟨fun w => w.elim id fun w => absurd w (by omega), .inl⟩
    · exact Iff.rfl)
  have nq : q.1 ∉ on := fun z => by
    have := h.top _ z
    omega
  refine ⟨fun x hx => ?_, fun x hx => ?_, fun p hp => ?_⟩
  · rw [so_nmd (by omega)]
    exact h.low x hx
  · rw [List.length_append, List.length_singleton]
    unfold nmd at hx
    split at hx
    · rcases mem_insY.mp hx with z | z
      · have := h.top x z
        omega
      · omega
    · have := h.top x hx
      omega
  · rcases List.mem_append.mp hp with z | z
    · obtain ⟨i, ei⟩ := List.mem_iff_getElem?.mp z
      have li := (List.getElem?_eq_some_iff.mp ei).1
      obtain ⟨e2, a2, b2, hs2, ha2, hb2⟩ := n i p (by rw [List.getElem?_append_left li]; exact ei)
      rw [old p.1 (by omega), h.is_ p z, mean_nmd hs2 (by omega) (by omega)]
    · rw [List.mem_singleton.mp z, mean_nmd hs ha hb]
      unfold nmd
      by_cases c : mean on q.2 = true
      · rw [if_pos c, c]
        exact decide_eq_true (mem_insY.mpr (.inr rfl))
      · rw [if_neg c, decide_eq_false nq]
        exact (Bool.eq_false_iff.mpr c).symm
theorem Walk.sat {f : Int} {on0 on : List Int} {qs : List (Int × List (List Int))} (hf : 0 < f) (n : Nms f qs) (h : Walk f on0 on qs) : Sat (so on) (qs.map dN) := by
  have pos : ∀ q ∈ qs, so on q.1 = mean on q.2 := fun q hq => by
    obtain ⟨i, ei⟩ := List.mem_iff_getElem?.mp hq
    obtain ⟨e, _⟩ := n i q ei
    rw [← h.is_ q hq]
    unfold so wOf
    rw [if_pos (by omega)]
  have inj : ∀ (q : Int × List (List Int)) (h' : Int) (ss : List (List Int)), dN q = .tuple [.int h', .tuple (ss.map tI)] → (∀ s ∈ q.2, True) → q.1 = h' ∧ q.2.map tI = ss.map tI := fun q h' ss e _ => by
    unfold dN at e
    simp only [PyData.tuple.injEq, List.cons.injEq, PyData.int.injEq, and_true] at e
    exact ⟨e.1, e.2⟩
  have unmap : ∀ (xs ys : List (List Int)), xs.map tI = ys.map tI → xs = ys := fun xs ys e => by
    have := congrArg (List.map unT) e
    rw [List.map_map, List.map_map] at this
    have z : (unT ∘ tI) = id := by
      funext c
      exact unT_tI c
    rw [z, List.map_id, List.map_id] at this
    exact this
  refine ⟨fun h' a b hd => ?_, fun h' a b hd => ?_⟩
  · obtain ⟨q, hq, e⟩ := List.mem_map.mp hd
    obtain ⟨e1, e2⟩ := inj q h' [[a], [b]] (by rw [e]; rfl) fun _ _ => trivial
    rw [← e1, pos q hq, unmap _ _ e2]
    simp [mean]
  · obtain ⟨q, hq, e⟩ := List.mem_map.mp hd
    obtain ⟨e1, e2⟩ := inj q h' [[a, b]] (by rw [e]; rfl) fun _ _ => trivial
    rw [← e1, pos q hq, unmap _ _ e2]
    simp [mean]

/-! ### dict([(x, True) for x in xs]) -/
/-- pairs (n, True), new tuples -/
structure Prs (H : Hp) (ps : List Addr) (ns : List Int) : Prop where
  n : ps.length = ns.length
  t : ∀ (i : Nat) p m, ps[i]? = some p → ns[i]? = some m → H p = some (.tup [.int m, .bl true])
theorem Prs.paired {K : PySem.W.Frag} {H : Hp} : ∀ {ps : List Addr} {ns : List Int}, Prs H ps ns → Paired (fun p kv => SqT K H p [kV kv.1, kv.2]) ps (tru ns)
  | [], [], _ => .nil
  | [], _ :: _, h => absurd h.n (by simp)
  | _ :: _, [], h => absurd h.n (by simp)
  | p :: ps, m :: ns, h => by
    refine .cons (SqT.of (h.t 0 p m rfl rfl)) (Prs.paired ⟨Nat.succ.inj h.n, fun i q k hq hk => h.t (i + 1) q k hq hk⟩)
theorem lc_pairs {K : PySem.W.Frag} {a : Addr} {ns : List Int} {te : TE} {vs : List Nat} {σ : L2.St} {H : Hp} {D : Addr} {Qd : Hp → Prop} {j : Nat} (hx : SqL K H a (ns.map V.int)) (hD : H D = none) (hz : ns.length ≤ 1000000)
    (wip : ∀ n, wipe ((wipe σ vs).set j (some (.int n))) vs = wipe σ vs) (he : ∀ n H' (R : VK), (∀ p, H' p = none → R (.ref p) (upd H' p (.tup [.int n, .bl true]))) → te ((wipe σ vs).set j (some (.int n))) H' R)
    (k : ∀ H' ps, Same H H' → H' D = some (.lst (ps.map V.ref)) → Prs H' ps ns → Qd H') :
    ∃ W : Nat → Nat → Hp → Prop, (∃ m, W 0 m (upd H D (.lst []))) ∧ ∀ i m Hc, W i m Hc →
      ((Itl K a).stop i Hc ∧ Qd Hc) ∨ ((Itl K a).go i Hc ∧ ∃ Nx : Hp → Prop, (∀ H', Nx H' → ∃ m', m' < m ∧ W (i + 1) m' H') ∧ ∀ x H', (Itl K a).yld i Hc x H' → gName j x (wipe σ vs) H' fun σ2 H2 => wipe σ2 vs = wipe σ vs ∧ tYes σ2 H2 fun b H3 =>
        if b = true then te σ2 H3 fun y H4 => ∃ acc, H4 D = some (.lst acc) ∧ acc.length < sizeLine ∧ Nx (upd H4 D (.lst (acc ++ [y]))) else Nx H3) := by
  have line : 1000000 < sizeLine := by decide
  refine lc_list (xs := ns.map V.int) (fun i H' => Same H H' ∧ ∃ ps, H' D = some (.lst (ps.map V.ref)) ∧ Prs H' ps (ns.take i)) ⟨same_new hD, [], upd_same, rfl, fun i p m hp => by simp at hp⟩ (fun i H' _ p => p.1.seq hx) (fun i x H' hi p => ?_) fun H' p => ?_
  · obtain ⟨sm, ps, hd, pr⟩ := p
    obtain ⟨n, rfl, hn⟩ := int_at hi
    have li : i < ns.length := (List.getElem?_eq_some_iff.mp hn).1
    have ln : ps.length = i := by
      rw [pr.n, List.length_take]
      omega
    refine ⟨wip n, yes_go (he n H' _ fun q hq => ⟨ps.map V.ref, by rw [upd_ne (ne_of_none hd hq)]; exact hd, by rw [List.length_map]; omega, fun b o e => ?_, ps ++ [q], by rw [upd_same, List.map_append]; rfl, ?_⟩)⟩
    · rw [upd_ne (ne_of_none e hD), upd_ne (ne_of_none (sm b o e) hq)]
      exact sm b o e
    · have qD : q ≠ D := (ne_of_none hd hq).symm
      refine ⟨by rw [List.length_append, List.length_take, ln]; show i + 1 = min (i + 1) ns.length; omega, fun l p m hp hm => ?_⟩
      rw [List.take_add_one, hn] at hm
      by_cases c : l < ps.length
      · rw [List.getElem?_append_left c] at hp
        rw [List.getElem?_append_left (by rw [List.length_take]; omega)] at hm
        have g := pr.t l p m hp hm
        rw [upd_ne (ne_of g hd (by intro z; cases z)), upd_ne (ne_of_none g hq)]
        exact g
      · rw [List.getElem?_append_right (by omega)] at hp
        rw [List.getElem?_append_right (by rw [List.length_take]; omega)] at hm
        have e0 : l - ps.length = 0 := by
          have l1 := (List.getElem?_eq_some_iff.mp hp).1
          simp only [List.length_cons, List.length_nil] at l1
          omega
        have e1 : l - (ns.take i).length = 0 := by
          rw [List.length_take]
          omega
        rw [e0] at hp
        rw [e1] at hm
        cases hp
        cases hm
        rw [upd_ne qD, upd_same]
  · obtain ⟨sm, ps, hd, pr⟩ := p
    rw [List.length_map, List.take_length] at pr
    exact k H' ps sm hd pr

/-! ### the law's own steps, of a tuple of clauses -/
theorem ints_inv {H : Hp} : ∀ {l : List Int} {xs : List V}, TpAll H xs (l.map PyData.int) → xs = l.map V.int
  | [], _, h => by
    cases h
    rfl
  | x :: r, _, h => by
    cases h with
    | cons a b =>
      cases a
      rw [ints_inv b]
      rfl
theorem take_snocT {α : Type} {xs : List α} {i : Nat} {x : α} (h : xs[i]? = some x) : xs.take (i + 1) = xs.take i ++ [x] := by
  rw [List.take_add_one, h]
  rfl
theorem mem_foldT {x : Int} : ∀ (b a : List Int), x ∈ b.foldl ins a ↔ x ∈ a ∨ x ∈ b
  | [], a => by simp
  | y :: r, a => by
    show x ∈ r.foldl ins (ins a y) ↔ _
    rw [mem_foldT r]
    have : x ∈ ins a y ↔ x ∈ a ∨ x = y := by
      unfold ins
      by_cases h : y ∈ a
      · rw [if_pos h]
        exact ⟨.inl, fun z => z.elim id fun e => e ▸ h⟩
      · rw [if_neg h, List.mem_append, List.mem_singleton]
    rw [this, List.mem_cons, or_assoc]
structure CsT (H : Hp) (a : Addr) (qs : List Addr) (cs : List (List Int)) : Prop where
  l : H a = some (.tup (qs.map V.ref))
  n : qs.length = cs.length
  t : ∀ (i : Nat) q c, qs[i]? = some q → cs[i]? = some c → H q = some (.tup (c.map V.int))
theorem CsT.same {H H' : Hp} {a : Addr} {qs : List Addr} {cs : List (List Int)} (h : CsT H a qs cs) (s : Same H H') : CsT H' a qs cs := ⟨s _ _ h.l, h.n, fun i q c hq hc => s _ _ (h.t i q c hq hc)⟩
theorem rowT {H : Hp} {v : V} {l : List Int} (h : Tp H v (tI l)) : ∃ a, v = .ref a ∧ H a = some (.tup (l.map V.int)) := by
  unfold tI at h
  cases h with
  | tup ha r => exact ⟨_, rfl, by rw [ha, ints_inv r]⟩
theorem csT_of {H : Hp} {a : Addr} : ∀ {cs : List (List Int)} {vs : List V}, TpAll H vs (cs.map tI) → ∃ qs : List Addr, vs = qs.map V.ref ∧ qs.length = cs.length ∧ ∀ (i : Nat) q c, qs[i]? = some q → cs[i]? = some c → H q = some (.tup (c.map V.int))
  | [], _, h => by
    cases h
    exact ⟨[], rfl, rfl, fun i q c e => (by rw [List.getElem?_nil] at e; cases e)⟩
  | c :: r, _, h => by
    rw [List.map_cons] at h
    cases h with
    | cons h1 h2 =>
      obtain ⟨b, rfl, hb⟩ := rowT h1
      obtain ⟨qs, rfl, l, t⟩ := csT_of (a := a) h2
      refine ⟨b :: qs, rfl, by rw [List.length_cons, List.length_cons, l], fun i q c' e1 e2 => ?_⟩
      cases i with
      | zero =>
        cases e1
        cases e2
        exact hb
      | succ i => exact t i q c' e1 e2

/-! ### pieces of lists and tuples -/
theorem cut_ij (xs : List V) (i j : Nat) : cutV xs (some (i : Int)) (some (j : Int)) = (xs.drop i).take (j - i) := by
  unfold cutV
  rw [HT.sIx_nat, HT.sIx_nat]
  by_cases h : i ≤ xs.length
  · rw [Nat.min_eq_left h]
    by_cases h2 : j ≤ xs.length
    · rw [Nat.min_eq_left h2]
    · rw [Nat.min_eq_right (by omega), List.take_of_length_le (by rw [List.length_drop]; omega), List.take_of_length_le (by rw [List.length_drop]; omega)]
  · rw [List.drop_eq_nil_of_le (by omega : xs.length ≤ min i xs.length), List.drop_eq_nil_of_le (by omega : xs.length ≤ i), List.take_nil, List.take_nil]
theorem cut_0j (xs : List V) (j : Nat) : cutV xs none (some (j : Int)) = xs.take j := by
  unfold cutV
  rw [HT.sIx_none, HT.sIx_nat, List.drop_zero, Nat.sub_zero]
  by_cases h2 : j ≤ xs.length
  · rw [Nat.min_eq_left h2]
  · rw [Nat.min_eq_right (by omega), List.take_of_length_le (Nat.le_refl _), List.take_of_length_le (by omega)]
theorem cut_iE (xs : List V) (i : Nat) : cutV xs (some (i : Int)) none = xs.drop i := by
  unfold cutV
  rw [HT.sIx_none, HT.sIx_nat]
  by_cases h : i ≤ xs.length
  · rw [Nat.min_eq_left h, List.take_of_length_le (by rw [List.length_drop]; omega)]
  · rw [List.drop_eq_nil_of_le (by omega : xs.length ≤ min i xs.length), List.drop_eq_nil_of_le (by omega : xs.length ≤ i), List.take_nil]
section
variable {K : PySem.W.Frag} {H : Hp} {a : Addr} {xs : List V} {Q : VK}
theorem piece_take {m : Int} {n : Nat} (e : m = (n : Int)) (ha : H a = some (.tup xs)) (k : ∀ H' r, Same H H' → H' r = some (.tup (xs.take n)) → Q (.ref r) H') : rSlA K (.ref a) none (some m) H Q := by
  subst e
  refine ⟨a, xs, rfl, SqT.of ha, fun h => ?_, fun _ p hp => ?_⟩
  · rw [HT.sIx_nat] at h
    refine k H a (Same.refl _) ?_
    rw [List.take_of_length_le (by omega)]
    exact ha
  · rw [cut_0j]
    exact k _ p (same_new hp) upd_same
theorem piece_mid {m l : Int} {i j : Nat} (e1 : m = (i : Int)) (e2 : l = (j : Int)) (ha : H a = some (.tup xs)) (k : ∀ H' r, Same H H' → H' r = some (.tup ((xs.drop i).take (j - i))) → Q (.ref r) H') : rSlA K (.ref a) (some m) (some l) H Q := by
  subst e1 e2
  refine ⟨a, xs, rfl, SqT.of ha, fun h => ?_, fun _ p hp => ?_⟩
  · rw [HT.sIx_nat, HT.sIx_nat] at h
    refine k H a (Same.refl _) ?_
    have e : (xs.drop i).take (j - i) = xs := by
      rw [← cut_ij]
      unfold cutV
      rw [HT.sIx_nat, HT.sIx_nat, h.1, h.2, Nat.sub_zero, List.drop_zero, List.take_length]
    rw [e]
    exact ha
  · rw [cut_ij]
    exact k _ p (same_new hp) upd_same
theorem piece_drop {m : Int} {i : Nat} (e1 : m = (i : Int)) (ha : H a = some (.tup xs)) (k : ∀ H' r, Same H H' → H' r = some (.tup (xs.drop i)) → Q (.ref r) H') : rSlA K (.ref a) (some m) none H Q := by
  subst e1
  refine ⟨a, xs, rfl, SqT.of ha, fun h => ?_, fun _ p hp => ?_⟩
  · rw [HT.sIx_nat, HT.sIx_none] at h
    refine k H a (Same.refl _) ?_
    have e : xs.drop i = xs := by
      rw [← cut_iE]
      unfold cutV
      rw [HT.sIx_nat, HT.sIx_none, h.1, Nat.sub_zero, List.drop_zero, List.take_length]
    rw [e]
    exact ha
  · rw [cut_iE]
    exact k _ p (same_new hp) upd_same
end
theorem piece_dropC {K : PySem.W.Frag} {σ : L2.St} {H : Hp} {a : Addr} {xs : List V} {Q : VK} {m : Int} {i : Nat} (e1 : m = (i : Int)) (ha : H a = some (.tup xs)) (k : ∀ H' r, Same H H' → H' r = some (.tup (xs.drop i)) → Q (.ref r) H') :
    tNoPart σ H fun u H3 => rSlA K (.ref a) (some m) u H3 Q := piece_drop e1 ha k
theorem cut_one1 (l : List Int) (a : Nat) : cutV (l.map V.int) (some (a : Int)) (some ((a : Int) + 1)) = ((l.drop a).take 1).map V.int := by
  rw [show (a : Int) + 1 = ((a + 1 : Nat) : Int) from rfl, cut_ij, show a + 1 - a = 1 by omega, List.map_take, List.map_drop]
theorem flat_l (l : List Int) : (l.map V.int).all flatV = true := by
  rw [List.all_eq_true]
  intro v hv
  obtain ⟨i, _, rfl⟩ := List.mem_map.mp hv
  rfl
theorem inV_l (x : Int) (l : List Int) : inV (.int x) (l.map V.int) = decide (x ∈ l) := by
  unfold inV
  rw [List.any_map]
  by_cases h : x ∈ l
  · rw [decide_eq_true h, List.any_eq_true]
    exact ⟨x, h, decide_eq_true rfl⟩
  · rw [decide_eq_false h, List.any_eq_false]
    intro y hy z
    have z : decide (y = x) = true := z
    exact h (of_decide_eq_true z ▸ hy)
theorem iteFq {p : Prop} [Decidable p] {A B : Prop} (h : ¬ p) (b : B) : if decide p = true then A else B := by
  rw [if_neg fun z => h (of_decide_eq_true z)]
  exact b
theorem none_left {xs : List V} : (xs.filter fun _ => false).map (fun x => x) = [] := by
  rw [List.filter_eq_nil_iff.mpr fun _ _ => Bool.false_ne_true]
  rfl

/-! ### what the data are -/
theorem lay_ints : ∀ l : List Int, PyData.canLayAll0 (l.map PyData.int) = true
  | [] => rfl
  | x :: r => by
    rw [List.map_cons, PyData.canLayAll0, lay_ints r]
    rfl
theorem dep_ints : ∀ l : List Int, PyData.depthAll (l.map PyData.int) ≤ 0
  | [] => Nat.le_refl _
  | x :: r => by
    rw [List.map_cons, PyData.depthAll]
    exact Nat.max_le.mpr ⟨Nat.le_refl _, dep_ints r⟩
def tupD (c : List Int) : PyData := .tuple (c.map PyData.int)
def lstD (c : List Int) : PyData := .list (c.map PyData.int)
theorem lay_tup (c : List Int) : (tupD c).canLay0 = true := by
  unfold tupD
  rw [PyData.canLay0]
  exact lay_ints c
theorem lay_lst (c : List Int) : (lstD c).canLay0 = true := by
  unfold lstD
  rw [PyData.canLay0]
  exact lay_ints c
theorem dep_tup (c : List Int) : (tupD c).depth ≤ 1 := by
  unfold tupD
  rw [PyData.depth]
  exact Nat.succ_le_succ (dep_ints c)
theorem dep_lst (c : List Int) : (lstD c).depth ≤ 1 := by
  unfold lstD
  rw [PyData.depth]
  exact Nat.succ_le_succ (dep_ints c)
theorem lay_tups : ∀ cs : List (List Int), PyData.canLayAll0 (cs.map tupD) = true
  | [] => rfl
  | x :: r => by
    rw [List.map_cons, PyData.canLayAll0, lay_tups r, lay_tup]
    rfl
theorem dep_tups : ∀ cs : List (List Int), PyData.depthAll (cs.map tupD) ≤ 1
  | [] => Nat.zero_le _
  | x :: r => by
    rw [List.map_cons, PyData.depthAll]
    exact Nat.max_le.mpr ⟨dep_tup x, dep_tups r⟩
section
variable {K : PySem.W.Frag} {H : Hp}
theorem dp_ints : ∀ l : List Int, DpAll K H (l.map V.int) (l.map PyData.int)
  | [] => .nil
  | x :: r => .cons (.int x) (dp_ints r)
theorem dp_lst {a : Addr} {l : List Int} (h : H a = some (.lst (l.map V.int))) : Dp K H (.ref a) (lstD l) := .lst (SqL.of h) (dp_ints l)
theorem dp_tups : ∀ {qs : List Addr} {cs : List (List Int)}, qs.length = cs.length → (∀ (i : Nat) q c, qs[i]? = some q → cs[i]? = some c → H q = some (.tup (c.map V.int))) → DpAll K H (qs.map V.ref) (cs.map tupD)
  | [], [], _, _ => .nil
  | [], _ :: _, n, _ => absurd n (by simp)
  | _ :: _, [], n, _ => absurd n (by simp)
  | q :: qs, c :: cs, n, t => .cons (.tup (SqT.of (t 0 q c rfl rfl)) (dp_ints c)) (dp_tups (Nat.succ.inj n) fun i q c hq hc => t (i + 1) q c hq hc)
end
theorem shape_lst (l : List Int) : SeqAt.shaped (lstD l) = true := by
  unfold SeqAt.shaped
  rw [lay_lst, decide_eq_true (Nat.le_trans (dep_lst l) (by decide))]
  rfl

/-! ### sum of a tuple of ints; >= of two such tuples -/
def rSumT (K : PySem.W.Frag) : List V → Hp → VK → Prop := fun vs H Q => ∃ (a : Addr) (ns : List Int), vs = [.ref a] ∧ SqT K H a (ns.map V.int) ∧ Q (.int ns.sum) H
theorem cr_sumT {X : Cx} (hc : X.calm = true) : CallR X (.builtin "sum") (rSumT X.K) := by
  intro pins s σ H vs us Q I r h
  obtain ⟨a, ns, rfl, hs, q⟩ := h
  obtain ⟨its, rv, ht, _⟩ := I.tuple hs
  rw [Vals.ref1 r]
  obtain ⟨xs, e⟩ := rv.ints.allInts.items
  have hn : numsOf (intItems xs).toList = ns := by rw [← e]; exact rv.ints.numsOf
  rw [nums_intItems] at hn
  rw [e] at ht
  have la : a < s.heap.objs.size := by
    obtain ⟨o, ho, _⟩ := ht
    exact Heap.lt_size ho
  refine PySem.call_sum_walkG (wpAny_pyIter_tuple ht ?_)
  refine ⟨s.heap.objs.size, [s.heap.objs.size, a], [s.heap.objs.size], _, _, _, numAt xs, rfl, Walks.tuple (A := X.A.in1) (I.ok.hd hc) _ a (Nat.ne_of_lt la) (intItems xs), ⟨⟨_, Heap.get?_push_size _ rfl, rfl, rfl⟩, ht.push _⟩, fun b hb => ?_, (fun _ _ => intItems_at), fun h' tk t' hk => ?_⟩
  · show b < (s.heap.push _).objs.size
    rw [Heap.size_push]
    rcases List.mem_cons.mp hb with rfl | hb
    · exact Nat.lt_succ_self _
    · rw [List.mem_singleton.mp hb]
      exact Nat.lt_succ_of_lt la
  · have sz : (intItems xs).size = xs.size := by simp [intItems]
    have kk : ∀ b o, s.heap.get? b = some o → h'.get? b = some o := fun b o z => hk b o (fun w => by
      rw [List.mem_singleton] at w
      exact absurd (Heap.lt_size z) (by rw [w]; exact Nat.lt_irrefl _)) (Heap.get?_push_of_some _ z)
    rw [sz, preSum_eq, List.take_of_length_le (by simp), hn]
    exact ⟨.int _, H, I.kept kk, ⟨_, rfl⟩, q⟩
theorem cr_sumTK {X : Cx} {K : PySem.W.Frag} (h : X.K = K) (hc : X.calm = true) : CallR X (.builtin "sum") (rSumT K) := h ▸ cr_sumT hc

/-! ### sorted(d), d a dict of whole numbers, as long as it likes -/
theorem ints_of_keys' : ∀ {us : List Value} {ns : List Int}, us.length = ns.length → (∀ (j : Nat) (v : Value), us[j]? = some v → ∃ (x : Int) (t : Tok), ns[j]? = some x ∧ v = Value.int x t) → IntsAre us ns
  | [], [], _, _ => .nil
  | [], _ :: _, hl, _ => absurd hl (by simp)
  | _ :: _, [], hl, _ => absurd hl (by simp)
  | u :: us, n :: ns, hl, h => by
    obtain ⟨x, t, e1, e2⟩ := h 0 u rfl
    obtain rfl : n = x := Option.some.inj e1
    subst e2
    exact .cons _ _ (ints_of_keys' (Nat.succ.inj hl) fun j v e => h (j + 1) v e)
theorem vals_ints : ∀ {us : List Value} {ns : List Int}, IntsAre us ns → Vals (ns.map V.int) us
  | [], [], _ => .nil
  | _ :: _, _ :: _, .cons n t r => .cons ⟨t, rfl⟩ (vals_ints r)
section
variable {X : Cx}
theorem cr_sortedK (hcalm : X.calm = true) : CallR X (.builtin "sorted") (fun xs H Q => ∃ (a : Addr) (kvs : List (Key × V)) (ns : List Int), xs = [.ref a] ∧ H a = some (.dK kvs) ∧ kvs.map (·.1) = ns.map Sum.inl ∧
    ∀ (ns' : List Int) (p : Addr), ns'.Perm ns → ns'.Pairwise (· ≤ ·) → H p = none → Q (.ref p) (upd H p (.lst (ns'.map V.int)))) := by
  intro pins s σ H xs us Q I r h
  obtain ⟨a, kvs, ns, rfl, hd, hkeys, q⟩ := h
  obtain rfl := Vals.ref1 r
  obtain ⟨lo, nsys, ws, rel, dd⟩ := dk_of I.hok hd
  obtain ⟨ep, hat⟩ := dd.dictAt
  have hk2 : ws.map (·.1) = ns.map Sum.inl := rel.keys.symm.trans hkeys
  have lws : ws.length = ns.length := by
    have z := congrArg List.length hk2
    rw [List.length_map, List.length_map] at z
    exact z
  have few : ns.length ≤ sizeLine := by
    have z := congrArg List.length hkeys
    rw [List.length_map, List.length_map] at z
    omega
  refine call_function_entry_kw (kw := []) kind_sorted plain_sorted entry_sorted rfl ?_
  unfold Builtin.«sorted»
  refine wpAny_bind (m := checkCount "sorted" 1 1 _) (wpAny_pure ?_)
  refine wpAny_bind (PySem.W.kdu_collect (A := X.A.in1) (PySem.W.kdl_dict (knd := mixKind X.prog X.w) (kvs := ws) (ep := ep) nsys) (I.ok.hd hcalm) hat (by omega) fun h2 tk2 acc hk hacc => ?_)
  have la : acc.toList.length = ns.length := by rw [Array.length_toList, hacc.1, lws]
  have hS : IntsAre acc.toList ns := ints_of_keys' la fun j v ej => by
    obtain ⟨ky, x, e1, e2⟩ := hacc.2 j v (by rw [← Array.getElem?_toList]; exact ej)
    have e3 : (ws.map (·.1))[j]? = some ky := by
      rw [List.getElem?_map, e1]
      rfl
    rw [hk2, List.getElem?_map] at e3
    cases e4 : ns[j]? with
    | none =>
      rw [e4] at e3
      cases e3
    | some y =>
      rw [e4] at e3
      obtain rfl : Sum.inl y = ky := Option.some.inj e3
      rcases keyIs_shape (show keyIs (Sum.inl y) v = true from e2) with ⟨i, u, ek, eu⟩ | ⟨z, u, ek, eu⟩
      · cases ek
        exact ⟨y, u, rfl, eu⟩
      · cases ek
  have I2 : Inv X pins σ H { s with heap := h2, toks := tk2 } := I.kept hk
  refine wpAny_bind (wpAny_newList ?_ (by omega))
  have hL : (h2.push (seqObj "list" acc.toList.toArray 0)).get? h2.objs.size = some (seqObj "list" acc.toList.toArray 0) := Heap.get?_push_size _ rfl
  show wpAny _ _ _ _ _ { s with heap := h2.push (seqObj "list" acc.toList.toArray 0), toks := tk2 }
  refine wpAny_bind (wpAny_holding (wpAny_call_entry_kw (kw := []) slot_list_sort ⟨_, hL, rfl⟩ entry_list_sort ?body rfl))
  case body =>
    show wpAny _ X.A.in1.in1 (Builtin.«list.sort» ⟨[.ref h2.objs.size], []⟩) _ _ _
    refine SrtO.list_sort_ord (s := { s with heap := h2.push (seqObj "list" acc.toList.toArray 0), toks := tk2 }) (vs := acc.toList) SrtO.swo_int hL (by omega) (fun two => SrtO.ints_sortable hS two) fun out o1 o2 => ⟨_, rfl, wpAny_pure ⟨_, rfl, ?_⟩⟩
    obtain ⟨p1, p2, p3⟩ := SrtO.ints_out hS o1 o2
    obtain ⟨e, hD⟩ := sortedHeap_at (out := out.toArray) hL
    have hlen : ((out.map SrtO.iv).map V.int).length ≤ sizeLine := by
      rw [List.length_map, p2.length_eq]
      exact few
    exact ⟨.ref _, upd H h2.objs.size (.lst ((out.map SrtO.iv).map V.int)), I2.laid (t' := tk2) (fun b u z => by
      have lt := Heap.lt_size z
      rw [sortedHeap_old (Nat.ne_of_lt lt) (Nat.lt_trans lt (by rw [Heap.size_push]; exact Nat.lt_succ_self _))]
      exact Heap.get?_push_of_some _ z) (Nat.le_refl _) ⟨hlen, out, e, vals_ints p1, hD⟩, rfl, q _ _ p2 p3 (I2.hok.fresh (Nat.le_refl _))⟩
end

/-! ### rows of a tuple that are as told: is there one? -/
section
variable {K : PySem.W.Frag} {a : Addr} {qs : List Addr} {cs : List (List Int)} {tt : TT} {te : TE} {vs : List Nat} {σ : L2.St} {H : Hp} {D : Addr} {Qd : Hp → Prop} {j : Nat}
theorem any_snoc {α : Type} (t : α → Bool) {xs : List α} {i : Nat} {x : α} (h : xs[i]? = some x) : (xs.take (i + 1)).any t = ((xs.take i).any t || t x) := by
  rw [take_snocT h, List.any_append]
  simp
theorem lc_rowsT (t : List Int → Bool) (hx : SqT K H a (qs.map V.ref)) (hn : qs.length = cs.length) (hD : H D = none) (hz : qs.length ≤ 1000000)
    (hs : ∀ (i : Nat) (q : Addr) (c : List Int), qs[i]? = some q → cs[i]? = some c → SelT H σ vs j tt te (.ref q) (t c) (.ref q))
    (k : ∀ (H' : Hp) (ls : List V), Same H H' → H' D = some (.lst ls) → ls.isEmpty = (!cs.any t) → Qd H') :
    ∃ W : Nat → Nat → Hp → Prop, (∃ m, W 0 m (upd H D (.lst []))) ∧ ∀ i m H, W i m H →
      ((Itt K a).stop i H ∧ Qd H) ∨ ((Itt K a).go i H ∧ ∃ Nx : Hp → Prop, (∀ H', Nx H' → ∃ m', m' < m ∧ W (i + 1) m' H') ∧ ∀ x H', (Itt K a).yld i H x H' → gName j x (wipe σ vs) H' fun σ2 H2 => wipe σ2 vs = wipe σ vs ∧ tt σ2 H2 fun b H3 =>
        if b = true then te σ2 H3 fun y H4 => ∃ acc, H4 D = some (.lst acc) ∧ acc.length < sizeLine ∧ Nx (upd H4 D (.lst (acc ++ [y]))) else Nx H3) := by
  have line : 1000000 < sizeLine := by decide
  refine lc_tup (xs := qs.map V.ref) (fun i H' => Same H H' ∧ ∃ ls : List V, H' D = some (.lst ls) ∧ ls.length ≤ i ∧ ls.isEmpty = (!(cs.take i).any t)) ⟨same_new hD, [], upd_same, Nat.le_refl _, rfl⟩ (fun i H' _ p => Same.seqT p.1 hx) (fun i x H' hi p => ?_) fun H' p => ?_
  · obtain ⟨sm, ls, hl, lz, em⟩ := p
    rw [List.getElem?_map] at hi
    cases e : qs[i]? with
    | none => rw [e] at hi; cases hi
    | some q =>
      rw [e] at hi
      cases hi
      have li := (List.getElem?_eq_some_iff.mp e).1
      have ec : cs[i]? = some cs[i] := List.getElem?_eq_getElem (by omega)
      refine sel_turn hD (hs i q _ e ec) sm hl (by omega) fun H'' s'' e'' => ⟨s'', _, e'', ?_, ?_⟩
      · rw [List.length_append]
        split <;> simp <;> omega
      · rw [any_snoc t ec]
        cases t cs[i] with
        | true => simp
        | false => simpa using em
  · obtain ⟨sm, ls, hl, _, em⟩ := p
    rw [List.length_map, hn, List.take_length] at em
    exact k H' ls sm hl em
end
section
variable {P : Program} {w : World} {K : PySem.W.Frag} {mg : Str → Option Value} {base : Heap}
def spSo : Sp := fun vs H Q _ => ∃ (d : Addr) (m : Int) (on : List Int), vs = [.ref d, .int m] ∧ H d = some (.dK (tru on)) ∧ Q (.bl (so on m)) H
theorem has_so {cs : Nat → Addr} (T : Top K mg cs) : Has P w K mg base 1 "_law_is_so" ["_law_on", "_law_mark"] spSo := by
  refine has_of T.d__law_is_so sc__law_is_so bd__law_is_so (fun vs H Q E h => ?_) (fun f cdv A outer s H vs Q E hr h => ?_)
  · obtain ⟨d, m, on, rfl, _⟩ := h
    rfl
  · have hu := hu_of hr
    have nd := sc__law_is_so.nd
    obtain ⟨d, m, on, rfl, hd, k⟩ := h
    refine ⟨_, (pss_one (ps_ret (pe_cmpR op_eq (pe_cmp (pc_din hu (pe_callB call_abs (by rfl) T.b_abs (by decide +kernel) (pa_cons (pv 1) pa_nil)) (pv 0))) (pe_cmpR op_gt (pv 1) pe_int (nomark _)) (nomark _)))), ?_⟩
    refine ⟨_, rfl, m, rfl, _, rfl, d, _, rfl, DGet.k (k := Sum.inl (if m < 0 then -m else m)) hd, _, rfl, _, _, rfl, rfl, rfl, ?_⟩
    rw [tru_some]
    have e : decide (V.bl (decide ((if m < 0 then -m else m) ∈ on)) = V.bl (decide (0 < m))) = so on m := by
      unfold so wOf
      by_cases c : 0 < m
      · rw [if_neg (by omega), if_pos c, decide_eq_true c]
        show _ = decide (m ∈ on)
        generalize decide (m ∈ on) = b
        cases b <;> rfl
      · rw [if_neg c, decide_eq_false c]
        have e2 : (if m < 0 then -m else m) = 0 - m := by split <;> omega
        rw [e2]
        show _ = !decide (0 - m ∈ on)
        generalize decide (0 - m ∈ on) = b
        cases b <;> rfl
    rw [e]
    exact k
def spHeld (K : PySem.W.Frag) : Sp := fun vs H Q _ => ∃ (a d : Addr) (qs : List Addr) (cs : List (List Int)) (on : List Int), vs = [.ref a, .ref d] ∧ H a = some (.tup (qs.map V.ref)) ∧ qs.length = cs.length ∧ (∀ (i : Nat) q c, qs[i]? = some q → cs[i]? = some c → H q = some (.tup (c.map V.int))) ∧
  H d = some (.dK (tru on)) ∧ qs.length ≤ 1000000 ∧ (∀ c ∈ cs, c.length ≤ 1000) ∧ ∀ H', Same H H' → Q (.bl (cs.all fun c => c.any (so on))) H'
theorem has_held {cs : Nat → Addr} (T : Top K mg cs) (h__law_is_so : Has P w K mg base 1 "_law_is_so" ["_law_on", "_law_mark"] spSo) : Has P w K mg base 2 "_law_is_held" ["_law_clauses", "_law_on"] (spHeld K) := by
  refine has_of T.d__law_is_held sc__law_is_held bd__law_is_held (fun vs H Q E h => ?_) (fun f cdv A outer s H vs Q E hr h => ?_)
  · obtain ⟨a, d, qs, ks, on, rfl, _⟩ := h
    rfl
  · have hu := hu_of hr
    have nd := sc__law_is_held.nd
    obtain ⟨a, d, qs, ks, on, rfl, ha, hn, ht, hd, hz, hw, k⟩ := h
    refine ⟨_, (pss_one (ps_ret (pe_cmpR (op_eqNil hu) (pe_lc (own := [("_law_some", 2)]) (by rfl) nd (pi_tup (pv 0)) (blkOk_by (own := [("_law_some", 2)]) (N := nm__law_is_held) (sc := defScope s__law_is_held) (by decide +kernel)) (fun _ _ _ _ _ => pg_name (i := 2) nd rfl (.inl rfl)) (fun _ _ _ _ _ => pts_one (pt_cmpR (op_eqNilK (K := K) rfl hu) (pe_lc (own := [("_law_one", 3)]) (by rfl) nd (pi_tupK (K := K) rfl (pv 2)) (blkOk_by (own := [("_law_one", 3)]) (N := nm__law_is_held) (sc := relS { kind := .function, names := [(".0", .local), ("_law_some", .local), ("_law_on", .free)], isGenerator := false, isCoroutine := false, more := [] } (defScope s__law_is_held)) (by decide +kernel)) (fun _ _ _ _ _ => pg_name (i := 3) nd rfl (.inl rfl)) (fun _ _ _ _ _ => pts_one (pt_val (pe_has h__law_is_so (hr.mono (by omega)) (by rfl) (pa_cons (pv 1) (pa_cons (pv 3) pa_nil))))) (fun _ _ _ _ _ => (pv 3))) (pe_lst pa_nil) (nomark _))) (fun _ _ _ _ _ => (pv 2))) (pe_lst pa_nil) (nomark _)))), ?_⟩
    have line : 1000000 < sizeLine := by decide
    refine ⟨_, rfl, a, rfl, ⟨_, SqT.of ha⟩, fun D hD => lc_rowsT (fun c => !c.any (so on)) (SqT.of ha) hn hD hz (fun i q c hq hc => ?_) fun H1 ls s1 h1 em => ?_⟩
    · have hqc := ht i q c hq hc
      have wc := hw c (List.mem_of_getElem? hc)
      refine ⟨rfl, fun H' s' R g => ?_, fun _ H' s' R g => ⟨_, rfl, g H' (Same.refl _)⟩⟩
      refine ⟨_, rfl, q, rfl, ⟨_, SqT.of (s' _ _ hqc)⟩, fun D2 hD2 => lc_sel_tup (fun x => match x with | .int m => so on m | _ => false) (fun x => x) (SqT.of (s' _ _ hqc)) hD2 (by rw [List.length_map]; omega) (fun x hm => ?_) fun H2 s2 h2 => ?_⟩
      · obtain ⟨m, _, rfl⟩ := List.mem_map.mp hm
        refine ⟨rfl, fun Ha sa R g => ⟨_, rfl, _, rfl, d, m, on, rfl, sa _ _ (s' _ _ hd), _, rfl, g Ha (Same.refl _)⟩, fun _ Ha sa R g => ⟨_, rfl, g Ha (Same.refl _)⟩⟩
      · refine ⟨by show 0 ≤ sizeLine; decide, fun n2 hn2 => ⟨D2, n2, _, rfl, rfl, SqL.of (same_new hn2 _ _ h2), SqL.of upd_same, _, rfl, ?_⟩⟩
        have e2 : (((c.map V.int).filter (fun x => match x with | .int m => so on m | _ => false)).map fun x => x) = (c.filter (so on)).map V.int := by
          rw [List.map_id', List.filter_map]
          rfl
        rw [e2, List.isEmpty_map]
        have e3 : (if false = true then !(c.filter (so on)).isEmpty else (c.filter (so on)).isEmpty) = !c.any (so on) := by
          rw [if_neg Bool.false_ne_true, Bool.eq_iff_iff]
          simp [List.isEmpty_iff, List.filter_eq_nil_iff]
        rw [e3]
        exact g _ (s2.trans (same_new hn2))
    · refine ⟨by show 0 ≤ sizeLine; decide, fun n2 hn2 => ⟨D, n2, _, rfl, rfl, SqL.of (same_new hn2 _ _ h1), SqL.of upd_same, ?_⟩⟩
      have e3 : (if false = true then !ls.isEmpty else ls.isEmpty) = ks.all fun c => c.any (so on) := by
        rw [if_neg Bool.false_ne_true, em, List.all_eq_not_any_not]
      rw [e3]
      exact k _ (s1.trans (same_new hn2))
theorem tp_two {H : Hp} {v : V} {x : Int} {d : PyData} (h : Tp H v (.tuple [.int x, d])) : ∃ r u, v = .ref r ∧ H r = some (.tup [.int x, u]) ∧ Tp H u d := by
  cases h with
  | tup hr ha =>
    cases ha with
    | cons h1 h2 =>
      cases h1
      cases h2 with
      | cons h3 h4 =>
        cases h4
        exact ⟨_, _, rfl, hr, h3⟩
theorem tp_tup {H : Hp} {v : V} {ds : List PyData} (h : Tp H v (.tuple ds)) : ∃ r xs, v = .ref r ∧ H r = some (.tup xs) ∧ TpAll H xs ds := by
  cases h with
  | tup hr ha => exact ⟨_, _, rfl, hr, ha⟩
theorem tpall_at {H : Hp} : ∀ {xs : List V} {ds : List PyData}, TpAll H xs ds → ∀ (i : Nat) (x : V), xs[i]? = some x → ∃ d, ds[i]? = some d ∧ Tp H x d
  | _, _, .nil, i, x, e => by simp at e
  | _, _, .cons h r, i, x, e => by
    cases i with
    | zero =>
      cases e
      exact ⟨_, rfl, h⟩
    | succ i =>
      obtain ⟨d, e1, e2⟩ := tpall_at r i x (by simpa using e)
      exact ⟨d, by simpa using e1, e2⟩
def spNamed (K : PySem.W.Frag) : Sp := fun vs H Q _ => ∃ (N p : Addr) (vn : List V) (qs : List (Int × List (List Int))) (on0 : List Int), vs = [.ref N, .ref p] ∧ SqT K H N vn ∧ (∀ H', (∀ b o, H b = some o → H' b = some o) → SqT K H' N vn) ∧ TpAll H vn (qs.map dN) ∧ H p = some (.lst (on0.map V.int)) ∧
  on0.length ≤ 1000 ∧ qs.length ≤ 100000 ∧ (∀ q ∈ qs, q.2.length ≤ 2 ∧ ∀ c ∈ q.2, c.length ≤ 2) ∧ ∀ H' d, Same H H' → H d = none → H' d = some (.dK (tru (qs.foldl nmd (on0.foldl ins [])))) → Q (.ref d) H'
theorem has_named {cs : Nat → Addr} (T : Top K mg cs) (h__law_is_so : Has P w K mg base 1 "_law_is_so" ["_law_on", "_law_mark"] spSo) : Has P w K mg base 2 "_law_named" ["_law_names", "_law_on"] (spNamed K) := by
  refine has_of T.d__law_named sc__law_named bd__law_named (fun vs H Q E h => ?_) (fun f cdv A outer s H vs Q E hr h => ?_)
  · obtain ⟨N, p, vn, qs, on0, rfl, _⟩ := h
    rfl
  · have hu := hu_of hr
    have nd := sc__law_named.nd
    obtain ⟨N, p, vn, qs, on0, rfl, hN, hNs, tn, hp, l0, lq, wq, k⟩ := h
    refine ⟨_, (pss_cons (ps_set (i := 1) nd rfl (.inr rfl) (pe_callTy (call_dictP rfl) (by rfl) T.b_dict (by decide +kernel) (pa_cons (pe_lc (own := [("_law_name", 2)]) (by rfl) nd (pi_list (pv 1)) (blkOk_by (own := [("_law_name", 2)]) (N := nm__law_named) (sc := defScope s__law_named) (by decide +kernel)) (fun _ _ _ _ _ => pg_name (i := 2) nd rfl (.inl rfl)) (fun _ _ _ _ _ => pts_nil) (fun _ _ _ _ _ => (pe_tup (pa_cons (pv 2) (pa_cons pe_bl pa_nil))))) pa_nil)))
    (pss_cons (ps_for PassesOwn.never rfl (pi_tup (pv 0)) (pg_tup (by rfl) (pgs_cons (pg_name (i := 2) nd rfl (.inl rfl)) (pgs_cons (pg_name (i := 3) nd rfl (.inl rfl)) pgs_nil)))
      (pss_one (ps_if (pt_cmpR (op_neNil hu) (pe_lc (own := [("_law_some", 4)]) (by rfl) nd (pi_tup (pv 3)) (blkOk_by (own := [("_law_some", 4)]) (N := nm__law_named) (sc := defScope s__law_named) (by decide +kernel)) (fun _ _ _ _ _ => pg_name (i := 4) nd rfl (.inl rfl)) (fun _ _ _ _ _ => pts_one (pt_cmpR (op_eqNilK (K := K) rfl hu) (pe_lc (own := [("_law_one", 5)]) (by rfl) nd (pi_tupK (K := K) rfl (pv 4)) (blkOk_by (own := [("_law_one", 5)]) (N := nm__law_named) (sc := relS { kind := .function, names := [(".0", .local), ("_law_some", .local), ("_law_on", .free)], isGenerator := false, isCoroutine := false, more := [] } (defScope s__law_named)) (by decide +kernel)) (fun _ _ _ _ _ => pg_name (i := 5) nd rfl (.inl rfl)) (fun _ _ _ _ _ => pts_one (pt_not (pt_val (pe_has h__law_is_so (hr.mono (by omega)) (by rfl) (pa_cons (pv 1) (pa_cons (pv 5) pa_nil)))))) (fun _ _ _ _ _ => (pv 5))) (pe_lst pa_nil) (nomark _))) (fun _ _ _ _ _ => (pv 4))) (pe_lst pa_nil) (nomark _)) (pss_one (ps_dput hu (pv 1) (pv 2) pe_bl rfl)) pss_nil)))
    (pss_one (ps_ret (pv 1))))), ?_⟩
    have line : 1000000 < sizeLine := by decide
    refine ⟨_, rfl, p, rfl, ⟨_, SqL.of hp⟩, fun D hD => lc_pairs (SqL.of hp) hD (by omega) (fun n => rfl) (fun n H' R g => ⟨_, rfl, by show 2 ≤ sizeLine; decide, g⟩) fun H1 prs s1 h1 pr => ?_⟩
    refine ⟨D, prs, tru on0, rfl, SqL.of h1, pr.paired, fun d hd => ?_⟩
    rw [show mergeK [] (tru on0) = tru (on0.foldl ins []) from tru_merge on0 []]
    have nd0 : H d = none := s1.free hd
    have s2 : Same H (upd H1 d (.dK (tru (on0.foldl ins [])))) := s1.trans (same_new hd)
    have hd2 : (upd H1 d (.dK (tru (on0.foldl ins [])))) d = some (.dK (tru (on0.foldl ins []))) := upd_same
    generalize upd H1 d (.dK (tru (on0.foldl ins []))) = H2 at s2 hd2
    have lt : vn.length = qs.length := by
      have := tn.len
      rw [List.length_map] at this
      exact this
    have l1 := fold_len on0 []
    simp only [List.length_nil, Nat.zero_add] at l1
    generalize on0.foldl ins [] = on1 at hd2 k l1
    refine ⟨_, rfl, N, rfl, ⟨_, hNs _ s2⟩, for_tup (K := K) (a := N) (xs := vn) (fun i σ H' => ∃ (v2 v3 : Option V), σ = [some (.ref N), some (.ref d), v2, v3, none, none] ∧ Kp d H2 H' ∧ H' d = some (.dK (tru ((qs.take i).foldl nmd on1))) ∧ ((qs.take i).foldl nmd on1).length ≤ 1000 + i) ⟨none, none, rfl, fun b o e _ => e, hd2, by simpa using by omega⟩ ?_ ?_ ?_⟩
    · rintro i σ H' _ ⟨_, _, _, kp, _⟩
      exact hNs _ fun b o e => kp b o (s2 b o e) (ne_of_none e nd0)
    · rintro i x σ H' hi ⟨v2, v3, rfl, kp, ho, lo⟩
      have sm : Same H H' := fun b o e => kp b o (s2 b o e) (ne_of_none e nd0)
      obtain ⟨dd, ed, tx⟩ := tpall_at tn i x hi
      rw [List.getElem?_map] at ed
      cases eq : qs[i]? with
      | none => rw [eq] at ed; cases ed
      | some q =>
        rw [eq] at ed
        cases ed
        obtain ⟨r, u, rfl, hr1, tu⟩ := tp_two tx
        obtain ⟨mn, xs, rfl, hm, ta⟩ := tp_tup tu
        obtain ⟨rq, rfl, rn, rt⟩ := csT_of (a := mn) ta
        obtain ⟨w1, w2⟩ := wq q (List.mem_of_getElem? eq)
        have li := (List.getElem?_eq_some_iff.mp eq).1
        refine ⟨r, _, rfl, SqT.of (sm _ _ hr1), rfl, _, _, rfl, _, _, rfl, rfl, ?_⟩
        generalize eo : (qs.take i).foldl nmd on1 = on at ho lo
        have nx : (qs.take (i + 1)).foldl nmd on1 = nmd on q := by
          rw [take_snocT eq, List.foldl_append, eo]
          rfl
        refine ⟨_, rfl, mn, rfl, ⟨_, SqT.of (sm _ _ hm)⟩, fun D1 hD1 => lc_rowsT (K := K) (fun c => c.all (so on)) (SqT.of (sm _ _ hm)) rn hD1 (by omega) (fun i' q' c hq' hc' => ?_) fun H3 ls s3 h3 em => ⟨by show 0 ≤ sizeLine; decide, fun n2 hn2 => ⟨D1, n2, _, rfl, rfl, SqL.of (same_new hn2 _ _ h3), SqL.of upd_same, _, rfl, ?_⟩⟩⟩
        · have hqc := sm _ _ (rt i' q' c hq' hc')
          have wc := w2 c (List.mem_of_getElem? hc')
          refine ⟨rfl, fun Ha sa R g => ?_, fun _ Ha sa R g => ⟨_, rfl, g Ha (Same.refl _)⟩⟩
          refine ⟨_, rfl, q', rfl, ⟨_, SqT.of (sa _ _ hqc)⟩, fun D2 hD2 => lc_sel_tup (fun x => match x with | .int m => !so on m | _ => false) (fun x => x) (SqT.of (sa _ _ hqc)) hD2 (by rw [List.length_map]; omega) (fun x hm => ?_) fun H5 s5 h5 => ?_⟩
          · obtain ⟨m, _, rfl⟩ := List.mem_map.mp hm
            refine ⟨rfl, fun Hb sb R g => ⟨_, rfl, _, rfl, d, m, on, rfl, sb _ _ (sa _ _ ho), _, rfl, g Hb (Same.refl _)⟩, fun _ Hb sb R g => ⟨_, rfl, g Hb (Same.refl _)⟩⟩
          · refine ⟨by show 0 ≤ sizeLine; decide, fun n3 hn3 => ⟨D2, n3, _, rfl, rfl, SqL.of (same_new hn3 _ _ h5), SqL.of upd_same, _, rfl, ?_⟩⟩
            have e2 : (((c.map V.int).filter (fun x => match x with | .int m => !so on m | _ => false)).map fun x => x) = (c.filter fun m => !so on m).map V.int := by
              rw [List.map_id', List.filter_map]
              rfl
            rw [e2, List.isEmpty_map]
            have e3 : (if false = true then !(c.filter fun m => !so on m).isEmpty else (c.filter fun m => !so on m).isEmpty) = c.all (so on) := by
              rw [if_neg Bool.false_ne_true, Bool.eq_iff_iff]
              simp [List.isEmpty_iff, List.filter_eq_nil_iff]
            rw [e3]
            exact g _ (s5.trans (same_new hn3))
        · have e3 : (if true = true then !ls.isEmpty else ls.isEmpty) = mean on q.2 := by
            rw [if_pos rfl, em, Bool.not_not]
            rfl
          rw [e3]
          have s4 := s3.trans (same_new (o := .lst []) hn2)
          generalize upd H3 n2 (.lst []) = H4 at s4
          have kp4 : Kp d H2 H4 := fun b o e ne => s4 _ _ (kp b o e ne)
          cases mm : mean on q.2 with
          | false =>
            refine iteF ⟨_, _, rfl, kp4, ?_, ?_⟩
            · rw [nx, nmd, if_neg (by rw [mm]; exact Bool.false_ne_true)]
              exact s4 _ _ ho
            · rw [nx, nmd, if_neg (by rw [mm]; exact Bool.false_ne_true)]
              omega
          | true =>
            have nl : nmd on q = ins on q.1 := by
              rw [nmd, if_pos mm]
            have ll : (ins on q.1).length ≤ on.length + 1 := by
              unfold ins
              split
              · omega
              · rw [List.length_append, List.length_singleton]
                omega
            refine iteT ⟨_, rfl, _, rfl, d, _, rfl, DPut.k (k := Sum.inl q.1) (v := .bl true) (s4 _ _ ho) (by unfold tru; rw [List.length_map]; omega), _, _, rfl, fun b o e ne => ?_, ?_, ?_⟩
            · rw [upd_ne ne]
              exact kp4 b o e ne
            · rw [upd_same, tru_put, nx, nl]
            · rw [nx, nl]
              omega
    · rintro σ H' ⟨v2, v3, rfl, kp, ho, lo⟩
      rw [lt, List.take_length] at ho
      exact ⟨_, rfl, k H' d (fun b o e => kp b o (s2 b o e) (ne_of_none e nd0)) nd0 ho⟩
end

def tupT (cs : List (List Int)) : PyData := .tuple (cs.map tupD)
theorem lay_tupT (cs : List (List Int)) : (tupT cs).canLay0 = true := by
  unfold tupT
  rw [PyData.canLay0]
  exact lay_tups cs
theorem dep_tupT (cs : List (List Int)) : (tupT cs).depth ≤ 2 := by
  have := dep_tups cs
  unfold tupT
  rw [PyData.depth]
  omega
theorem shape_tupT (cs : List (List Int)) : SeqAt.shaped (tupT cs) = true := by
  unfold SeqAt.shaped
  rw [lay_tupT, decide_eq_true (Nat.le_trans (dep_tupT cs) (by decide))]
  rfl
theorem eqv_tupT (cs : List (List Int)) : PyData.eqv (tupT cs) (tupT cs) = true := SeqAt.eqv_refl _ (lay_tupT cs)

theorem valV_none {xs : List (Key × V)} {k : Key} (h : k ∉ xs.map (·.1)) : valV xs k = none := by
  unfold valV
  rw [List.find?_eq_none.mpr]
  · rfl
  · intro p hp z
    exact h (List.mem_map.mpr ⟨p, hp, of_decide_eq_true z⟩)
theorem mergeK_new : ∀ (kvs acc : List (Key × V)), ((acc ++ kvs).map (·.1)).Nodup → mergeK acc kvs = acc ++ kvs
  | [], acc, _ => by
    rw [List.append_nil]
    rfl
  | kv :: r, acc, h => by
    have nin : kv.1 ∉ acc.map (·.1) := fun z => by
      rw [List.map_append, List.map_cons] at h
      exact (List.nodup_append.mp h).2.2 _ z _ List.mem_cons_self rfl
    show mergeK (putK acc kv.1 kv.2) r = _
    rw [putK_new _ (valV_none nin), mergeK_new r _ (by rw [List.append_assoc]; exact h), List.append_assoc]
    rfl
theorem names_pairs {K : PySem.W.Frag} {H : Hp} : ∀ {qs : List (Int × List (List Int))} {vn : List V}, TpAll H vn (qs.map dN) → ∃ (ps : List Addr) (kvs : List (Key × V)), vn = ps.map V.ref ∧ Paired (fun p kv => SqT K H p [kV kv.1, kv.2]) ps kvs ∧ kvs.map (·.1) = (qs.map (·.1)).map Sum.inl
  | [], _, .nil => ⟨[], [], rfl, .nil, rfl⟩
  | q :: qs, _, .cons h t => by
    obtain ⟨ps, kvs, rfl, pr, ek⟩ := names_pairs (K := K) (qs := qs) t
    obtain ⟨r, u, rfl, hr, _⟩ := tp_two h
    exact ⟨r :: ps, ((Sum.inl q.1 : Key), u) :: kvs, rfl, .cons (SqT.of hr) pr, by rw [List.map_cons, List.map_cons, List.map_cons, ek]⟩
theorem nms_rise {f : Int} {qs : List (Int × List (List Int))} (n : Nms f qs) : (qs.map (·.1)).Pairwise (· < ·) := by
  refine List.pairwise_iff_getElem.mpr fun i j hi hj hij => ?_
  rw [List.length_map] at hi hj
  rw [List.getElem_map, List.getElem_map]
  have a := (n i _ (List.getElem?_eq_getElem hi)).1
  have b := (n j _ (List.getElem?_eq_getElem hj)).1
  omega
/-- sorted(..) of the same numbers -/
theorem same_sorted : ∀ {xs ys : List Int}, xs.Perm ys → xs.Pairwise (· ≤ ·) → ys.Pairwise (· ≤ ·) → xs = ys
  | [], ys, h, _, _ => (List.nil_perm.mp h).symm
  | a :: r, [], h, _, _ => absurd h.length_eq (by simp)
  | a :: r, b :: s, h, h1, h2 => by
    have p1 := List.pairwise_cons.mp h1
    have p2 := List.pairwise_cons.mp h2
    have ma : a ∈ b :: s := h.mem_iff.mp List.mem_cons_self
    have mb : b ∈ a :: r := h.mem_iff.mpr List.mem_cons_self
    have le1 : b ≤ a := by
      rcases List.mem_cons.mp ma with e | m
      · rw [e]; exact Int.le_refl _
      · exact p2.1 a m
    have le2 : a ≤ b := by
      rcases List.mem_cons.mp mb with e | m
      · rw [e]; exact Int.le_refl _
      · exact p1.1 b m
    have e : a = b := by omega
    subst e
    rw [same_sorted ((List.perm_cons a).mp h) p1.2 p2.2]
theorem ints_inj : ∀ {a b : List Int}, a.map V.int = b.map V.int → a = b
  | [], [], _ => rfl
  | [], _ :: _, h => by cases h
  | _ :: _, [], h => by cases h
  | x :: a, y :: b, h => by
    injection h with h1 h2
    injection h1 with h1
    rw [h1, ints_inj h2]
theorem eqv_lst (l : List Int) : PyData.eqv (lstD l) (lstD l) = true := SeqAt.eqv_refl _ (lay_lst l)
theorem due_perm {tr tr' ws zs : List Int} {m : Int} (n1 : tr.Nodup) (n2 : tr'.Nodup) (hw : ws.Perm tr) (hz : zs.Nodup) (iff : ∀ x, x ∈ zs ↔ x ∈ tr' ∧ x ∉ tr ∧ x ≠ m) (sub : ∀ x ∈ tr, x ∈ tr') (hm : m ∈ tr') :
    (ws ++ zs ++ (if m ∈ ws then [] else [m])).Perm tr' := by
  refine perm_of ?_ n2 fun x => ?_
  · rw [List.nodup_append, List.nodup_append]
    refine ⟨⟨(hw.nodup_iff).mpr n1, hz, fun a ha b hb e => ?_⟩, ?_, fun a ha b hb e => ?_⟩
    · subst e
      exact ((iff a).mp hb).2.1 (hw.mem_iff.mp ha)
    · split <;> simp
    · subst e
      by_cases c : m ∈ ws
      · rw [if_pos c] at hb
        cases hb
      · rw [if_neg c, List.mem_singleton] at hb
        subst hb
        rcases List.mem_append.mp ha with z | z
        · exact c z
        · exact ((iff a).mp z).2.2 rfl
  · rw [List.mem_append, List.mem_append, hw.mem_iff, iff]
    constructor
    · rintro ((z | z) | z)
      · exact sub x z
      · exact z.1
      · by_cases c : m ∈ ws
        · rw [if_pos c] at z
          cases z
        · rw [if_neg c, List.mem_singleton] at z
          rw [z]
          exact hm
    · intro z
      by_cases c1 : x ∈ tr
      · exact .inl (.inl c1)
      · by_cases c2 : x = m
        · refine .inr ?_
          rw [if_neg fun y => c1 (by rw [c2]; exact hw.mem_iff.mp y), c2]
          exact List.mem_cons_self
        · exact .inl (.inr ⟨z, c1, c2⟩)

/-! ### the marks of the counts, put on -/
def on0 (ms S : List Int) : List Int := (ms.filter fun m => decide (decide (m ∈ S) = decide (0 < m))).map ab
theorem mem_on0 {ms S : List Int} (un : Un ms) {m : Int} (hm : m ∈ ms) : ab m ∈ on0 ms S ↔ (m ∈ S ↔ 0 < m) := by
  unfold on0
  rw [List.mem_map]
  constructor
  · rintro ⟨m', h', e⟩
    obtain ⟨h1, h2⟩ := List.mem_filter.mp h'
    have : m' = m := nas_one un.nd m' h1 m hm (by
      unfold ab at e
      split at e <;> split at e <;> omega)
    subst this
    exact decide_eq_decide.mp (of_decide_eq_true h2)
  · intro h
    exact ⟨m, List.mem_filter.mpr ⟨hm, decide_eq_true (decide_eq_decide.mpr h)⟩, rfl⟩
theorem so_on0 {ms S : List Int} (un : Un ms) {m : Int} (hm : m ∈ ms) : so (on0 ms S) m = decide (m ∈ S) := by
  have h := mem_on0 (S := S) un hm
  have nz := un.nz m hm
  unfold so wOf
  by_cases c : 0 < m
  · rw [if_pos c]
    refine decide_eq_decide.mpr ?_
    rw [show ab m = m by unfold ab; rw [if_neg (by omega)]] at h
    rw [h]
    simp [c]
  · rw [if_neg c]
    rw [show ab m = 0 - m by unfold ab; rw [if_pos (by omega)]; omega] at h
    show (!decide (0 - m ∈ on0 ms S)) = decide (m ∈ S)
    by_cases z : m ∈ S
    · rw [decide_eq_false (fun y => c ((h.mp y).mp z)), decide_eq_true z]
      rfl
    · rw [decide_eq_true (h.mpr ⟨fun y => absurd y z, fun y => absurd y c⟩), decide_eq_false z]
      rfl
theorem walk_all {f : Int} {o : List Int} (hf : 0 < f) (h0 : ∀ x ∈ o, x < f) : ∀ qs, Nms f qs → Walk f o (qs.foldl nmd o) qs := by
  refine rev_ind (fun _ => .nil h0) fun qs q ih n => ?_
  rw [List.foldl_append]
  refine Walk.step hf n (ih fun i p e => n i p ?_)
  rw [List.getElem?_append_left (List.getElem?_eq_some_iff.mp e).1]
  exact e
theorem so_same {a b : List Int} (h : ∀ x, x ∈ a ↔ x ∈ b) (x : Int) : so a x = so b x := by
  unfold so wOf
  split
  · exact decide_eq_decide.mpr (h x)
  · exact congrArg (fun b => !b) (decide_eq_decide.mpr (h (0 - x)))
theorem mem_insF {x : Int} : ∀ (b a : List Int), x ∈ b.foldl ins a ↔ x ∈ a ∨ x ∈ b
  | [], a => by simp
  | y :: r, a => by
    show x ∈ r.foldl ins (ins a y) ↔ _
    rw [mem_insF r, mem_insY, List.mem_cons, or_assoc]
theorem counts_so {f : Int} {xs ys : List Int} {a b cap : Nat} {qs : List (Int × List (List Int))} (hf : 0 < f) (un : Un (xs ++ ys)) (small : ∀ z ∈ xs ++ ys, (z.natAbs : Int) < f) (l60 : xs.length + ys.length ≤ 60)
    (ha : a ≤ xs.length) (hb : b ≤ ys.length) (n : Nms f qs) (en : (mrg f 60 st00 xs ys cap).1.ns = qs.map dN) :
    Sat (so (qs.foldl nmd ((on0 (xs ++ ys) (xs.take a ++ ys.take b)).foldl ins []))) (mrg f 60 st00 xs ys cap).1.ns ∧
    (mrg f 60 st00 xs ys cap).2.map (so (qs.foldl nmd ((on0 (xs ++ ys) (xs.take a ++ ys.take b)).foldl ins []))) = srt (a + b) (min cap (xs.length + ys.length)) ∧
    ∀ d ∈ (mrg f 60 st00 xs ys cap).1.cs, ClT (so (qs.foldl nmd ((on0 (xs ++ ys) (xs.take a ++ ys.take b)).foldl ins []))) d := by
  have h0 : ∀ x ∈ (on0 (xs ++ ys) (xs.take a ++ ys.take b)).foldl ins [], x < f := fun x hx => by
    rcases (mem_insF _ _).mp hx with z | z
    · cases z
    · unfold on0 at z
      obtain ⟨m, hm, rfl⟩ := List.mem_map.mp z
      have := small m (List.mem_filter.mp hm).1
      unfold ab
      split <;> omega
  have w := walk_all hf h0 qs n
  have s := w.sat hf n
  have at_ : ∀ m ∈ xs ++ ys, so (qs.foldl nmd ((on0 (xs ++ ys) (xs.take a ++ ys.take b)).foldl ins [])) m = decide (m ∈ xs.take a ++ ys.take b) := fun m hm =>
    (w.low m (small m hm)).trans ((so_same (fun x => (mem_insF _ _).trans ⟨fun w => w.elim (fun z => by cases z) id, .inr⟩) m).trans (so_on0 un hm))
  have nd := un.nodup
  have nd3 := List.nodup_append.mp nd
  rw [en]
  refine ⟨s, ?_, ?_⟩
  · refine net_says (by rw [en]; exact s) (map_take_on (S := xs.take a ++ ys.take b) nd3.1 ha (fun z hz => at_ z (List.mem_append_left _ hz)) fun z hz => ?_) (map_take_on (S := xs.take a ++ ys.take b) nd3.2.1 hb (fun z hz => at_ z (List.mem_append_right _ hz)) fun z hz => ?_) ha hb l60 (by decide)
    · rw [List.mem_append]
      exact ⟨fun w => w.elim id fun w => absurd rfl (nd3.2.2 z hz z (List.mem_of_mem_take w)), .inl⟩
    · rw [List.mem_append]
      exact ⟨fun w => w.elim (fun w => absurd rfl (nd3.2.2 z (List.mem_of_mem_take w) z hz)) id, .inr⟩
  · exact (mrg_cl (wOf_neg _) hf 60 st00 xs ys cap (by rw [en]; exact s) (fun d h => by cases h) (fun x hx => un.nz x (List.mem_append_left _ hx)) (fun x hx => un.nz x (List.mem_append_right _ hx))).1

theorem tup_updL {H : Hp} {l : Addr} {ys : List V} {o : HO} (h : H l = some (.lst ys)) : ∀ b xs, H b = some (.tup xs) → (upd H l o) b = some (.tup xs) := fun b xs e => by
  rw [upd_ne (ne_of e h (by intro z; cases z))]
  exact e
def bools (l : List Bool) : PyData := .list (l.map PyData.bool)
theorem lay_bls : ∀ l : List Bool, PyData.canLayAll0 (l.map PyData.bool) = true
  | [] => rfl
  | x :: r => by
    rw [List.map_cons, PyData.canLayAll0, lay_bls r]
    rfl
theorem dep_bls : ∀ l : List Bool, PyData.depthAll (l.map PyData.bool) ≤ 0
  | [] => Nat.le_refl _
  | x :: r => by
    rw [List.map_cons, PyData.depthAll]
    exact Nat.max_le.mpr ⟨Nat.le_refl _, dep_bls r⟩
theorem lay_bools (c : List Bool) : (bools c).canLay0 = true := by
  unfold bools
  rw [PyData.canLay0]
  exact lay_bls c
theorem dep_bools (c : List Bool) : (bools c).depth ≤ 1 := by
  unfold bools
  rw [PyData.depth]
  exact Nat.succ_le_succ (dep_bls c)
theorem dp_bls {K : PySem.W.Frag} {H : Hp} : ∀ l : List Bool, DpAll K H (l.map V.bl) (l.map PyData.bool)
  | [] => .nil
  | x :: r => .cons (.bl x) (dp_bls r)
theorem dp_bools {K : PySem.W.Frag} {H : Hp} {a : Addr} {l : List Bool} (h : H a = some (.lst (l.map V.bl))) : Dp K H (.ref a) (bools l) := .lst (SqL.of h) (dp_bls l)
theorem shape_bools (l : List Bool) : SeqAt.shaped (bools l) = true := by
  unfold SeqAt.shaped
  rw [lay_bools, decide_eq_true (Nat.le_trans (dep_bools l) (by decide))]
  rfl
theorem eqv_bools (l : List Bool) : PyData.eqv (bools l) (bools l) = true := SeqAt.eqv_refl _ (lay_bools l)
theorem cl_any {W : Int → Bool} {d : PyData} (h : ClT W d) : (unT d).any W = true ∧ (unT d).length ≤ 3 := by
  rcases h with ⟨x, h, rfl, e⟩ | ⟨x, y, l, rfl, e⟩
  · have : unT (dCl2 x h) = [0 - x, h] := unT_tI [0 - x, h]
    rw [this]
    exact ⟨by simpa using e, Nat.le_succ 2⟩
  · have : unT (dCl3 x y l) = [0 - x, 0 - y, l] := unT_tI [0 - x, 0 - y, l]
    rw [this]
    exact ⟨by simpa [Bool.or_assoc] using e, Nat.le_refl 3⟩
theorem sel_ints (t : Int → Bool) (f : Int → Int) (ms : List Int) : (((ms.map V.int).filter (fun x => match x with | .int m => t m | _ => false)).map (fun x => match x with | .int m => V.int (f m) | v => v)) = ((ms.filter t).map f).map V.int := by
  rw [List.filter_map, List.map_map, List.map_map]
  rfl
theorem sel_bools (t : Int → Bool) (ms : List Int) : (((ms.map V.int).filter (fun _ => true)).map (fun x => match x with | .int m => V.bl (t m) | v => v)) = (ms.map t).map V.bl := by
  rw [filter_all, List.map_map, List.map_map]
  rfl
def spLaw (K : PySem.W.Frag) : Sp := fun vs H Q _ => ∃ (a : Addr) (ns : List Int), vs = [.ref a] ∧ SqL K H a (ns.map V.int) ∧ ns.length ≤ 63 ∧ ∀ H', Q (.bl true) H'
section
variable {P : Program} {w : World} {K : PySem.W.Frag} {mg : Str → Option Value} {base : Heap}
theorem ok_law {f : Addr} {fd : FuncData} (F : Fun K "law" "law" s_law f fd) {cs : Nat → Addr} (T : Top K mg cs) (h__law_begun : Has P w K mg base 1 "_law_begun" ["_law_script"] (spBegun K)) (h__law_draw : Has P w K mg base 1 "_law_draw" ["_law_tape", "_law_many"] spDraw)
    (h__law_pick : Has P w K mg base 2 "_law_pick" ["_law_tape", "_law_some"] (spPick K)) (h__law_marks : Has P w K mg base 3 "_law_marks" ["_law_tape", "_law_many"] spFar) (h_net_knot : Has P w K mg base 64 "net_knot" ["one", "other", "cap", "first"] spKnot)
    (h__law_is_so : Has P w K mg base 1 "_law_is_so" ["_law_on", "_law_mark"] spSo) (h__law_named : Has P w K mg base 2 "_law_named" ["_law_names", "_law_on"] (spNamed K)) (h__law_is_held : Has P w K mg base 2 "_law_is_held" ["_law_clauses", "_law_on"] (spHeld K)) : FnG P w K mg base 65 f fd ["_law_script"] (spLaw K) := by
  refine fnG F sc_law (fun vs H Q E h => ?_) (fun cdv Ar outer s H vs Q E hr hgd h => ?_)
  · obtain ⟨a, ns, rfl, _⟩ := h
    rfl
  · have hu := hu_of hr
    have nd := sc_law.nd
    obtain ⟨a, ns, rfl, hS, hl, k⟩ := h
    refine ⟨_, (pss_cons (ps_set (i := 1) nd rfl (.inr rfl) (pe_has h__law_begun (hr.mono (by omega)) (by rfl) (pa_cons (pv 0) pa_nil)))
    (pss_cons (ps_for PassesOwn.never rfl (pi_range1 (by rfl) T.b_range (pa_cons pe_int pa_nil)) (pg_name (i := 2) nd rfl (.inl rfl))
      (pss_cons (ps_set (i := 3) nd rfl (.inr rfl) (pe_lc (own := [("_law_k", 17)]) (by rfl) nd (pi_range1 (by rfl) T.b_range (pa_cons pe_int pa_nil)) (blkOk_by (own := [("_law_k", 17)]) (N := nm_law) (sc := defScope s_law) (by decide +kernel)) (fun _ _ _ _ _ => pg_name (i := 17) nd rfl (.inl rfl)) (fun _ _ _ _ _ => pts_nil) (fun _ _ _ _ _ => (pe_op op_add pe_int (pe_has h__law_draw (hr.mono (by omega)) (by rfl) (pa_cons (pv 1) (pa_cons (pe_has h__law_pick (hr.mono (by omega)) (by rfl) (pa_cons (pv 1) (pa_cons (pe_lst (pa_cons pe_int (pa_cons pe_int (pa_cons pe_int pa_nil)))) pa_nil))) pa_nil)))))))
    (pss_cons (ps_par (i := 4) (j := 5) (by rfl) nd rfl rfl (by decide) rfl rfl (pa_cons (pe_has h__law_marks (hr.mono (by omega)) (by rfl) (pa_cons (pv 1) (pa_cons (pe_callB (cr_sum rfl) (by rfl) T.b_sum (by decide +kernel) (pa_cons (pv 3) pa_nil)) pa_nil))) (pa_cons (pe_callB (cr_sum rfl) (by rfl) T.b_sum (by decide +kernel) (pa_cons (pv 3) pa_nil)) pa_nil)) (by rfl))
    (pss_cons (ps_set (i := 6) nd rfl (.inl rfl) (pe_has h__law_pick (hr.mono (by omega)) (by rfl) (pa_cons (pv 1) (pa_cons (pe_lst (pa_cons pe_int (pa_cons pe_int (pa_cons pe_int (pa_cons (pv 5) (pa_cons (pe_op op_add pe_int (pe_has h__law_draw (hr.mono (by omega)) (by rfl) (pa_cons (pv 1) (pa_cons (pv 5) pa_nil)))) (pa_cons (pe_op op_add pe_int (pe_has h__law_draw (hr.mono (by omega)) (by rfl) (pa_cons (pv 1) (pa_cons pe_int pa_nil)))) pa_nil))))))) pa_nil))))
    (pss_cons (ps_par (i := 7) (j := 8) (by rfl) nd rfl rfl (by decide) rfl rfl (pa_cons (pe_callTy call_tuple_of (by rfl) T.b_tuple (by decide +kernel) (pa_cons (pe_slice sl_list (pv 4) po_none (po_some (pe_ix ix_list (pv 3) pe_int (fun _ _ => rfl)))) pa_nil)) (pa_cons (pe_callTy call_tuple_of (by rfl) T.b_tuple (by decide +kernel) (pa_cons (pe_slice sl_list (pv 4) (po_some (pe_ix ix_list (pv 3) pe_int (fun _ _ => rfl))) po_none) pa_nil)) pa_nil)) (by rfl))
    (pss_cons (ps_asg (pe_has h_net_knot (hr.mono (by omega)) (by rfl) (pa_cons (pv 7) (pa_cons (pv 8) (pa_cons (pv 6) (pa_cons (pe_op op_add (pe_op op_pow pe_int pe_int) pe_int) pa_nil))))) (pg_tup (by rfl) (pgs_cons (pg_name (i := 9) nd rfl (.inl rfl)) (pgs_cons (pg_name (i := 10) nd rfl (.inl rfl)) (pgs_cons (pg_name (i := 11) nd rfl (.inl rfl)) (pgs_cons (pg_name (i := 12) nd rfl (.inl rfl)) pgs_nil))))))
    (pss_cons (ps_if (PW.pt (pw_or (pt_cmpR (op_neD hr.units) (pv 9) (pe_tup (pa_cons (pv 7) (pa_cons (pv 8) pa_nil))) (nomark _)) (pw_or (pt_cmpR op_ne (pe_callB call_len_seq (by rfl) T.b_len (by decide +kernel) (pa_cons (pv 12) pa_nil)) (pe_callB (call_min2 rfl) (by rfl) T.b_min (by decide +kernel) (pa_cons (pv 6) (pa_cons (pv 5) pa_nil))) (nomark _)) (pw_or1 (pt_cmpR (op_neD hr.units) (pe_lc (own := [("_law_one", 19)]) (by rfl) nd (pi_tup (pv 10)) (blkOk_by (own := [("_law_one", 19)]) (N := nm_law) (sc := defScope s_law) (by decide +kernel)) (fun _ _ _ _ _ => pg_name (i := 19) nd rfl (.inl rfl)) (fun _ _ _ _ _ => pts_nil) (fun _ _ _ _ _ => (pe_ix (ix_tupK (K := K) rfl) (pv 19) pe_int (fun _ _ => rfl)))) (pe_callB (cr_sortedK rfl) (by rfl) T.b_sorted (by decide +kernel) (pa_cons (pe_callTy (call_dictF rfl) (by rfl) T.b_dict (by decide +kernel) (pa_cons (pv 10) pa_nil)) pa_nil)) (nomark _)))))) (pss_one (ps_ret pe_bl)) pss_nil)
    (pss_one (ps_for PassesOwn.never rfl (pi_list (pe_lc (own := [("_law_k", 17)]) (by rfl) nd (pi_range1 (by rfl) T.b_range (pa_cons (pe_op op_mul (pe_op op_add (pe_ix ix_list (pv 3) pe_int (fun _ _ => rfl)) pe_int) (pe_op op_add (pe_ix ix_list (pv 3) pe_int (fun _ _ => rfl)) pe_int)) pa_nil)) (blkOk_by (own := [("_law_k", 17)]) (N := nm_law) (sc := defScope s_law) (by decide +kernel)) (fun _ _ _ _ _ => pg_name (i := 17) nd rfl (.inl rfl)) (fun _ _ _ _ _ => pts_nil) (fun _ _ _ _ _ => (pe_tup (pa_cons (pe_op op_mod (pv 17) (pe_op op_add (pe_ix (ix_listK (K := K) rfl) (pv 3) pe_int (fun _ _ => rfl)) pe_int)) (pa_cons (pe_op op_fdivW (pv 17) (pe_op op_add (pe_ix (ix_listK (K := K) rfl) (pv 3) pe_int (fun _ _ => rfl)) pe_int)) pa_nil)))))) (pg_name (i := 13) nd rfl (.inr rfl))
      (pss_cons (ps_set (i := 14) nd rfl (.inr rfl) (pe_op op_cat (pe_slice sl_list (pv 4) po_none (po_some (pe_ix ix_tup (pv 13) pe_int (fun _ _ => rfl)))) (pe_slice sl_list (pv 4) (po_some (pe_ix ix_list (pv 3) pe_int (fun _ _ => rfl))) (po_some (pe_op op_add (pe_ix ix_list (pv 3) pe_int (fun _ _ => rfl)) (pe_ix ix_tup (pv 13) pe_int (fun _ _ => rfl)))))))
    (pss_cons (ps_set (i := 15) nd rfl (.inr rfl) (pe_has h__law_named (hr.mono (by omega)) (by rfl) (pa_cons (pv 10) (pa_cons (pe_lc (own := [("_law_mark", 20)]) (by rfl) nd (pi_list (pv 4)) (blkOk_by (own := [("_law_mark", 20)]) (N := nm_law) (sc := defScope s_law) (by decide +kernel)) (fun _ _ _ _ _ => pg_name (i := 20) nd rfl (.inl rfl)) (fun _ _ _ _ _ => pts_one (pt_cmpR op_eq (pe_cmpR (op_inK (K := K) rfl) (pv 20) (pv 14) (by rfl)) (pe_cmpR op_gt (pv 20) pe_int (nomark _)) (nomark _))) (fun _ _ _ _ _ => (pe_callB call_abs (by rfl) T.b_abs (by decide +kernel) (pa_cons (pv 20) pa_nil)))) pa_nil))))
    (pss_cons (ps_setLc (i := 16) (own := [("_law_at", 18)]) (by rfl) nd rfl rfl (sw_true rfl rfl rfl (by decide +kernel)) (pi_range1 (by rfl) T.b_range (pa_cons (pe_callB call_len_seq (by rfl) T.b_len (by decide +kernel) (pa_cons (pv 12) pa_nil)) pa_nil)) (blkOk_by (own := [("_law_at", 18)]) (N := nm_law) (sc := defScope s_law) (by decide +kernel)) (fun _ _ _ _ _ => pg_name (i := 18) nd rfl (.inl rfl)) (fun _ _ _ _ _ => pts_nil) (fun _ _ _ _ _ => (pe_cmpR op_lt (pv 18) (pe_callB (cr_sumTK (K := K) rfl rfl) (by rfl) T.b_sum (by decide +kernel) (pa_cons (pv 13) pa_nil)) (nomark _))))
    (pss_one (ps_if (PW.pt (pw_or (pt_not (pt_val (pe_has h__law_is_held (hr.mono (by omega)) (by rfl) (pa_cons (pv 11) (pa_cons (pv 15) pa_nil))))) (pw_or1 (pt_cmpR (op_neD hr.units) (pe_lc (own := [("_law_mark", 20)]) (by rfl) nd (pi_tup (pv 12)) (blkOk_by (own := [("_law_mark", 20)]) (N := nm_law) (sc := defScope s_law) (by decide +kernel)) (fun _ _ _ _ _ => pg_name (i := 20) nd rfl (.inl rfl)) (fun _ _ _ _ _ => pts_nil) (fun _ _ _ _ _ => (pe_has h__law_is_so (hr.mono (by omega)) (by rfl) (pa_cons (pv 15) (pa_cons (pv 20) pa_nil))))) (pv 16) (nomark _))))) (pss_one (ps_ret pe_bl)) pss_nil))))))))))))))
    (pss_one (ps_ret pe_bl)))), ?_⟩
    have line : (5000000 : Nat) < sizeLine := by decide
    have cp : ∀ z : Int, 0 ≤ z → z ≤ 1000000 → CPow 10 z := fun z h0 h1 => ⟨h0, h1, by decide⟩
    refine ⟨_, rfl, a, ns, rfl, hS, hl, fun H1 t c ht hc sm tp1 => ?_⟩
    refine ⟨2, rfl, by decide, by decide, for_range (lo := 0) (fun i σ H' => ∃ v2 v3 v4 v5 v6 v7 v8 v9 v10 v11 v12 v13 v14 v15 v16 v17 v18 v19 v20, σ = [some (.ref a), some (.ref t), v2, v3, v4, v5, v6, v7, v8, v9, v10, v11, v12, v13, v14, v15, v16, v17, v18, v19, v20] ∧ Tape H' t c (300 * i)) ⟨none, none, none, none, none, none, none, none, none, none, none, none, none, none, none, none, none, none, none, rfl, tp1⟩ ?_ ?_⟩
    rotate_left
    · rintro σ H' _
      exact k H'
    rintro i σ H2 hi ⟨v2, v3, v4, v5, v6, v7, v8, v9, v10, v11, v12, v13, v14, v15, v16, v17, v18, v19, v20, rfl, tp2⟩
    have hi2 : i < 2 := hi
    refine ⟨2, rfl, by decide, by decide, fun D hD => lc_range (lo := 0) (fun j H' => Kp t H2 H' ∧ Tape H' t c (300 * i + 2 * j) ∧ ∃ ls : List Nat, ls.length = j ∧ (∀ x ∈ ls, 1 ≤ x ∧ x ≤ 12) ∧ H' D = some (.lst ((ls.map fun (x : Nat) => ((x : Nat) : Int)).map V.int))) ⟨Kp.new hD, tp2.new hD, [], rfl, fun _ h => (by cases h), upd_same⟩ (fun j H3 hj p => ?_) (fun H3 p => ?_)⟩
    · obtain ⟨k3, tp3, ls, ll, lim, h3⟩ := p
      have hj2 : j < 2 := hj
      have nDt : D ≠ t := tp2.fresh hD
      have nDc : D ≠ c := tp2.fresh_c hD
      refine ⟨rfl, yes_go ⟨_, rfl, _, rfl, by show 3 ≤ sizeLine; decide, fun d nd => ⟨t, c, d, _, _, rfl, tp3.new nd, by omega, fun H' kp => .inl (SqL.of (kp d _ upd_same (tp3.fresh nd))), by show 0 < 3; decide, by show 3 ≤ 1000000; decide, fun H4 i4 v4 g4 tp4 kp4 => ?_⟩⟩⟩
      obtain ⟨z4, rfl, m4⟩ := pick_int (zs := [3, 5, 12]) g4
      have z4b : 3 ≤ z4 ∧ z4 ≤ 12 := by
        simp only [List.mem_cons, List.not_mem_nil, or_false] at m4
        omega
      refine ⟨t, c, z4, _, rfl, tp4, by omega, by omega, pow8000 (by omega), fun H5 r5 a5 b5 tp5 kp5 => ⟨_, _, rfl, rfl, ?_⟩⟩
      have k5 : Kp t H3 H5 := (Kp.new nd).trans (kp4.trans kp5)
      have h5 := k5 D _ h3 nDt
      refine ⟨_, h5, by rw [List.length_map, List.length_map, ll]; omega, (k3.trans k5).mut hD, (tp5.mut nDt nDc).le (by omega), ls ++ [1 + r5.toNat], by rw [List.length_append, ll]; rfl, fun x hx => ?_, ?_⟩
      · rcases List.mem_append.mp hx with hx | hx
        · exact lim x hx
        · rw [List.mem_singleton.mp hx]
          omega
      · rw [upd_same, List.map_append, List.map_append]
        show some (HO.lst (_ ++ [V.int (1 + r5)])) = some (HO.lst (_ ++ [V.int ((1 + r5.toNat : Nat) : Int)]))
        rw [show 1 + r5 = ((1 + r5.toNat : Nat) : Int) by omega]
    · obtain ⟨k3, tp3, ls, ll, lim, h3⟩ := p
      obtain ⟨x, y, rfl⟩ : ∃ x y, ls = [x, y] := by
        match ls, ll with
        | [x, y], _ => exact ⟨x, y, rfl⟩
      have lx := lim x List.mem_cons_self
      have ly := lim y (List.mem_cons_of_mem _ List.mem_cons_self)
      have h3 : H3 D = some (.lst ([(x : Int), (y : Int)].map V.int)) := h3
      have esum : ([(x : Int), (y : Int)] : List Int).sum = ((x + y : Nat) : Int) := by
        show (x : Int) + ((y : Int) + 0) = _
        omega
      refine ⟨_, rfl, _, rfl, D, _, rfl, SqL.of h3, t, c, _, _, rfl, tp3, by omega, by rw [esum]; omega, by rw [esum]; omega, fun H4 p ms np hp lm un lim9 tp4 kp4 => ?_⟩
      rw [esum] at lm
      have lm : ms.length = x + y := by omega
      have hD4 := tp3.sq h3 kp4
      refine ⟨_, rfl, D, _, rfl, SqL.of hD4, _, _, rfl, ?_⟩
      rw [esum]
      -- the cap
      refine ⟨_, rfl, _, rfl, _, rfl, _, rfl, t, c, _, _, rfl, tp4, by omega, by omega, pow8000 (by omega), fun H9 r9 a9 b9 tp9 kp9 => ⟨_, _, rfl, rfl, _, rfl, t, c, _, _, rfl, tp9, by omega, by decide, by decide +kernel, fun HA ra aa ba tpa kpa => ⟨_, _, rfl, rfl, by show 6 ≤ sizeLine; decide, fun d1 nd1 => ?_⟩⟩⟩
      refine ⟨t, c, d1, _, _, rfl, tpa.new nd1, by omega, fun H' kp => .inl (SqL.of (kp d1 _ upd_same (tpa.fresh nd1))), by show 0 < 6; decide, by show 6 ≤ 1000000; decide, fun HB iB vB gB tpB kpB => ?_⟩
      obtain ⟨zB, rfl, mB⟩ := pick_int (zs := [1, 2, 3, ((x + y : Nat) : Int), 1 + r9, 1 + ra]) gB
      have zBb : 1 ≤ zB := by
        simp only [List.mem_cons, List.not_mem_nil, or_false] at mB
        omega
      obtain ⟨cap, rfl⟩ : ∃ cap : Nat, zB = (cap : Int) := ⟨zB.toNat, by omega⟩
      have kk : Kp t H4 HB := kp9.trans (kpa.trans ((Kp.new nd1).trans kpB))
      have hDB := tp4.sq hD4 kk
      have hpB := tp4.sq hp kk
      clear kk tp9 kp9 tpa kpa kpB mB gB nd1
      have hat0 : atI ([(x : Int), (y : Int)].map V.int) 0 = some (.int x) := at_of (j := 0) rfl rfl
      have hat1 : atI ([(x : Int), (y : Int)].map V.int) 1 = some (.int y) := at_of (j := 1) rfl rfl
      have e1 : cutV (ms.map V.int) none (some (x : Int)) = (ms.take x).map V.int := by
        rw [cut_0j, List.map_take]
      have e2 : cutV (ms.map V.int) (some (x : Int)) none = (ms.drop x).map V.int := by
        rw [cut_iE, List.map_drop]
      refine ⟨_, rfl, _, rfl, D, _, _, _, rfl, rfl, SqL.of hDB, hat0, _, rfl, p, _, rfl, SqL.of hpB, fun q1 nq1 => ⟨q1, _, rfl, .inl ⟨SqL.of upd_same, fun q2 nq2 => ?_⟩⟩⟩
      rw [e1]
      rw [e1] at nq2
      have s2 := (same_new (o := .lst ((ms.take x).map V.int)) nq1).trans (same_new (o := .tup ((ms.take x).map V.int)) nq2)
      have hq2 : (upd (upd HB q1 (.lst ((ms.take x).map V.int))) q2 (.tup ((ms.take x).map V.int))) q2 = some (.tup ((ms.take x).map V.int)) := upd_same
      generalize upd (upd HB q1 (.lst ((ms.take x).map V.int))) q2 (.tup ((ms.take x).map V.int)) = H5 at s2 hq2 ⊢
      refine ⟨_, rfl, _, rfl, D, _, _, _, rfl, rfl, SqL.of (s2 _ _ hDB), hat0, _, rfl, p, _, rfl, SqL.of (s2 _ _ hpB), fun q3 nq3 => ⟨q3, _, rfl, .inl ⟨SqL.of upd_same, fun q4 nq4 => ⟨_, _, rfl, ?_⟩⟩⟩⟩
      rw [e2]
      rw [e2] at nq4
      have s4 := (same_new (o := .lst ((ms.drop x).map V.int)) nq3).trans (same_new (o := .tup ((ms.drop x).map V.int)) nq4)
      have hq4 : (upd (upd H5 q3 (.lst ((ms.drop x).map V.int))) q4 (.tup ((ms.drop x).map V.int))) q4 = some (.tup ((ms.drop x).map V.int)) := upd_same
      have hq2 := s4 _ _ hq2
      have s4 := s2.trans s4
      generalize upd (upd H5 q3 (.lst ((ms.drop x).map V.int))) q4 (.tup ((ms.drop x).map V.int)) = H7 at s4 hq2 hq4 ⊢
      have l1 : (ms.take x).length = x := by rw [List.length_take]; omega
      have l2 : (ms.drop x).length = y := by rw [List.length_drop]; omega
      have fm : ∀ z ∈ ms, Fit z := fun z hz => by
        have := un.lim z hz
        have p12 : (10 : Nat) ^ 12 < 10 ^ 13 := by decide
        unfold Fit
        omega
      have f1 : ∀ z ∈ ms.take x, Fit z := all_take fm
      have f2 : ∀ z ∈ ms.drop x, Fit z := all_drop fm
      refine ⟨_, rfl, _, rfl, _, rfl, _, _, rfl, rfl, cp _ (by decide) (by decide), _, _, rfl, rfl, q2, q4, ms.take x, ms.drop x, cap, _, rfl, hq2, hq4, by omega, ?_, f1, f2, fun H8 v p4 p5 p6 r o vn s8 hv t4 h5 od tn t6 hr => ?_⟩
      · have p9 : (10 : Int) ^ (9 : Int).toNat = 1000000000 := by decide
        have p12 : (10 : Int) ^ 12 = 1000000000000 := by decide
        unfold Low
        omega
      have un2 : Un (ms.take x ++ ms.drop x) := by
        rw [List.take_append_drop]
        exact un
      have f0 : (0 : Int) < 10 ^ (9 : Int).toNat + 1 := by decide
      have small : ∀ z ∈ ms.take x ++ ms.drop x, (z.natAbs : Int) < 10 ^ (9 : Int).toNat + 1 := fun z hz => by
        have p9 : (10 : Int) ^ (9 : Int).toNat = 1000000000 := by decide
        have q9 : (10 : Nat) ^ 9 = 1000000000 := by decide
        rw [List.take_append_drop] at hz
        have := lim9 z hz
        omega
      have N := net2 (cap := cap) f0 un2 small (by omega)
      have nl := N.len
      rw [l1, l2] at nl
      have e60 : (ms.take x).length + (ms.drop x).length ≤ 60 := by omega
      refine ⟨v, _, rfl, SqT.of hv, rfl, _, _, rfl, _, _, rfl, _, _, rfl, _, _, rfl, rfl, ?_⟩
      -- the rows
      refine ⟨_, rfl, _, rfl, _, rfl, by show 2 ≤ sizeLine; decide, fun pt npt => ?_⟩
      have s9 := same_new (o := .tup [V.ref q2, .ref q4]) npt
      have t9 : Tp (upd H8 pt (.tup [V.ref q2, .ref q4])) (.ref pt) (.tuple [tI (ms.take x), tI (ms.drop x)]) := .new npt (.cons (tp_ints (s8 _ _ hq2)) (.cons (tp_ints (s8 _ _ hq4)) .nil))
      have t4' := t4.kt (KT.same s9)
      have h5 := s9 _ _ h5
      have tn := tn.kt (KT.same s9)
      have t6 := t6.kt (KT.same s9)
      have hr := s9 _ _ hr
      have s9 := s8.trans s9
      generalize upd H8 pt (.tup [V.ref q2, .ref q4]) = H9 at s9 t9 t4' h5 tn t6 hr
      refine ⟨tupT [ms.take x, ms.drop x], tupT [ms.take x, ms.drop x], t4'.dp, t9.dp, shape_tupT _, shape_tupT _, _, rfl, ?_⟩
      rw [eqv_tupT]
      refine iteF ?_
      -- as many outs
      refine ⟨_, rfl, r, _, rfl, .inr (.inl (.inl hr)), _, rfl, _, rfl, _, _, rfl, rfl, _, rfl, ?_⟩
      have em : V.int ((((mrg (10 ^ (9 : Int).toNat + 1) 60 st00 (ms.take x) (ms.drop x) cap).2.map V.int).length : Nat) : Int) = V.int (if ((x + y : Nat) : Int) < (cap : Int) then ((x + y : Nat) : Int) else (cap : Int)) := by
        rw [List.length_map, nl]
        congr 1
        split <;> omega
      refine iteNS em ?_
      have lf : Low (10 ^ (9 : Int).toNat + 1) := by
        have p9 : (10 : Int) ^ (9 : Int).toNat = 1000000000 := by decide
        have p12 : (10 : Int) ^ 12 = 1000000000000 := by decide
        unfold Low
        omega
      have sq : ((ms.take x).length + (ms.drop x).length) * ((ms.take x).length + (ms.drop x).length) ≤ 24 * 24 := Nat.mul_le_mul (by omega) (by omega)
      have few := (mrg_few lf 60 0 st00 (ms.take x) (ms.drop x) cap few00 (by omega) f1 f2).1
      have fl := few.l
      have fc := few.c
      have MK := mrg_mk f0 60 st00 (ms.take x) (ms.drop x) cap (fun i d e => by simp [st00] at e) (fun d hd => by cases hd) (fun z hz => ⟨(by have := small z hz; show (z.natAbs : Int) < 10 ^ (9 : Int).toNat + 1 + ((0 : Nat) : Int); omega), un2.nz z hz⟩) un2.nodup
      obtain ⟨qs, eqn, nq⟩ : ∃ qs, (mrg (10 ^ (9 : Int).toNat + 1) 60 st00 (ms.take x) (ms.drop x) cap).1.ns = qs.map dN ∧ Nms (10 ^ (9 : Int).toNat + 1) qs := nms_ex _ _ rfl (fun i d e => MK.ord i d e)
      have lq : qs.length ≤ 5000 := by
        have := congrArg List.length eqn
        rw [List.length_map] at this
        omega
      rw [eqn] at tn
      have rise := nms_rise nq
      have lv : vn.length = qs.length := by
        have := tn.len
        rw [List.length_map] at this
        exact this
      refine ⟨_, rfl, p5, rfl, ⟨_, .inl (.inr ⟨o, h5⟩)⟩, fun DN hDN => lc_tup (xs := vn) (fun j H' => Same H9 H' ∧ H' DN = some (.lst (((qs.take j).map (·.1)).map V.int))) ⟨same_new hDN, upd_same⟩ (fun j H' _ z => .inl (.inr ⟨o, z.1 _ _ h5⟩)) (fun j y HX hj z => ?_) fun HY z => ?_⟩
      · obtain ⟨sX, hX⟩ := z
        obtain ⟨dd, ed, ty⟩ := tpall_at tn j y hj
        rw [List.getElem?_map] at ed
        cases eq : qs[j]? with
        | none => rw [eq] at ed; cases ed
        | some q0 =>
          rw [eq] at ed
          cases ed
          obtain ⟨r0, u0, rfl, hr0, _⟩ := tp_two ty
          have li := (List.getElem?_eq_some_iff.mp eq).1
          refine ⟨rfl, yes_go ⟨_, rfl, r0, _, _, _, rfl, rfl, SqT.of (sX _ _ hr0), at_of (j := 0) rfl rfl, _, hX, ?_, ?_, ?_⟩⟩
          · rw [List.length_map, List.length_map, List.length_take]
            omega
          · intro b ob e
            rw [upd_ne (ne_of_none e hDN)]
            exact sX _ _ e
          · rw [upd_same, take_snocT eq, List.map_append, List.map_append]
            rfl
      · obtain ⟨sY, hY⟩ := z
        rw [lv, List.take_length] at hY
        obtain ⟨ps, kvs, ev, prs, ek⟩ := names_pairs (K := K) (tn.kt (KT.same sY))
        rw [ev] at h5
        refine ⟨_, rfl, p5, o, ps, kvs, rfl, sY _ _ h5, od, prs, fun dd ndd => ?_⟩
        have ndk : (kvs.map (·.1)).Nodup := by
          rw [ek]
          refine List.pairwise_map.mpr (rise.imp fun h z => ?_)
          have := Sum.inl.inj z
          omega
        rw [mergeK_new kvs [] (by simpa using ndk), List.nil_append]
        refine ⟨dd, kvs, qs.map (·.1), rfl, upd_same, ek, fun ns' pS pm sd np => ?_⟩
        have en : ns' = qs.map (·.1) := same_sorted pm sd (rise.imp fun h => Int.le_of_lt h)
        subst en
        refine ⟨lstD (qs.map (·.1)), lstD (qs.map (·.1)), dp_lst (same_new np _ _ (same_new ndd _ _ hY)), dp_lst upd_same, shape_lst _, shape_lst _, _, rfl, ?_⟩
        rw [eqv_lst]
        refine iteF ?_
        have sZ : Same H9 (upd (upd HY dd (.dK kvs)) pS (.lst ((qs.map (·.1)).map V.int))) := (sY.trans (same_new ndd)).trans (same_new np)
        generalize upd (upd HY dd (.dK kvs)) pS (.lst ((qs.map (·.1)).map V.int)) = HZ at sZ
        clear sY hY prs ndd np ndk
        have hDZ := (s4.trans (s9.trans sZ)) _ _ hDB
        have prod : ((x : Int) + 1) * ((y : Int) + 1) = (((x + 1) * (y + 1) : Nat) : Int) := by
          rw [Int.natCast_mul]
          rfl
        have plim : (x + 1) * (y + 1) ≤ 13 * 13 := Nat.mul_le_mul (by omega) (by omega)
        refine ⟨_, rfl, D, _, _, _, rfl, rfl, SqL.of hDZ, hat0, _, _, rfl, rfl, _, rfl, D, _, _, _, rfl, rfl, SqL.of hDZ, hat1, _, _, rfl, rfl, _, _, rfl, rfl, .inl ⟨by omega, by omega⟩, (((x + 1) * (y + 1) : Nat) : Int), congrArg (fun z => [V.int z]) prod, by omega, by omega, fun DC hDC => lc_range (lo := 0) (fun j H' => Same HZ H' ∧ ∃ cc : List (Addr × (Nat × Nat)), cc.length = j ∧ (∀ z ∈ cc, z.2.1 ≤ x ∧ z.2.2 ≤ y ∧ H' z.1 = some (.tup [V.int (z.2.1 : Nat), V.int (z.2.2 : Nat)])) ∧ H' DC = some (.lst (cc.map fun z => V.ref z.1))) ⟨same_new hDC, [], rfl, fun z hz => (by cases hz), upd_same⟩ (fun j HX hj z => ?_) fun HC z => ?_⟩
        · obtain ⟨sX, cc, lcc, hcc, hX⟩ := z
          have hj : j < (x + 1) * (y + 1) := by omega
          obtain ⟨aa, ea⟩ : ∃ aa, aa = j % (x + 1) := ⟨_, rfl⟩
          obtain ⟨bb, eb⟩ : ∃ bb, bb = j / (x + 1) := ⟨_, rfl⟩
          have la : aa ≤ x := by
            have : j % (x + 1) < x + 1 := Nat.mod_lt j (Nat.succ_pos x)
            omega
          have lb : bb ≤ y := by
            have : j / (x + 1) < y + 1 := Nat.div_lt_of_lt_mul hj
            omega
          refine ⟨rfl, yes_go ⟨_, rfl, _, rfl, D, _, _, _, rfl, rfl, SqL.of (sX _ _ hDZ), hat0, _, _, rfl, rfl, _, _, rfl, rfl, by show (0 : Int) < (x : Int) + 1; omega, _, rfl, _, rfl, D, _, _, _, rfl, rfl, SqL.of (sX _ _ hDZ), hat0, _, _, rfl, rfl, _, _, rfl, rfl, ⟨by show (0 : Int) < (x : Int) + 1; omega, Nat.lt_of_le_of_lt (Nat.log2_le_self _) (by show ((x : Int) + 1).natAbs < 9000; omega)⟩, by show 2 ≤ sizeLine; decide, fun qn nqn => ?_⟩⟩
          generalize hva : (fun i j : Int => V.int (i % j)) (0 + (j : Int)) ((x : Int) + 1) = va at nqn ⊢
          obtain rfl : va = .int (aa : Int) := by
            rw [← hva, ea]
            show V.int ((0 + (j : Int)) % ((x : Int) + 1)) = V.int ((j % (x + 1) : Nat) : Int)
            rw [Int.zero_add, Int.natCast_emod]
            rfl
          generalize hvb : (fun i j : Int => V.int (i / j)) (0 + (j : Int)) ((x : Int) + 1) = vb at nqn ⊢
          obtain rfl : vb = .int (bb : Int) := by
            rw [← hvb, eb]
            show V.int ((0 + (j : Int)) / ((x : Int) + 1)) = V.int ((j / (x + 1) : Nat) : Int)
            rw [Int.zero_add, Int.natCast_ediv]
            rfl
          clear hva hvb ea eb
          have sq := same_new (o := .tup [V.int (aa : Int), V.int (bb : Int)]) nqn
          refine ⟨_, sq _ _ hX, by rw [List.length_map]; omega, fun b ob e => ?_, cc ++ [(qn, aa, bb)], by rw [List.length_append, lcc]; rfl, fun z hz => ?_, ?_⟩
          · rw [upd_ne (ne_of_none e hDC)]
            exact sq _ _ (sX _ _ e)
          · have kt := tup_updL (sq _ _ hX) (o := .lst (cc.map (fun z => V.ref z.1) ++ [V.ref qn]))
            rcases List.mem_append.mp hz with y1 | y1
            · obtain ⟨a1, a2, a3⟩ := hcc z y1
              exact ⟨a1, a2, kt _ _ (sq _ _ a3)⟩
            · rw [List.mem_singleton.mp y1]
              exact ⟨la, lb, kt _ _ upd_same⟩
          · rw [upd_same, List.map_append]
            rfl
        · obtain ⟨sC, cc, _, hcc, hC⟩ := z
          have sAll := (s4.trans (s9.trans sZ)).trans sC
          have tpC := tpB.same sAll
          refine ⟨DC, rfl, ⟨_, SqL.of hC⟩, for_list (K := K) (a := DC) (xs := cc.map fun z => V.ref z.1) (fun j σ H' => ∃ v13 v14 v15 v16 v17 v18 v19 v20, σ = [some (.ref a), some (.ref t), some (.int (0 + i)), some (.ref D), some (.ref p), some (.int ((x + y : Nat) : Int)), some (.int cap), some (.ref q2), some (.ref q4), some (.ref p4), some (.ref p5), some (.ref p6), some (.ref r), v13, v14, v15, v16, v17, v18, v19, v20] ∧ Same HC H') ⟨_, _, _, _, _, _, _, _, rfl, Same.refl _⟩ ?_ ?_ ?_⟩
          · rintro j σ H' _ ⟨_, _, _, _, _, _, _, _, _, sm'⟩
            exact SqL.of (sm' _ _ hC)
          · rintro j zz σ HJ hj ⟨v13, v14, v15, v16, v17, v18, v19, v20, rfl, sJ⟩
            rw [List.getElem?_map] at hj
            cases ej : cc[j]? with
            | none => rw [ej] at hj; cases hj
            | some q3 =>
              rw [ej] at hj
              cases hj
              obtain ⟨qn, aa, bb⟩ := q3
              obtain ⟨la, lb, hqn⟩ := hcc _ (List.mem_of_getElem? ej)
              have la : aa ≤ x := la
              have lb : bb ≤ y := lb
              have sB : Same HB HJ := sAll.trans sJ
              have hqn : HJ qn = some (.tup ([(aa : Int), (bb : Int)].map V.int)) := sJ _ _ hqn
              have hDJ := sB _ _ hDB
              have hpJ := sB _ _ hpB
              have s9J : Same H9 HJ := (sZ.trans sC).trans sJ
              have hc0 : atI ([(aa : Int), (bb : Int)].map V.int) 0 = some (.int aa) := at_of (j := 0) rfl rfl
              have hc1 : atI ([(aa : Int), (bb : Int)].map V.int) 1 = some (.int bb) := at_of (j := 1) rfl rfl
              have f1 : cutV (ms.map V.int) none (some (aa : Int)) = ((ms.take x).take aa).map V.int := by
                rw [cut_0j, List.map_take, List.map_take, List.take_take, Nat.min_eq_left la]
              have f2 : cutV (ms.map V.int) (some (x : Int)) (some ((x : Int) + (bb : Int))) = ((ms.drop x).take bb).map V.int := by
                rw [show (x : Int) + (bb : Int) = ((x + bb : Nat) : Int) from rfl, cut_ij, show x + bb - x = bb by omega, List.map_take, List.map_drop]
              refine ⟨_, rfl, _, rfl, qn, _, _, _, rfl, rfl, SqT.of hqn, hc0, _, rfl, p, _, rfl, SqL.of hpJ, fun q1 nq1 => ?_⟩
              rw [f1]
              have s1 := same_new (o := .lst (((ms.take x).take aa).map V.int)) nq1
              have hq1 : (upd HJ q1 (.lst (((ms.take x).take aa).map V.int))) q1 = some (.lst (((ms.take x).take aa).map V.int)) := upd_same
              generalize upd HJ q1 (.lst (((ms.take x).take aa).map V.int)) = K1 at s1 hq1 ⊢
              refine ⟨_, rfl, _, rfl, D, _, _, _, rfl, rfl, SqL.of (s1 _ _ hDJ), hat0, _, rfl, _, rfl, D, _, _, _, rfl, rfl, SqL.of (s1 _ _ hDJ), hat0, _, rfl, qn, _, _, _, rfl, rfl, SqT.of (s1 _ _ hqn), hc1, _, _, rfl, rfl, _, rfl, p, _, rfl, SqL.of (s1 _ _ hpJ), fun q2 nq2 => ?_⟩
              rw [f2]
              have s2 := same_new (o := .lst (((ms.drop x).take bb).map V.int)) nq2
              have hq2' : (upd K1 q2 (.lst (((ms.drop x).take bb).map V.int))) q2 = some (.lst (((ms.drop x).take bb).map V.int)) := upd_same
              have hq1 := s2 _ _ hq1
              have s2 := s1.trans s2
              generalize upd K1 q2 (.lst (((ms.drop x).take bb).map V.int)) = K2 at s2 hq1 hq2' ⊢
              refine ⟨q1, q2, _, _, rfl, rfl, hq1, hq2', by rw [List.length_map, List.length_map, List.length_take, List.length_take, List.length_take, List.length_drop]; omega, fun q5 nq5 => ?_⟩
              rw [← List.map_append]
              generalize eS : (ms.take x).take aa ++ (ms.drop x).take bb = S
              have s3 := s2.trans (same_new (o := .lst (S.map V.int)) nq5)
              have hq5 : (upd K2 q5 (.lst (S.map V.int))) q5 = some (.lst (S.map V.int)) := upd_same
              generalize upd K2 q5 (.lst (S.map V.int)) = K3 at s3 hq5 ⊢
              have s9K := s9J.trans s3
              -- the marks that are on
              refine ⟨_, rfl, _, rfl, p, rfl, ⟨_, SqL.of (s3 _ _ hpJ)⟩, fun D2 hD2 => lc_sel_list (fun x => match x with | .int m => decide (decide (m ∈ S) = decide (0 < m)) | _ => false) (fun x => match x with | .int m => V.int (ab m) | v => v) (SqL.of (s3 _ _ hpJ)) hD2 (by rw [List.length_map]; omega) (fun x0 hm => ?_) fun K4 s4 h4 => ?_⟩
              · obtain ⟨m, _, rfl⟩ := List.mem_map.mp hm
                refine ⟨rfl, fun Ha sa R g => ⟨_, rfl, _, rfl, q5, _, rfl, .inl (SqL.of (sa _ _ hq5)), rfl, flat_l S, _, rfl, _, _, rfl, rfl, rfl, ?_⟩, fun _ Ha sa R g => ⟨_, rfl, m, rfl, g Ha (Same.refl _)⟩⟩
                have e : decide (V.bl (if false = true then !inV (.int m) (S.map V.int) else inV (.int m) (S.map V.int)) = V.bl (decide (0 < m))) = decide (decide (m ∈ S) = decide (0 < m)) := by
                  rw [if_neg Bool.false_ne_true, inV_l]
                  exact decide_eq_decide.mpr ⟨fun z => V.bl.inj z, fun z => by rw [z]⟩
                have g : R (decide (decide (m ∈ S) = decide (0 < m))) Ha := g Ha (Same.refl _)
                rw [← e] at g
                exact ⟨_, rfl, g⟩
              rw [sel_ints (fun m => decide (decide (m ∈ S) = decide (0 < m))) ab] at h4
              have h4 : K4 D2 = some (.lst ((on0 ms S).map V.int)) := h4
              have s9K4 := s9K.trans s4
              have W2 : ∀ q ∈ qs, q.2.length ≤ 2 ∧ ∀ c ∈ q.2, c.length ≤ 2 := fun q hq => by
                obtain ⟨i, ei⟩ := List.mem_iff_getElem?.mp hq
                obtain ⟨_, a', b', hs, _⟩ := nq i q ei
                rcases hs with e | e <;> rw [e] <;> simp
              have lon : (on0 ms S).length ≤ 1000 := by
                unfold on0
                rw [List.length_map]
                have := List.length_filter_le (fun m => decide (decide (m ∈ S) = decide (0 < m))) ms
                omega
              have hN4 : ∀ HQ, Same H9 HQ → SqT K HQ p5 (ps.map V.ref) := fun HQ sq => .inl (.inr ⟨o, sq _ _ h5⟩)
              rw [ev] at tn
              refine ⟨p5, D2, ps.map V.ref, qs, on0 ms S, rfl, hN4 _ s9K4, fun HQ sq => hN4 HQ (s9K4.trans sq), tn.kt (KT.same s9K4), h4, lon, by omega, W2, fun K5 d5 s5 _ hd5 => ?_⟩
              have s9K5 := s9K4.trans s5
              have CS := counts_so (cap := cap) (xs := ms.take x) (ys := ms.drop x) (a := aa) (b := bb) f0 un2 small e60 (by omega) (by omega) nq eqn
              rw [List.take_append_drop, eS] at CS
              generalize qs.foldl nmd ((on0 ms S).foldl ins []) = on at CS hd5
              obtain ⟨_, outs_so, cls⟩ := CS
              -- what is due
              refine ⟨_, rfl, r, _, rfl, .inr (.inl (.inl (s9K5 _ _ hr))), _, rfl, by omega, by rw [List.length_map]; omega, fun D3 hD3 => lc_sel_range (lo := 0) (fun _ => true) (fun i => V.bl (decide (i < aa + bb))) hD3 (by rw [List.length_map]; omega) (fun i hi => ?_) fun K6 s6 h6 => ?_⟩
              · refine ⟨rfl, fun Ha sa R g => g Ha (Same.refl _), fun _ Ha sa R g => ⟨_, rfl, _, rfl, qn, _, rfl, SqT.of (sa _ _ (s5 _ _ (s4 _ _ (s3 _ _ hqn)))), _, _, rfl, rfl, ?_⟩⟩
                have g := g Ha (Same.refl _)
                have e : decide (0 + (i : Int) < ([(aa : Int), (bb : Int)] : List Int).sum) = decide (i < aa + bb) := decide_eq_decide.mpr (by
                  show 0 + (i : Int) < (aa : Int) + ((bb : Int) + 0) ↔ _
                  omega)
                rw [← e] at g
                exact g
              have s9K6 := s9K5.trans s6
              have e6 : ((List.range ((mrg (10 ^ (9 : Int).toNat + 1) 60 st00 (ms.take x) (ms.drop x) cap).2.map V.int).length).filter (fun _ => true)).map (fun i => V.bl (decide (i < aa + bb))) = (srt (aa + bb) (min cap ((ms.take x).length + (ms.drop x).length))).map V.bl := by
                rw [filter_all, List.length_map, nl]
                unfold srt
                rw [List.map_map]
                have en : min cap ((ms.take x).length + (ms.drop x).length) = min cap (x + y) := by rw [l1, l2]
                rw [en]
                rfl
              rw [Int.toNat_natCast, e6] at h6
              -- all clauses hold
              have t6K := t6.kt (KT.same s9K6)
              rw [net_form (f := 10 ^ (9 : Int).toNat + 1) f0 un2 small] at t6K
              obtain ⟨pc, xc, epc, hpc, tpc⟩ := tp_tup t6K
              obtain ⟨rc, rfl, rn, rt⟩ := csT_of (a := pc) tpc
              cases epc
              have cnz : ∀ c ∈ csOf (mrg (10 ^ (9 : Int).toNat + 1) 60 st00 (ms.take x) (ms.drop x) cap).1, c.any (so on) = true ∧ c.length ≤ 3 := fun c hc => by
                unfold csOf at hc
                obtain ⟨d', hd', rfl⟩ := List.mem_map.mp hc
                exact cl_any (cls d' hd')
              have lcs : (csOf (mrg (10 ^ (9 : Int).toNat + 1) 60 st00 (ms.take x) (ms.drop x) cap).1).length = (mrg (10 ^ (9 : Int).toNat + 1) 60 st00 (ms.take x) (ms.drop x) cap).1.cs.length := List.length_map _
              refine ⟨_, rfl, _, rfl, p6, d5, rc, _, on, rfl, hpc, rn, rt, s6 _ _ hd5, by omega, fun c hc => by have := (cnz c hc).2; omega, fun K7 s7 => ⟨_, rfl, ?_⟩⟩
              rw [List.all_eq_true.mpr fun c hc => (cnz c hc).1]
              refine iteF ?_
              refine ⟨_, rfl, r, rfl, ⟨_, SqT.of (s7 _ _ (s9K6 _ _ hr))⟩, fun D4 hD4 => lc_sel_tup (fun _ => true) (fun x => match x with | .int m => V.bl (so on m) | v => v) (SqT.of (s7 _ _ (s9K6 _ _ hr))) hD4 (by rw [List.length_map]; omega) (fun x0 hm => ?_) fun K8 s8 h8 => ?_⟩
              · obtain ⟨m, _, rfl⟩ := List.mem_map.mp hm
                exact ⟨rfl, fun Ha sa R g => g Ha (Same.refl _), fun _ Ha sa R g => ⟨_, rfl, _, rfl, d5, m, on, rfl, sa _ _ (s7 _ _ (s6 _ _ hd5)), g Ha (Same.refl _)⟩⟩
              rw [sel_bools, outs_so] at h8
              refine ⟨_, rfl, bools _, bools _, dp_bools h8, dp_bools (s8 _ _ (s7 _ _ h6)), shape_bools _, shape_bools _, _, rfl, ?_⟩
              rw [eqv_bools]
              exact iteF ⟨_, _, _, _, _, _, _, _, rfl, sJ.trans (s3.trans (s4.trans (s5.trans (s6.trans (s7.trans s8)))))⟩
          · rintro σ H' ⟨_, _, _, _, _, _, _, _, rfl, sm'⟩
            exact ⟨_, _, _, _, _, _, _, _, _, _, _, _, _, _, _, _, _, _, _, rfl, (tpC.same sm').le (by omega)⟩
theorem at_law {f : Addr} {fd : FuncData} (F : Fun K "law" "law" s_law f fd) {cs : Nat → Addr} (T : Top K mg cs) : RunAt P w K mg base f fd ["_law_script"] (spLaw K) :=
  have d := has_draw T
  have p := has_pick T d
  have so := has_so T
  (ok_law F T (has_begun T) d p (has_far T d p) (has_knot T (hi_net T) (hm_merged T (hm_high T (hm_name T)) 60)) so (has_named T so) (has_held T so)).at_ ⟨rfl, by decide, by decide⟩
end

theorem all_mk {l : PySem.W.OpenLaw} {w : World} {K : PySem.W.Frag} {h : Heap} {mg : Str → Option Value} {fa : Addr} (X : K.In h) (G : h.Ns mainGlobals mg) (hfa : mg "law" = some (.ref fa))
    {f0 : Addr} {od0 an0 : Option Addr} {sl0 : Array (Option Value)} {oc0 kV0 dc0 pm0 cd0 ct0 : Value}
    (a0 : PySem.W.nsIn K mainGlobals "net_knot" = some (some (.ref f0))) (l0 : K.lookup f0 = some ⟨oc0, od0, .func (PySem.W.fnOf "net_knot" "net_knot" (defArgs s_net_knot) (defBody s_net_knot) (defScope s_net_knot) .none kV0 dc0 pm0 an0 cd0 ct0), sl0⟩) (cc0 : PySem.W.codeIn K cd0 "net_knot" = true) (k0 : PySem.W.keepIn K (.ref f0) = true)
    {f1 : Addr} {od1 an1 : Option Addr} {sl1 : Array (Option Value)} {oc1 kV1 dc1 pm1 cd1 ct1 : Value}
    (a1 : PySem.W.nsIn K mainGlobals "_law_begun" = some (some (.ref f1))) (l1 : K.lookup f1 = some ⟨oc1, od1, .func (PySem.W.fnOf "_law_begun" "_law_begun" (defArgs s__law_begun) (defBody s__law_begun) (defScope s__law_begun) .none kV1 dc1 pm1 an1 cd1 ct1), sl1⟩) (cc1 : PySem.W.codeIn K cd1 "_law_begun" = true) (k1 : PySem.W.keepIn K (.ref f1) = true)
    {f2 : Addr} {od2 an2 : Option Addr} {sl2 : Array (Option Value)} {oc2 kV2 dc2 pm2 cd2 ct2 : Value}
    (a2 : PySem.W.nsIn K mainGlobals "_law_draw" = some (some (.ref f2))) (l2 : K.lookup f2 = some ⟨oc2, od2, .func (PySem.W.fnOf "_law_draw" "_law_draw" (defArgs s__law_draw) (defBody s__law_draw) (defScope s__law_draw) .none kV2 dc2 pm2 an2 cd2 ct2), sl2⟩) (cc2 : PySem.W.codeIn K cd2 "_law_draw" = true) (k2 : PySem.W.keepIn K (.ref f2) = true)
    {f3 : Addr} {od3 an3 : Option Addr} {sl3 : Array (Option Value)} {oc3 kV3 dc3 pm3 cd3 ct3 : Value}
    (a3 : PySem.W.nsIn K mainGlobals "_law_pick" = some (some (.ref f3))) (l3 : K.lookup f3 = some ⟨oc3, od3, .func (PySem.W.fnOf "_law_pick" "_law_pick" (defArgs s__law_pick) (defBody s__law_pick) (defScope s__law_pick) .none kV3 dc3 pm3 an3 cd3 ct3), sl3⟩) (cc3 : PySem.W.codeIn K cd3 "_law_pick" = true) (k3 : PySem.W.keepIn K (.ref f3) = true)
    {f4 : Addr} {od4 an4 : Option Addr} {sl4 : Array (Option Value)} {oc4 kV4 dc4 pm4 cd4 ct4 : Value}
    (a4 : PySem.W.nsIn K mainGlobals "_law_marks" = some (some (.ref f4))) (l4 : K.lookup f4 = some ⟨oc4, od4, .func (PySem.W.fnOf "_law_marks" "_law_marks" (defArgs s__law_marks) (defBody s__law_marks) (defScope s__law_marks) .none kV4 dc4 pm4 an4 cd4 ct4), sl4⟩) (cc4 : PySem.W.codeIn K cd4 "_law_marks" = true) (k4 : PySem.W.keepIn K (.ref f4) = true)
    {f5 : Addr} {od5 an5 : Option Addr} {sl5 : Array (Option Value)} {oc5 kV5 dc5 pm5 cd5 ct5 : Value}
    (a5 : PySem.W.nsIn K mainGlobals "_law_is_so" = some (some (.ref f5))) (l5 : K.lookup f5 = some ⟨oc5, od5, .func (PySem.W.fnOf "_law_is_so" "_law_is_so" (defArgs s__law_is_so) (defBody s__law_is_so) (defScope s__law_is_so) .none kV5 dc5 pm5 an5 cd5 ct5), sl5⟩) (cc5 : PySem.W.codeIn K cd5 "_law_is_so" = true) (k5 : PySem.W.keepIn K (.ref f5) = true)
    {f6 : Addr} {od6 an6 : Option Addr} {sl6 : Array (Option Value)} {oc6 kV6 dc6 pm6 cd6 ct6 : Value}
    (a6 : PySem.W.nsIn K mainGlobals "_law_named" = some (some (.ref f6))) (l6 : K.lookup f6 = some ⟨oc6, od6, .func (PySem.W.fnOf "_law_named" "_law_named" (defArgs s__law_named) (defBody s__law_named) (defScope s__law_named) .none kV6 dc6 pm6 an6 cd6 ct6), sl6⟩) (cc6 : PySem.W.codeIn K cd6 "_law_named" = true) (k6 : PySem.W.keepIn K (.ref f6) = true)
    {f7 : Addr} {od7 an7 : Option Addr} {sl7 : Array (Option Value)} {oc7 kV7 dc7 pm7 cd7 ct7 : Value}
    (a7 : PySem.W.nsIn K mainGlobals "_law_is_held" = some (some (.ref f7))) (l7 : K.lookup f7 = some ⟨oc7, od7, .func (PySem.W.fnOf "_law_is_held" "_law_is_held" (defArgs s__law_is_held) (defBody s__law_is_held) (defScope s__law_is_held) .none kV7 dc7 pm7 an7 cd7 ct7), sl7⟩) (cc7 : PySem.W.codeIn K cd7 "_law_is_held" = true) (k7 : PySem.W.keepIn K (.ref f7) = true)
    {f8 : Addr} {od8 an8 : Option Addr} {sl8 : Array (Option Value)} {oc8 kV8 dc8 pm8 cd8 ct8 : Value}
    (a8 : PySem.W.nsIn K mainGlobals "law" = some (some (.ref f8))) (l8 : K.lookup f8 = some ⟨oc8, od8, .func (PySem.W.fnOf "law" "law" (defArgs s_law) (defBody s_law) (defScope s_law) .none kV8 dc8 pm8 an8 cd8 ct8), sl8⟩) (cc8 : PySem.W.codeIn K cd8 "law" = true) (k8 : PySem.W.keepIn K (.ref f8) = true)
    {C0 : Addr} (gx0 : PySem.W.nsIn K mainGlobals "Net" = some (some (.ref C0))) (pg0 : PySem.W.plainGet K C0 Str.empty = true) (hd0 : PySem.W.hasDictIn K C0 = true) (po0 : PySem.W.plainOver K C0 = true) (sa0 : PySem.W.findIn K (.ref C0) "__setattr__" = some (some (.builtin "object.__setattr__"))) (mk0 : PySem.W.makesIn K C0 = true) (kc0 : PySem.W.keepIn K (.ref C0) = true)
    {G0_0 : Addr} {mod0_0 man0_0 : Option Addr} {msl0_0 : Array (Option Value)} {moc0_0 mkV0_0 mdc0_0 mpm0_0 mcd0_0 mct0_0 : Value}
    (mf0_0 : PySem.W.findIn K (.ref C0) "__init__" = some (some (.ref G0_0))) (mi0_0 : PySem.W.isFn K (.ref G0_0) = true) (ml0_0 : K.lookup G0_0 = some ⟨moc0_0, mod0_0, .func (PySem.W.fnOf "__init__" "Net.__init__" (defArgs s_Net___init__) (defBody s_Net___init__) (defScope s_Net___init__) .none mkV0_0 mdc0_0 mpm0_0 man0_0 mcd0_0 mct0_0), msl0_0⟩) (mc0_0 : PySem.W.codeIn K mcd0_0 "Net.__init__" = true) (mq0_0 : PySem.W.keepIn K (.ref G0_0) = true)
    {G0_1 : Addr} {mod0_1 man0_1 : Option Addr} {msl0_1 : Array (Option Value)} {moc0_1 mkV0_1 mdc0_1 mpm0_1 mcd0_1 mct0_1 : Value}
    (mf0_1 : PySem.W.findIn K (.ref C0) "merged" = some (some (.ref G0_1))) (mi0_1 : PySem.W.isFn K (.ref G0_1) = true) (ml0_1 : K.lookup G0_1 = some ⟨moc0_1, mod0_1, .func (PySem.W.fnOf "merged" "Net.merged" (defArgs s_Net_merged) (defBody s_Net_merged) (defScope s_Net_merged) .none mkV0_1 mdc0_1 mpm0_1 man0_1 mcd0_1 mct0_1), msl0_1⟩) (mc0_1 : PySem.W.codeIn K mcd0_1 "Net.merged" = true) (mq0_1 : PySem.W.keepIn K (.ref G0_1) = true)
    {G0_2 : Addr} {mod0_2 man0_2 : Option Addr} {msl0_2 : Array (Option Value)} {moc0_2 mkV0_2 mdc0_2 mpm0_2 mcd0_2 mct0_2 : Value}
    (mf0_2 : PySem.W.findIn K (.ref C0) "_high_and_low" = some (some (.ref G0_2))) (mi0_2 : PySem.W.isFn K (.ref G0_2) = true) (ml0_2 : K.lookup G0_2 = some ⟨moc0_2, mod0_2, .func (PySem.W.fnOf "_high_and_low" "Net._high_and_low" (defArgs s_Net__high_and_low) (defBody s_Net__high_and_low) (defScope s_Net__high_and_low) .none mkV0_2 mdc0_2 mpm0_2 man0_2 mcd0_2 mct0_2), msl0_2⟩) (mc0_2 : PySem.W.codeIn K mcd0_2 "Net._high_and_low" = true) (mq0_2 : PySem.W.keepIn K (.ref G0_2) = true)
    {G0_3 : Addr} {mod0_3 man0_3 : Option Addr} {msl0_3 : Array (Option Value)} {moc0_3 mkV0_3 mdc0_3 mpm0_3 mcd0_3 mct0_3 : Value}
    (mf0_3 : PySem.W.findIn K (.ref C0) "_name" = some (some (.ref G0_3))) (mi0_3 : PySem.W.isFn K (.ref G0_3) = true) (ml0_3 : K.lookup G0_3 = some ⟨moc0_3, mod0_3, .func (PySem.W.fnOf "_name" "Net._name" (defArgs s_Net__name) (defBody s_Net__name) (defScope s_Net__name) .none mkV0_3 mdc0_3 mpm0_3 man0_3 mcd0_3 mct0_3), msl0_3⟩) (mc0_3 : PySem.W.codeIn K mcd0_3 "Net._name" = true) (mq0_3 : PySem.W.keepIn K (.ref G0_3) = true)
    (na0_0 : PySem.W.findIn K (.ref C0) "_first" = some none)
    (na0_1 : PySem.W.findIn K (.ref C0) "named" = some none)
    (na0_2 : PySem.W.findIn K (.ref C0) "said" = some none)
    (z0 : PySem.W.nsIn K mainGlobals "tuple" = some none)
    (z1 : PySem.W.nsIn K mainGlobals "len" = some none)
    (z2 : PySem.W.nsIn K mainGlobals "range" = some none)
    (z3 : PySem.W.nsIn K mainGlobals "abs" = some none)
    (z4 : PySem.W.nsIn K mainGlobals "dict" = some none)
    (z5 : PySem.W.nsIn K mainGlobals "sum" = some none)
    (z6 : PySem.W.nsIn K mainGlobals "sorted" = some none)
    (z7 : PySem.W.nsIn K mainGlobals "min" = some none)
    : ∃ fd : FuncData, (∀ (s : Shared) (v : Value), BindsTo s fd ⟨[v], []⟩ [("_law_script", v)]) ∧ ∀ base : Heap, K.In base → base.Ns mainGlobals mg → RunAt l.prog w K mg base fa fd ["_law_script"] (spLaw K) := by
  have e := hfa.symm.trans (PySem.W.mg_of X G a8)
  cases e
  have T : Top K mg (fun i => [C0].getD i 0) := ⟨⟨⟨_, _, PySem.W.mg_of X G a0, fun_mk (st := s_net_knot) l0 cc0 k0⟩⟩, ⟨⟨_, _, PySem.W.mg_of X G a1, fun_mk (st := s__law_begun) l1 cc1 k1⟩⟩, ⟨⟨_, _, PySem.W.mg_of X G a2, fun_mk (st := s__law_draw) l2 cc2 k2⟩⟩, ⟨⟨_, _, PySem.W.mg_of X G a3, fun_mk (st := s__law_pick) l3 cc3 k3⟩⟩, ⟨⟨_, _, PySem.W.mg_of X G a4, fun_mk (st := s__law_marks) l4 cc4 k4⟩⟩, ⟨⟨_, _, PySem.W.mg_of X G a5, fun_mk (st := s__law_is_so) l5 cc5 k5⟩⟩, ⟨⟨_, _, PySem.W.mg_of X G a6, fun_mk (st := s__law_named) l6 cc6 k6⟩⟩, ⟨⟨_, _, PySem.W.mg_of X G a7, fun_mk (st := s__law_is_held) l7 cc7 k7⟩⟩, ⟨⟨_, _, PySem.W.mg_of X G a8, fun_mk (st := s_law) l8 cc8 k8⟩⟩, PySem.W.mg_of X G gx0, ⟨pg0, hd0, po0, sa0⟩, ⟨⟨_, _, ⟨mk0, mf0_0, mi0_0, kc0⟩, fun_mk (st := s_Net___init__) ml0_0 mc0_0 mq0_0⟩⟩, ⟨⟨_, _, ⟨mf0_1, mi0_1, mq0_1⟩, fun_mk (st := s_Net_merged) ml0_1 mc0_1 mq0_1⟩⟩, ⟨⟨_, _, ⟨mf0_2, mi0_2, mq0_2⟩, fun_mk (st := s_Net__high_and_low) ml0_2 mc0_2 mq0_2⟩⟩, ⟨⟨_, _, ⟨mf0_3, mi0_3, mq0_3⟩, fun_mk (st := s_Net__name) ml0_3 mc0_3 mq0_3⟩⟩, na0_0, na0_1, na0_2, PySem.W.mg_none_of X G z0, PySem.W.mg_none_of X G z1, PySem.W.mg_none_of X G z2, PySem.W.mg_none_of X G z3, PySem.W.mg_none_of X G z4, PySem.W.mg_none_of X G z5, PySem.W.mg_none_of X G z6, PySem.W.mg_none_of X G z7⟩
  exact ⟨_, fun s v => .of_eq rfl, fun base _ _ => at_law (fun_mk (st := s_law) l8 cc8 k8) T⟩
end Mc
open PySem PySem.W PyProof.Rows
set_option maxRecDepth 100000 in
set_option maxHeartbeats 0 in
theorem PySem.Challenge.cw_mostclauses_k21_nets_mean_counts_holds : PySem.Challenge.rw_mostclauses_k21_nets_mean_counts.Holds := by
  w_on; o_law; k_head; (case hw => w_witness2)
  k_fill
  refine Mc.walk_at (l := PySem.Challenge.rw_mostclauses_k21_nets_mean_counts) (n := 63) (x := "_law_script") (sp := fun w => Mc.spLaw _) rfl (by decide) rfl (fun w h Y => PySem.W.kIn_of Y) ?F (fun _ _ a ns hl _ hS => ⟨a, ns, rfl, hS, hl, fun _ => rfl⟩)
  case F =>
    intro w mg fa h KX G hmg
    refine' Mc.all_mk KX G hmg ?a0 ?l0 ?cc0 ?k0 ?a1 ?l1 ?cc1 ?k1 ?a2 ?l2 ?cc2 ?k2 ?a3 ?l3 ?cc3 ?k3 ?a4 ?l4 ?cc4 ?k4 ?a5 ?l5 ?cc5 ?k5 ?a6 ?l6 ?cc6 ?k6 ?a7 ?l7 ?cc7 ?k7 ?a8 ?l8 ?cc8 ?k8 ?gx0 ?pg0 ?hd0 ?po0 ?sa0 ?mk0 ?kc0 ?mf0_0 ?mi0_0 ?ml0_0 ?mc0_0 ?mq0_0 ?mf0_1 ?mi0_1 ?ml0_1 ?mc0_1 ?mq0_1 ?mf0_2 ?mi0_2 ?ml0_2 ?mc0_2 ?mq0_2 ?mf0_3 ?mi0_3 ?ml0_3 ?mc0_3 ?mq0_3 ?na0_0 ?na0_1 ?na0_2 ?z0 ?z1 ?z2 ?z3 ?z4 ?z5 ?z6 ?z7
    (case a0 => k_is)
    (case l0 => k_is)
    (case cc0 => k_is)
    (case k0 => k_is)
    (case a1 => k_is)
    (case l1 => k_is)
    (case cc1 => k_is)
    (case k1 => k_is)
    (case a2 => k_is)
    (case l2 => k_is)
    (case cc2 => k_is)
    (case k2 => k_is)
    (case a3 => k_is)
    (case l3 => k_is)
    (case cc3 => k_is)
    (case k3 => k_is)
    (case a4 => k_is)
    (case l4 => k_is)
    (case cc4 => k_is)
    (case k4 => k_is)
    (case a5 => k_is)
    (case l5 => k_is)
    (case cc5 => k_is)
    (case k5 => k_is)
    (case a6 => k_is)
    (case l6 => k_is)
    (case cc6 => k_is)
    (case k6 => k_is)
    (case a7 => k_is)
    (case l7 => k_is)
    (case cc7 => k_is)
    (case k7 => k_is)
    (case a8 => k_is)
    (case l8 => k_is)
    (case cc8 => k_is)
    (case k8 => k_is)
    (case gx0 => k_is)
    (case pg0 => k_is)
    (case hd0 => k_is)
    (case po0 => k_is)
    (case sa0 => k_is)
    (case mk0 => k_is)
    (case kc0 => k_is)
    (case mf0_0 => k_is)
    (case mi0_0 => k_is)
    (case ml0_0 => k_is)
    (case mc0_0 => k_is)
    (case mq0_0 => k_is)
    (case mf0_1 => k_is)
    (case mi0_1 => k_is)
    (case ml0_1 => k_is)
    (case mc0_1 => k_is)
    (case mq0_1 => k_is)
    (case mf0_2 => k_is)
    (case mi0_2 => k_is)
    (case ml0_2 => k_is)
    (case mc0_2 => k_is)
    (case mq0_2 => k_is)
    (case mf0_3 => k_is)
    (case mi0_3 => k_is)
    (case ml0_3 => k_is)
    (case mc0_3 => k_is)
    (case mq0_3 => k_is)
    (case na0_0 => k_is)
    (case na0_1 => k_is)
    (case na0_2 => k_is)
    (case z0 => k_is)
    (case z1 => k_is)
    (case z2 => k_is)
    (case z3 => k_is)
    (case z4 => k_is)
    (case z5 => k_is)
    (case z6 => k_is)
    (case z7 => k_is)
