import PyProof.Rows.All
import Wide.All
import OpenK.AllK
import Wide.FinOn
import HandS.ForMost
import HandS.Flow
import HandS.Wide
import HandS.Small
import HandS.Style
import HandS.IsInst
import HandS.RaiseMore
import HandS.Codes
import HandS.TupAny
import HandS.Conv
import HandS.TupMul
import HandS.WideBits
import HandS.DictComp
import HandS.Iter
import HandS.Zip
import HandS.SetBool
import HandS.Strs
import HandS.SetFor
import PySem.Challenge.RW_mostclauses_k39_plain_or_not
set_option Elab.async false
set_option linter.all false
set_option maxRecDepth 100000
set_option maxHeartbeats 4000000
namespace Mc
open PySem PySem.Spec PyProof.Rows L2
/-! ### the text by places -/
def top (i : Nat) : Stmt := PySem.Challenge.pw_mostclauses_k39_plain_or_not.main.body.getD i (.Pass ⟨0, 0, 0, 0⟩)

abbrev s_first_unlike : Stmt := top 1
abbrev nm_first_unlike : List Str := ["marks", "most", "clauses", "having", "held", "clause", "holds", "mark", "unlike", "setting", "place"]
theorem sc_first_unlike : FnScope nm_first_unlike ["marks", "most", "clauses"] (defScope s_first_unlike) := ⟨rfl, rfl, rfl, by decide +kernel, rfl, by decide +kernel, by decide +kernel⟩
abbrev s__settings_having : Stmt := top 2
abbrev nm__settings_having : List Str := ["marks", "having", "many", "mark", "one", "settings"]
theorem sc__settings_having : FnScope nm__settings_having ["marks"] (defScope s__settings_having) := ⟨rfl, rfl, rfl, by decide +kernel, rfl, by decide +kernel, by decide +kernel⟩
abbrev s__settings_at_most : Stmt := top 3
abbrev nm__settings_at_most : List Str := ["size", "most", "exactly", "many", "_", "off", "on"]
theorem sc__settings_at_most : FnScope nm__settings_at_most ["size", "most"] (defScope s__settings_at_most) := ⟨rfl, rfl, rfl, by decide +kernel, rfl, by decide +kernel, by decide +kernel⟩
abbrev s__law_begun : Stmt := top 5
abbrev nm__law_begun : List Str := ["_law_script"]
theorem sc__law_begun : FnScope nm__law_begun ["_law_script"] (defScope s__law_begun) := ⟨rfl, rfl, rfl, by decide +kernel, rfl, by decide +kernel, by decide +kernel⟩
abbrev s__law_draw : Stmt := top 6
abbrev nm__law_draw : List Str := ["_law_tape", "_law_many", "_law_spot", "_law_most", "_law_cell", "_law_found"]
theorem sc__law_draw : FnScope nm__law_draw ["_law_tape", "_law_many"] (defScope s__law_draw) := ⟨rfl, rfl, rfl, by decide +kernel, rfl, by decide +kernel, by decide +kernel⟩
abbrev s__law_pick : Stmt := top 7
abbrev nm__law_pick : List Str := ["_law_tape", "_law_some"]
theorem sc__law_pick : FnScope nm__law_pick ["_law_tape", "_law_some"] (defScope s__law_pick) := ⟨rfl, rfl, rfl, by decide +kernel, rfl, by decide +kernel, by decide +kernel⟩
abbrev s__law_marks : Stmt := top 8
abbrev nm__law_marks : List Str := ["_law_tape", "_law_many", "_law_by", "_law_leap", "_law_first", "_law_names", "_law_signs", "_law_name", "_law_k"]
theorem sc__law_marks : FnScope nm__law_marks ["_law_tape", "_law_many"] (defScope s__law_marks) := ⟨rfl, rfl, rfl, by decide +kernel, rfl, by decide +kernel, by decide +kernel⟩
abbrev s__law_settings : Stmt := top 9
abbrev nm__law_settings : List Str := ["_law_marks_here", "_law_found", "_law_mark", "_law_some"]
theorem sc__law_settings : FnScope nm__law_settings ["_law_marks_here"] (defScope s__law_settings) := ⟨rfl, rfl, rfl, by decide +kernel, rfl, by decide +kernel, by decide +kernel⟩
abbrev s__law_is_unlike : Stmt := top 10
abbrev nm__law_is_unlike : List Str := ["_law_marks_here", "_law_most", "_law_clauses", "_law_some", "_law_on", "_law_clause", "_law_mark"]
theorem sc__law_is_unlike : FnScope nm__law_is_unlike ["_law_marks_here", "_law_most", "_law_clauses", "_law_some"] (defScope s__law_is_unlike) := ⟨rfl, rfl, rfl, by decide +kernel, rfl, by decide +kernel, by decide +kernel⟩
abbrev s__law_bent : Stmt := top 11
abbrev nm__law_bent : List Str := ["_law_tape", "_law_marks_here", "_law_clauses", "_law_way", "_law_at", "_law_here", "_law_mark", "_law_part", "_law_bare", "_law_some", "_law_one"]
theorem sc__law_bent : FnScope nm__law_bent ["_law_tape", "_law_marks_here", "_law_clauses"] (defScope s__law_bent) := ⟨rfl, rfl, rfl, by decide +kernel, rfl, by decide +kernel, by decide +kernel⟩
abbrev s__law_drawn : Stmt := top 12
abbrev nm__law_drawn : List Str := ["_law_tape", "_law_marks_here", "_law_found", "_law_k", "_law_left", "_law_clause", "_law_wide"]
theorem sc__law_drawn : FnScope nm__law_drawn ["_law_tape", "_law_marks_here"] (defScope s__law_drawn) := ⟨rfl, rfl, rfl, by decide +kernel, rfl, by decide +kernel, by decide +kernel⟩
abbrev s_law : Stmt := top 13
abbrev nm_law : List Str := ["_law_script", "_law_tape", "_law_turn", "_law_way", "_law_bends", "_law_many", "_law_most", "_law_marks_here", "_law_all_on", "_law_clauses", "_law_left", "_law_part", "_law_again", "_law_handed", "_law_found", "_law_some", "_law_clause", "_law_k", "_law_mark"]
theorem sc_law : FnScope nm_law ["_law_script"] (defScope s_law) := ⟨rfl, rfl, rfl, by decide +kernel, rfl, by decide +kernel, by decide +kernel⟩
/-! ### a def that stands in the top and keeps a promise -/
structure At (K : PySem.W.Frag) (mg : Str → Option Value) (x : Str) (st : Stmt) : Prop where
  ex : ∃ f fd, mg x = some (.ref f) ∧ Fun K x x st f fd
structure Has (P : Program) (w : World) (K : PySem.W.Frag) (mg : Str → Option Value) (base : Heap) (k : Nat) (x : Str) (ps : List Str) (sp : Sp) : Prop where
  ex : ∃ f fd, mg x = some (.ref f) ∧ PySem.W.keepIn K (.ref f) = true ∧ Binds K fd ps [] ∧ FnOk P w K mg base CX0 k f fd ps sp
theorem pe_has {X : Cx} {k : Nat} {x : Str} {ps : List Str} {sp : Sp} {e : Expr} {es : List Expr} {t : TA} {p pos : Pos} (h : Has X.prog X.w X.K X.mg X.base k x ps sp) (hr : Room k X.A) (hg : Gl X x) (ha : PA X (e :: es) t)
    (hdb : (x == ("__debug__" : Str)) = false := by decide) (he : starEach (e :: es) X.env = (false, eval e X.env) :: starEach es X.env := by rfl) (hpl : (backTo pos (starEach es X.env)).any (·.1) = false := by rfl) :
    PE X (.Call (.Name x p) (e :: es) [] pos) (tCall sp [] E0 t) := by
  obtain ⟨f, fd, hm, hk, hb, F⟩ := h.ex
  exact pe_call F hr hg hm hk hb .nil pass0 ha hdb he hpl
abbrev BindsAll (x : Str) (st : Stmt) (ps : List Str) : Prop :=
  ∀ (kV doc pm : Value) (an : Option Addr) (cdv ct : Value) (us : List Value), us.length = ps.length → bindArgs (PySem.W.fnOf x x (defArgs st) (defBody st) (defScope st) .none kV doc pm an cdv ct) ⟨us, []⟩ = pure (ps.zip us)
section
variable {P : Program} {w : World} {K : PySem.W.Frag} {mg : Str → Option Value} {base : Heap}
theorem has_of {x : Str} {st : Stmt} {N ps : List Str} {k : Nat} {sp : Sp} (A : At K mg x st) (S : FnScope N ps (defScope st)) (B : BindsAll x st ps) (len : ∀ vs H Q E, sp vs H Q E → vs.length = ps.length)
    (hbody : ∀ (f : Addr) (cdv : Value) (A : Around) (outer : List Env) (s : Shared) (H : Hp) (vs : List V) (Q : VK) (E : XK), Room k (A.deeper (envOfC x (defScope st) s.heap.objs.size f cdv)) → sp vs H Q E →
      ∃ t, PSs (cxOf CX0 P w K mg base N x (defScope st) f cdv A outer s H E).nox (defBody st) t ∧ t { nx := fun _ H' => Q .non H', rt := Q } (start N vs) H) : Has P w K mg base (k + 1) x ps sp := by
  obtain ⟨f, fd, hm, F⟩ := A.ex
  exact ⟨f, fd, hm, F.kp, F.binds B, F.ok S len fun cdv A outer s H vs Q E hr h => hbody f cdv A outer s H vs Q E hr h⟩
end
theorem pe_const {X : Cx} {x : Str} {i : Int} {pos : Pos} (hm : ∃ t, X.mg x = some (.int i t)) (hg : Gl X x) (hd : (x == ("__debug__" : Str)) = false := by decide) : PE X (.Name x pos) (tC (.int i)) := by
  obtain ⟨t, hm⟩ := hm
  exact pe_glob hg hm ⟨t, rfl⟩ hd
/-! ### repr of a truth -/
def boolText (b : Bool) : Str := if b then "True" else "False"
theorem boolText_inj {a b : Bool} (h : boolText a = boolText b) : a = b := by
  cases a <;> cases b <;> first | rfl | exact absurd h (by decide +kernel)
theorem call_repr_bool {X : Cx} : CallR X (.builtin "repr") (fun xs H Q => ∃ b, xs = [.bl b] ∧ Q (.str (boolText b)) H) := by
  intro pins s σ H xs us Q I r h
  obtain ⟨b, rfl, q⟩ := h
  obtain ⟨u, rfl, ru⟩ := vals1 r
  cases ru
  cases b with
  | true => exact PySem.P.repr_of_bool ⟨.str (boolText true), H, I.tok _, ⟨_, rfl⟩, q⟩
  | false => exact PySem.P.repr_of_bool ⟨.str (boolText false), H, I.tok _, ⟨_, rfl⟩, q⟩
/-! ### heaps -/
/-- all that is known stays, but for what stands at t -/
def Kp (t : Addr) (H H' : Hp) : Prop := ∀ b o, H b = some o → b ≠ t → H' b = some o
theorem Kp.refl {t : Addr} (H : Hp) : Kp t H H := fun _ _ h _ => h
theorem Kp.trans {t : Addr} {H H1 H2 : Hp} (a : Kp t H H1) (b : Kp t H1 H2) : Kp t H H2 := fun c o h n => b c o (a c o h n) n
theorem Kp.new {t p : Addr} {H : Hp} {o : HO} (h : H p = none) : Kp t H (upd H p o) := fun b u e _ => by
  rw [upd_ne (ne_of_none e h)]
  exact e
theorem Kp.at {t : Addr} {H : Hp} {o : HO} : Kp t H (upd H t o) := fun b u e n => by
  rw [upd_ne n]
  exact e
theorem Kp.same {t : Addr} {H H' : Hp} (s : Same H H') : Kp t H H' := fun b o e _ => s b o e
theorem same_new {H : Hp} {p : Addr} {o : HO} (h : H p = none) : Same H (upd H p o) := fun b u e => by
  rw [upd_ne (ne_of_none e h)]
  exact e
/-! ### the tape -/
def tk (c : Addr) (spot left : Int) : List (Key × V) := [(.inr "cells", .ref c), (.inr "spot", .int spot), (.inr "left", .int left)]
structure TapeC (H : Hp) (t c : Addr) (ns : List Int) (spot left : Int) : Prop where
  d : H t = some (.dK (tk c spot left))
  l : H c = some (.lst (ns.map V.int))
  ne : 0 < ns.length
  lt : ns.length ≤ 63
  s0 : 0 ≤ spot
  l0 : 0 ≤ left
/-- a tape at t, its cells at c, of which at most n draws are taken -/
def Tape (H : Hp) (t c : Addr) (n : Nat) : Prop := ∃ ns spot left, TapeC H t c ns spot left ∧ spot ≤ n
theorem Tape.ne {H : Hp} {t c : Addr} {n : Nat} (h : Tape H t c n) : t ≠ c := by
  obtain ⟨ns, spot, left, h, _⟩ := h
  exact ne_of h.d h.l (by intro z; cases z)
theorem Tape.le {H : Hp} {t c : Addr} {n m : Nat} (h : Tape H t c n) (l : n ≤ m) : Tape H t c m := by
  obtain ⟨ns, spot, left, h, e⟩ := h
  exact ⟨ns, spot, left, h, by omega⟩
theorem Tape.stay {H H' : Hp} {t c : Addr} {n : Nat} (h : Tape H t c n) (k : ∀ b o, H b = some o → b = t ∨ b = c → H' b = some o) : Tape H' t c n := by
  obtain ⟨ns, spot, left, h, e⟩ := h
  exact ⟨ns, spot, left, ⟨k _ _ h.d (.inl rfl), k _ _ h.l (.inr rfl), h.ne, h.lt, h.s0, h.l0⟩, e⟩
theorem Tape.same {H H' : Hp} {t c : Addr} {n : Nat} (h : Tape H t c n) (s : Same H H') : Tape H' t c n := h.stay fun b o e _ => s b o e
theorem Tape.new {H : Hp} {t c p : Addr} {n : Nat} {o : HO} (h : Tape H t c n) (hp : H p = none) : Tape (upd H p o) t c n := h.same (same_new hp)
theorem Tape.at_t {H : Hp} {t c : Addr} {n : Nat} (h : Tape H t c n) : ∃ o, H t = some o := by
  obtain ⟨ns, spot, left, h, _⟩ := h
  exact ⟨_, h.d⟩
theorem Tape.at_c {H : Hp} {t c : Addr} {n : Nat} (h : Tape H t c n) : ∃ o, H c = some o := by
  obtain ⟨ns, spot, left, h, _⟩ := h
  exact ⟨_, h.l⟩
theorem k_cells : ¬ (("cells" : Str) = "spot") := by decide +kernel
theorem k_cells2 : ¬ (("cells" : Str) = "left") := by decide +kernel
theorem k_spot : ¬ (("spot" : Str) = "left") := by decide +kernel
theorem tk_cells (c : Addr) (a b : Int) : valV (tk c a b) (Sum.inr "cells" : Key) = some (.ref c) := valV_pos rfl
theorem tk_spot (c : Addr) (a b : Int) : valV (tk c a b) (Sum.inr "spot" : Key) = some (.int a) := by
  unfold tk
  rw [valV_neg (fun e => k_cells (Sum.inr.inj e)), valV_pos rfl]
theorem tk_left (c : Addr) (a b : Int) : valV (tk c a b) (Sum.inr "left" : Key) = some (.int b) := by
  unfold tk
  rw [valV_neg (fun e => k_cells2 (Sum.inr.inj e)), valV_neg (fun e => k_spot (Sum.inr.inj e)), valV_pos rfl]
theorem tk_put_spot (c : Addr) (a b x : Int) : putK (tk c a b) (Sum.inr "spot" : Key) (.int x) = tk c x b := by
  rfl
theorem tk_put_left (c : Addr) (a b x : Int) : putK (tk c a b) (Sum.inr "left" : Key) (.int x) = tk c a x := by
  rfl
theorem dg_cells {H : Hp} {t c : Addr} {a b : Int} (h : H t = some (.dK (tk c a b))) : DGet H t (.str "cells") (some (.ref c)) := by
  have g := DGet.k (k := (Sum.inr "cells" : Key)) h
  rw [tk_cells] at g
  exact g
theorem dg_spot {H : Hp} {t c : Addr} {a b : Int} (h : H t = some (.dK (tk c a b))) : DGet H t (.str "spot") (some (.int a)) := by
  have g := DGet.k (k := (Sum.inr "spot" : Key)) h
  rw [tk_spot] at g
  exact g
theorem dg_left {H : Hp} {t c : Addr} {a b : Int} (h : H t = some (.dK (tk c a b))) : DGet H t (.str "left") (some (.int b)) := by
  have g := DGet.k (k := (Sum.inr "left" : Key)) h
  rw [tk_left] at g
  exact g
theorem dp_spot {H : Hp} {t c : Addr} {a b : Int} (x : Int) (h : H t = some (.dK (tk c a b))) : DPut H t (.str "spot") (.int x) (upd H t (.dK (tk c x b))) := by
  have g := DPut.k (k := (Sum.inr "spot" : Key)) (v := .int x) h (small1000 (by show 3 ≤ 1000; decide))
  rw [tk_put_spot] at g
  exact g
theorem dp_left {H : Hp} {t c : Addr} {a b : Int} (x : Int) (h : H t = some (.dK (tk c a b))) : DPut H t (.str "left") (.int x) (upd H t (.dK (tk c a x))) := by
  have g := DPut.k (k := (Sum.inr "left" : Key)) (v := .int x) h (small1000 (by show 3 ≤ 1000; decide))
  rw [tk_put_left] at g
  exact g
theorem Tape.fresh {H : Hp} {t c p : Addr} {n : Nat} (h : Tape H t c n) (hp : H p = none) : p ≠ t := by
  obtain ⟨o, e⟩ := h.at_t
  exact (ne_of_none e hp).symm
theorem Tape.fresh_c {H : Hp} {t c p : Addr} {n : Nat} (h : Tape H t c n) (hp : H p = none) : p ≠ c := by
  obtain ⟨o, e⟩ := h.at_c
  exact (ne_of_none e hp).symm
/-! ### a list beside the empty list -/
section
variable {X : Cx}
def rEqNil (K : PySem.W.Frag) (neg : Bool) : R2 := fun x y H Q => ∃ a b xs, x = .ref a ∧ y = .ref b ∧ SqL K H a xs ∧ SqL K H b [] ∧ Q (.bl (if neg = true then !xs.isEmpty else xs.isEmpty)) H
theorem op_eqNil (hu : X.A.units + 1 < cLine) : OpR X (compareOp .Eq) (rEqNil X.K false) := by
  intro pins s σ H x y v u Q I rx ry h
  obtain ⟨a, b, xs, rfl, rfl, ha, hb, q⟩ := h
  cases rx
  cases ry
  obtain ⟨us, vs, pl, _⟩ := I.list ha
  obtain ⟨ws, vs2, pl2, _⟩ := I.list hb
  cases vs2
  have l := vs.length
  cases xs with
  | nil =>
    cases vs
    exact SeqAt.RcAt.lists (e := fun _ => true) pl.isList pl2.isList rfl (by omega) (fun j h1 => absurd h1 (Nat.not_lt_zero _)) _ _ _ _ ⟨.bl true, H, I, rfl, q⟩
  | cons z zs => exact SeqAt.RcAt.lists_lengths pl.isList pl2.isList (by rw [List.size_toArray, ← l]; rfl) (by omega) _ _ _ _ ⟨.bl false, H, I, rfl, q⟩
theorem op_neNil (hu : X.A.units + 1 < cLine) : OpR X (compareOp .NotEq) (rEqNil X.K true) := by
  intro pins s σ H x y v u Q I rx ry h
  obtain ⟨a, b, xs, rfl, rfl, ha, hb, q⟩ := h
  cases rx
  cases ry
  obtain ⟨us, vs, pl, _⟩ := I.list ha
  obtain ⟨ws, vs2, pl2, _⟩ := I.list hb
  cases vs2
  have l := vs.length
  cases xs with
  | nil =>
    cases vs
    exact SeqAt.RcNeAt.lists (e := fun _ => true) pl.isList pl2.isList rfl (by omega) (fun j h1 => absurd h1 (Nat.not_lt_zero _)) _ _ _ _ ⟨.bl false, H, I, rfl, q⟩
  | cons z zs => exact SeqAt.RcNeAt.lists_lengths pl.isList pl2.isList (by rw [List.size_toArray, ← l]; rfl) (by omega) _ _ _ _ ⟨.bl true, H, I, rfl, q⟩
end
/-! ### comprehensions that leave what is known as it is -/
theorem take_sel {α β : Type} (t : α → Bool) (f : α → β) {xs : List α} {i : Nat} {x : α} (h : xs[i]? = some x) :
    ((xs.take (i + 1)).filter t).map f = ((xs.take i).filter t).map f ++ (if t x = true then [f x] else []) := by
  rw [List.take_add_one, h, List.filter_append, List.map_append]
  by_cases ht : t x = true
  · rw [if_pos ht]
    simp [ht]
  · rw [if_neg ht]
    simp [ht]
section
variable {K : PySem.W.Frag} {a : Addr} {xs : List V} {tt : TT} {te : TE} {vs : List Nat} {σ : L2.St} {H : Hp} {D : Addr} {Qd : Hp → Prop} {j : Nat}
/-- what a turn asks: the test, the item -/
structure SelT (H : Hp) (σ : L2.St) (vs : List Nat) (j : Nat) (tt : TT) (te : TE) (x : V) (b : Bool) (y : V) : Prop where
  wip : wipe ((wipe σ vs).set j (some x)) vs = wipe σ vs
  tst : ∀ H', Same H H' → ∀ R : Bool → Hp → Prop, (∀ H'', Same H' H'' → R b H'') → tt ((wipe σ vs).set j (some x)) H' R
  elt : b = true → ∀ H', Same H H' → ∀ R : VK, (∀ H'', Same H' H'' → R y H'') → te ((wipe σ vs).set j (some x)) H' R
theorem sel_turn {x y : V} {b : Bool} {acc : List V} {H' : Hp} {P : Hp → Prop} (hD : H D = none) (s : SelT H σ vs j tt te x b y) (hs : Same H H') (ha : H' D = some (.lst acc)) (hz : acc.length < sizeLine)
    (k : ∀ H'', Same H H'' → H'' D = some (.lst (acc ++ (if b = true then [y] else []))) → P H'') :
    gName j x (wipe σ vs) H' fun σ2 H2 => wipe σ2 vs = wipe σ vs ∧ tt σ2 H2 fun c H3 => if c = true then te σ2 H3 fun y H4 => ∃ acc, H4 D = some (.lst acc) ∧ acc.length < sizeLine ∧ P (upd H4 D (.lst (acc ++ [y]))) else P H3 := by
  refine ⟨s.wip, s.tst H' hs _ fun H3 s3 => ?_⟩
  have h3 := s3 D _ ha
  cases b with
  | false =>
    refine iteF (k H3 (hs.trans s3) ?_)
    rw [h3, if_neg Bool.false_ne_true, List.append_nil]
  | true =>
    refine iteT (s.elt rfl H3 (hs.trans s3) _ fun H4 s4 => ⟨acc, s4 D _ h3, hz, k _ (fun c o e => ?_) ?_⟩)
    · rw [upd_ne (ne_of_none e hD)]
      exact s4 c o (s3 c o (hs c o e))
    · rw [upd_same, if_pos rfl]
theorem lc_sel_list (t : V → Bool) (f : V → V) (hx : SqL K H a xs) (hD : H D = none) (hz : xs.length ≤ 1000000) (hs : ∀ x ∈ xs, SelT H σ vs j tt te x (t x) (f x)) (k : ∀ H', Same H H' → H' D = some (.lst ((xs.filter t).map f)) → Qd H') :
    ∃ W : Nat → Nat → Hp → Prop, (∃ m, W 0 m (upd H D (.lst []))) ∧ ∀ i m H, W i m H →
      ((Itl K a).stop i H ∧ Qd H) ∨ ((Itl K a).go i H ∧ ∃ Nx : Hp → Prop, (∀ H', Nx H' → ∃ m', m' < m ∧ W (i + 1) m' H') ∧ ∀ x H', (Itl K a).yld i H x H' → gName j x (wipe σ vs) H' fun σ2 H2 => wipe σ2 vs = wipe σ vs ∧ tt σ2 H2 fun b H3 =>
        if b = true then te σ2 H3 fun y H4 => ∃ acc, H4 D = some (.lst acc) ∧ acc.length < sizeLine ∧ Nx (upd H4 D (.lst (acc ++ [y]))) else Nx H3) := by
  have line : 1000000 < sizeLine := by decide
  refine lc_list (xs := xs) (fun i H' => Same H H' ∧ H' D = some (.lst (((xs.take i).filter t).map f))) ⟨same_new hD, upd_same⟩ (fun i H' _ p => p.1.seq hx) (fun i x H' hi p => ?_) fun H' p => k H' p.1 (by rw [p.2, List.take_length])
  refine sel_turn hD (hs x (List.mem_of_getElem? hi)) p.1 p.2 ?_ fun H'' s'' e => ⟨s'', by rw [e, take_sel t f hi]⟩
  have l1 := List.length_filter_le t (xs.take i)
  have l2 := List.length_take_le i xs
  have l3 : (xs.take i).length ≤ xs.length := by rw [List.length_take]; omega
  rw [List.length_map]
  omega
theorem Same.seqT {H H' : Hp} (e : Same H H') (h : SqT K H a xs) : SqT K H' a xs := by
  rcases h with (h | ⟨o, h⟩) | h
  · exact .inl (.inl (e _ _ h))
  · exact .inl (.inr ⟨o, e _ _ h⟩)
  · exact .inr h
theorem lc_sel_tup (t : V → Bool) (f : V → V) (hx : SqT K H a xs) (hD : H D = none) (hz : xs.length ≤ 1000000) (hs : ∀ x ∈ xs, SelT H σ vs j tt te x (t x) (f x)) (k : ∀ H', Same H H' → H' D = some (.lst ((xs.filter t).map f)) → Qd H') :
    ∃ W : Nat → Nat → Hp → Prop, (∃ m, W 0 m (upd H D (.lst []))) ∧ ∀ i m H, W i m H →
      ((Itt K a).stop i H ∧ Qd H) ∨ ((Itt K a).go i H ∧ ∃ Nx : Hp → Prop, (∀ H', Nx H' → ∃ m', m' < m ∧ W (i + 1) m' H') ∧ ∀ x H', (Itt K a).yld i H x H' → gName j x (wipe σ vs) H' fun σ2 H2 => wipe σ2 vs = wipe σ vs ∧ tt σ2 H2 fun b H3 =>
        if b = true then te σ2 H3 fun y H4 => ∃ acc, H4 D = some (.lst acc) ∧ acc.length < sizeLine ∧ Nx (upd H4 D (.lst (acc ++ [y]))) else Nx H3) := by
  have line : 1000000 < sizeLine := by decide
  refine lc_tup (xs := xs) (fun i H' => Same H H' ∧ H' D = some (.lst (((xs.take i).filter t).map f))) ⟨same_new hD, upd_same⟩ (fun i H' _ p => Same.seqT p.1 hx) (fun i x H' hi p => ?_) fun H' p => k H' p.1 (by rw [p.2, List.take_length])
  refine sel_turn hD (hs x (List.mem_of_getElem? hi)) p.1 p.2 ?_ fun H'' s'' e => ⟨s'', by rw [e, take_sel t f hi]⟩
  have l1 := List.length_filter_le t (xs.take i)
  have l3 : (xs.take i).length ≤ xs.length := by rw [List.length_take]; omega
  rw [List.length_map]
  omega
theorem take_range {n i : Nat} (h : i < n) : (List.range n)[i]? = some i := by
  rw [List.getElem?_range h]
theorem lc_sel_range {lo : Int} {n : Nat} (t : Nat → Bool) (f : Nat → V) (hD : H D = none) (hz : n ≤ 1000000) (hs : ∀ i, i < n → SelT H σ vs j tt te (.int (lo + i)) (t i) (f i)) (k : ∀ H', Same H H' → H' D = some (.lst (((List.range n).filter t).map f)) → Qd H') :
    ∃ W : Nat → Nat → Hp → Prop, (∃ m, W 0 m (upd H D (.lst []))) ∧ ∀ i m H, W i m H →
      ((Itr lo n).stop i H ∧ Qd H) ∨ ((Itr lo n).go i H ∧ ∃ Nx : Hp → Prop, (∀ H', Nx H' → ∃ m', m' < m ∧ W (i + 1) m' H') ∧ ∀ x H', (Itr lo n).yld i H x H' → gName j x (wipe σ vs) H' fun σ2 H2 => wipe σ2 vs = wipe σ vs ∧ tt σ2 H2 fun b H3 =>
        if b = true then te σ2 H3 fun y H4 => ∃ acc, H4 D = some (.lst acc) ∧ acc.length < sizeLine ∧ Nx (upd H4 D (.lst (acc ++ [y]))) else Nx H3) := by
  have line : 1000000 < sizeLine := by decide
  refine lc_range (fun i H' => Same H H' ∧ H' D = some (.lst ((((List.range n).take i).filter t).map f))) ⟨same_new hD, upd_same⟩ (fun i H' hi p => ?_) fun H' p => k H' p.1 (by rw [p.2, List.take_of_length_le (by rw [List.length_range]; omega)])
  refine sel_turn hD (hs i hi) p.1 p.2 ?_ fun H'' s'' e => ⟨s'', by rw [e, take_sel t f (take_range hi)]⟩
  have l1 := List.length_filter_le t ((List.range n).take i)
  have l3 : ((List.range n).take i).length ≤ n := by rw [List.length_take, List.length_range]; omega
  rw [List.length_map]
  omega
end
theorem filter_all {α : Type} (xs : List α) : xs.filter (fun _ => true) = xs := List.filter_eq_self.mpr fun _ _ => rfl
theorem Kp.free {t D : Addr} {H H' : Hp} (k : Kp t H H') (h : H' D = none) (n : D ≠ t) : H D = none := by
  cases e : H D with
  | none => rfl
  | some o =>
    rw [k D o e n] at h
    cases h
theorem Kp.mut {t p : Addr} {H H' : Hp} {o : HO} (k : Kp t H H') (h : H p = none) : Kp t H (upd H' p o) := fun b u e n => by
  rw [upd_ne (ne_of_none e h)]
  exact k b u e n
theorem Tape.mut {H : Hp} {t c p : Addr} {n : Nat} {o : HO} (h : Tape H t c n) (n1 : p ≠ t) (n2 : p ≠ c) : Tape (upd H p o) t c n := h.stay fun b u e z => by
  rw [upd_ne]
  · exact e
  · rcases z with rfl | rfl
    · exact n1.symm
    · exact n2.symm
theorem yes_go {σ : L2.St} {H : Hp} {A B : Hp → Prop} (h : A H) : tYes σ H (fun b H' => if b = true then A H' else B H') := by
  show (if true = true then A H else B H)
  rw [if_pos rfl]
  exact h
/-! ### d.update(e) of two dicts -/
theorem mt_update {X : Cx} : MtR X "dict.update" (fun x xs H Q => ∃ (a b : Addr) (ks ms : List (Key × V)), x = .ref a ∧ xs = [.ref b] ∧ H a = some (.dK ks) ∧ H b = some (.dK ms) ∧ a ≠ b ∧ ks.length + ms.length ≤ sizeLine ∧
    Q .non (upd H a (.dK (mergeK ks ms)))) := by
  intro pins s σ H x xs v us Q I rx rxs h
  obtain ⟨a, b, ks, ms, rfl, rfl, ha, hb, ne, few, q⟩ := h
  cases rx
  obtain ⟨u, rfl, ru⟩ := vals1 rxs
  cases ru
  obtain ⟨za, da, va, ra, dda⟩ := dk_of I.hok ha
  obtain ⟨zb, db, vb, rb, ddb⟩ := dk_of I.hok hb
  refine call_meetsIn PySem.F.slot_dict_update dda.typeIs PySem.F.entry_dict_update (PySem.F.args_dict_update_2 _ _) (meets_dict_update (mixKind X.prog X.w) a b ne db) ⟨va, vb, dda, ddb, by rw [← ra.length, ← rb.length]; exact few, fun h' d1 d2 same => ?_⟩
  have there : ∃ o, h'.get? a = some o := by
    obtain ⟨o, _, _, ho, _⟩ := id d1
    exact ⟨o, ho⟩
  have small : (mergeK ks ms).length ≤ sizeLine := Nat.le_trans (length_mergeK ms ks) few
  exact ⟨.non, _, d_write (t' := s.toks) I (by rw [ha]; exact True.intro) same there (dk_new small da (rb.merge ra) d1), rfl, q⟩
/-! ### rules whose reading names the written part, for use within a comprehension -/
section
variable {X : Cx} {K : PySem.W.Frag}
theorem op_inK (h : X.K = K) : OpR X (compareOp .In) (rIn K false) := h ▸ op_in_seq
theorem op_notInK (h : X.K = K) : OpR X (compareOp .NotIn) (rIn K true) := h ▸ op_notIn_seq
theorem op_eqNilK (h : X.K = K) (hu : X.A.units + 1 < cLine) : OpR X (compareOp .Eq) (rEqNil K false) := h ▸ op_eqNil hu
theorem op_neNilK (h : X.K = K) (hu : X.A.units + 1 < cLine) : OpR X (compareOp .NotEq) (rEqNil K true) := h ▸ op_neNil hu
theorem ix_listK (h : X.K = K) : IxR X (rIxL K) := h ▸ ix_list
theorem ix_tupK (h : X.K = K) : IxR X (rIxT K) := h ▸ ix_tup
theorem ix_seqK (h : X.K = K) : IxR X (rIx K) := h ▸ ix_seq
theorem len_seqK (h : X.K = K) : CallR X (.builtin "len") (fun xs H Q => ∃ p ys, xs = [.ref p] ∧ (SqL K H p ys ∨ SqT K H p ys) ∧ Q (.int (ys.length : Nat)) H) := h ▸ call_len_seq
theorem pi_listK {tg l : Expr} {tl : TE} (h : X.K = K) (hl : PE X l tl) : PI X tg l (iList K tl) := h ▸ pi_list hl
theorem pi_tupK {tg l : Expr} {tl : TE} (h : X.K = K) (hl : PE X l tl) : PI X tg l (iTup K tl) := h ▸ pi_tup hl
theorem sl_listK (h : X.K = K) : SlR X (rSlL K) := h ▸ sl_list
theorem sl_tupK (h : X.K = K) : SlR X (rSlT K) := h ▸ sl_tup
theorem cr_sumK (h : X.K = K) (hc : X.calm = true) : CallR X (.builtin "sum") (rSum K) := h ▸ cr_sum hc
theorem cr_maxL (h : X.K = K) (hc : X.calm = true) : CallR X (.builtin "max") (rMax K) := h ▸ cr_max hc
theorem cr_minL (h : X.K = K) (hc : X.calm = true) : CallR X (.builtin "min") (rMin K) := h ▸ cr_min hc
theorem cr_allK (h : X.K = K) (hc : X.calm = true) : CallR X (.builtin "all") (rAll K) := h ▸ cr_all hc
theorem cr_anyK (h : X.K = K) (hc : X.calm = true) : CallR X (.builtin "any") (rAny K) := h ▸ cr_any hc
theorem call_list_ofK (h : X.K = K) : CallR X (.type "list") (fun xs H Q => ∃ p ys, xs = [.ref p] ∧ (SqL K H p ys ∨ SqT K H p ys) ∧ ∀ l, H l = none → Q (.ref l) (upd H l (.lst ys))) := h ▸ call_list_of
theorem call_tuple_ofK (h : X.K = K) : CallR X (.type "tuple") (fun xs H Q => ∃ p ys, xs = [.ref p] ∧ ((SqL K H p ys ∧ ∀ l, H l = none → Q (.ref l) (upd H l (.tup ys))) ∨ (SqT K H p ys ∧ Q (.ref p) H))) := h ▸ call_tuple_of
theorem op_catTK (h : X.K = K) : OpR X (binaryOp .Add) (rCatT K) := h ▸ op_catT
end
theorem bd_first_unlike : BindsAll "first_unlike" s_first_unlike ["marks", "most", "clauses"] := fun _ _ _ _ _ _ us hl => match us, hl with | [_, _, _], _ => rfl
theorem bd__settings_having : BindsAll "_settings_having" s__settings_having ["marks"] := fun _ _ _ _ _ _ us hl => match us, hl with | [_], _ => rfl
theorem bd__settings_at_most : BindsAll "_settings_at_most" s__settings_at_most ["size", "most"] := fun _ _ _ _ _ _ us hl => match us, hl with | [_, _], _ => rfl
theorem bd__law_begun : BindsAll "_law_begun" s__law_begun ["_law_script"] := fun _ _ _ _ _ _ us hl => match us, hl with | [_], _ => rfl
theorem bd__law_draw : BindsAll "_law_draw" s__law_draw ["_law_tape", "_law_many"] := fun _ _ _ _ _ _ us hl => match us, hl with | [_, _], _ => rfl
theorem bd__law_pick : BindsAll "_law_pick" s__law_pick ["_law_tape", "_law_some"] := fun _ _ _ _ _ _ us hl => match us, hl with | [_, _], _ => rfl
theorem bd__law_marks : BindsAll "_law_marks" s__law_marks ["_law_tape", "_law_many"] := fun _ _ _ _ _ _ us hl => match us, hl with | [_, _], _ => rfl
theorem bd__law_settings : BindsAll "_law_settings" s__law_settings ["_law_marks_here"] := fun _ _ _ _ _ _ us hl => match us, hl with | [_], _ => rfl
theorem bd__law_is_unlike : BindsAll "_law_is_unlike" s__law_is_unlike ["_law_marks_here", "_law_most", "_law_clauses", "_law_some"] := fun _ _ _ _ _ _ us hl => match us, hl with | [_, _, _, _], _ => rfl
theorem bd__law_bent : BindsAll "_law_bent" s__law_bent ["_law_tape", "_law_marks_here", "_law_clauses"] := fun _ _ _ _ _ _ us hl => match us, hl with | [_, _, _], _ => rfl
theorem bd__law_drawn : BindsAll "_law_drawn" s__law_drawn ["_law_tape", "_law_marks_here"] := fun _ _ _ _ _ _ us hl => match us, hl with | [_, _], _ => rfl
theorem bd_law : BindsAll "law" s_law ["_law_script"] := fun _ _ _ _ _ _ us hl => match us, hl with | [_], _ => rfl
structure Top (K : PySem.W.Frag) (mg : Str → Option Value) : Prop where
  d_first_unlike : At K mg "first_unlike" s_first_unlike
  d__settings_having : At K mg "_settings_having" s__settings_having
  d__settings_at_most : At K mg "_settings_at_most" s__settings_at_most
  d__law_begun : At K mg "_law_begun" s__law_begun
  d__law_draw : At K mg "_law_draw" s__law_draw
  d__law_pick : At K mg "_law_pick" s__law_pick
  d__law_marks : At K mg "_law_marks" s__law_marks
  d__law_settings : At K mg "_law_settings" s__law_settings
  d__law_is_unlike : At K mg "_law_is_unlike" s__law_is_unlike
  d__law_bent : At K mg "_law_bent" s__law_bent
  d__law_drawn : At K mg "_law_drawn" s__law_drawn
  d_law : At K mg "law" s_law
  b_len : mg "len" = none
  b_enumerate : mg "enumerate" = none
  b_range : mg "range" = none
  b_zip : mg "zip" = none
  b_sum : mg "sum" = none
  b_dict : mg "dict" = none
  b_max : mg "max" = none
  b_tuple : mg "tuple" = none
  b_abs : mg "abs" = none
  b_list : mg "list" = none
  b_min : mg "min" = none
  b_isinstance : mg "isinstance" = none
  b_set : mg "set" = none
/-! ### the law's own def, run where the law is asked: nothing is being shown there -/
def RunAt (P : Program) (w : World) (K : PySem.W.Frag) (mg : Str → Option Value) (base : Heap) (f : Addr) (fd : FuncData) (ps : List Str) (sp : Sp) : Prop :=
  ∀ (s : Shared) (H : Hp) (us : List Value) (vs : List V) (Q : VK) (E : XK), Env0 P w K mg base callerA [] s H → BindsTo s fd ⟨us, []⟩ (ps.zip us) → Vals vs us → sp vs H Q E → codeAny (model P w) callerA (.call (.ref f) ⟨us, []⟩) (CR CX0 [] P w H s Q E) s
section
variable {P : Program} {w : World} {K : PySem.W.Frag} {mg : Str → Option Value} {base : Heap}
theorem run_at {x qual : Str} {st : Stmt} {f : Addr} {fd : FuncData} {N ps : List Str} {k : Nat} {sp : Sp} (F : Fun K x qual st f fd) (S : FnScope N ps (defScope st)) (room : Room (k + 1) callerA) (len : ∀ vs H Q E, sp vs H Q E → vs.length = ps.length)
    (body : ∀ (cdv : Value) (s : Shared) (H : Hp) (vs : List V) (Q : VK) (E : XK), Room k (callerA.deeper (envOfC qual (defScope st) s.heap.objs.size f cdv)) → sp vs H Q E →
      ∃ t, PSs (cxOf CX0 P w K mg base N qual (defScope st) f cdv callerA [] s H E).nox (defBody st) t ∧ t { nx := fun _ H' => Q .non H', rt := Q } (start N vs) H) : RunAt P w K mg base f fd ps sp := by
  obtain ⟨oc, od, kV, doc, pm, an, cdv, ct, osl, rfl, lk, hcd⟩ := F.ex
  intro s H us vs Q E e0 hb r hsp
  have few := len _ _ _ _ hsp
  have kin : K.In s.heap := e0.mod.kin.keeps fun b o z => (e0.bs b o z).1
  have lim : s.heap.NoLimit := e0.mod.nolimit.keeps fun b o z => (e0.bs b o z).1
  have kinds : ∀ z ∈ ps.zip us, (defScope st).names.lookup z.1 = some .local ∨ ((defScope st).names.lookup z.1 = some .cell ∧ ((cellsFrom (s.heap.objs.size + 1) (defScope st).names []).lookup z.1).isSome = true) := by
    rintro ⟨n, v⟩ hz
    rcases S.par n (List.of_mem_zip hz).1 with z | z
    · exact .inl z
    · exact .inr ⟨z, PySem.W.cellsFrom_some _ _ _ (.inl z)⟩
  refine codeAny_call_function room.depth (kin _ _ lk) rfl S.co S.gen rfl (PySem.W.codeRec_of kin hcd) (hb _ _ _ _ ?_)
  refine wpAny_newFunctionEnv_cells S.kind kinds fun env he s1 z => ?_
  subst he
  refine ⟨lim.keeps z.toInCall.keep, codeAny_func ?_⟩
  obtain ⟨t, ht, hq⟩ := body cdv s H vs Q E (room.deeper _) hsp
  have I : Inv (cxOf CX0 P w K mg base N qual (defScope st) f cdv callerA [] s H E) [] (start N vs) H s1 := inv_start S room.hd e0 few r z
  refine wpAny_mono (ht.nox.run [] s1 (start N vs) H _ I hq) (fun fl s2 hs => ?_) fun e s2 hs => hs
  cases fl with
  | ret u =>
    obtain ⟨v, σ2, H2, J, rv, q⟩ := hs
    exact ⟨v, H2, J.os, J.bare, J.base, J.hok, rv, q⟩
  | next =>
    obtain ⟨σ2, H2, J, q⟩ := hs
    exact ⟨.non, H2, J.os, J.bare, J.base, J.hok, rfl, q⟩
  | brk =>
    obtain ⟨_, _, _, q⟩ := hs
    exact q.elim
  | cont =>
    obtain ⟨_, _, _, q⟩ := hs
    exact q.elim
theorem law_at {mb : Str → Option Value} {fa p : Addr} {fd : FuncData} {x : Str} {sp : Sp} {s1 : Shared} {vs : List Value} {ns : List Int}
    (kin : K.In s1.heap) (hns : s1.heap.Ns mainGlobals mg) (hb : s1.heap.Ns builtinsNs mb) (hbb : ∀ y : Str, y ≠ "__name__" → mb y = bootBuiltins y) (hlim : s1.heap.NoLimit) (hg : s1.gens = #[])
    (hp : s1.heap.get? p = some { cls := .type "list", data := .seq vs.toArray }) (hi : IntsAre vs ns) (few : ns.length ≤ sizeLine)
    (F : ∀ base : Heap, K.In base → base.Ns mainGlobals mg → RunAt P w K mg base fa fd [x] sp) (binds : ∀ (s : Shared) (u : Value), BindsTo s fd ⟨[u], []⟩ [(x, u)])
    (hsp : ∀ H : Hp, Only H → SqL K H p (ns.map V.int) → sp [.ref p] H (fun v _ => v = .bl true) fun _ _ _ => False) :
    codeAny (model P w) callerA (.call (.ref fa) ⟨[.ref p], []⟩) (fun r s2 => r = .ok (.ret (.bool true)) ∧ OldK s1.heap s2.heap ∧ s2.os = s1.os ∧ AllBare s2.gens) s1 := by
  have rv := vals_ints hi
  have core : ∀ H : Hp, Only H → SqL K H p (ns.map V.int) → HOk P w H s1.heap → (∀ b, H b ≠ none → b = p) → (H p ≠ none → K.lookup p = none) →
      codeAny (model P w) callerA (.call (.ref fa) ⟨[.ref p], []⟩) (fun r s2 => r = .ok (.ret (.bool true)) ∧ OldK s1.heap s2.heap ∧ s2.os = s1.os ∧ AllBare s2.gens) s1 := by
    intro H only seq hok one hK
    have below : ∀ {b : Addr} {o : Obj}, s1.heap.get? b = some o → H b = none → (hidT s1.heap H).get? b = some o := fun e n => hidT_get e n
    have dicts : ∀ {b : Addr} {o : Obj} {es : Array DictEntry} {ep : Nat}, s1.heap.get? b = some o → o.data = .dict es ep → H b = none := by
      intro b o es ep e d
      cases q : H b with
      | none => rfl
      | some u =>
        obtain rfl : b = p := one b (by rw [q]; simp)
        rw [hp] at e
        cases e
        cases (show Data.seq vs.toArray _ = Data.dict es ep from d)
    have spaces : ∀ {b : Addr} {m : Str → Option Value}, s1.heap.Ns b m → (hidT s1.heap H).Ns b m := by
      rintro b m ⟨o, es, ep, e, d, r⟩
      exact ⟨o, es, ep, below e (dicts e d), d, r⟩
    have kin2 : K.In (hidT s1.heap H) := fun b o e => by
      refine below (kin b o e) ?_
      cases q : H b with
      | none => rfl
      | some u =>
        obtain rfl : b = p := one b (by rw [q]; simp)
        rw [hK (by rw [q]; simp)] at e
        cases e
    have mod : Mod K mg (hidT s1.heap H) := by
      obtain ⟨mc, c1, c2⟩ := hlim
      exact ⟨kin2, spaces hns, ⟨mb, spaces hb, hbb⟩, ⟨mc, spaces c1, c2⟩⟩
    have e0 : Env0 P w K mg (hidT s1.heap H) callerA [] s1 H :=
      ⟨rfl, mod, fun b o e => of_hidT e, Nat.le_of_eq (hidT_size _ _), trivial, fun b z => absurd (show b ∈ ([] : List Addr) from z) (by simp), hok, .of_eq hg⟩
    refine codeAny_mono (F _ kin2 (spaces hns) s1 H [.ref p] [.ref p] _ _ e0 (binds s1 (.ref p)) (.cons rfl .nil) (hsp H only seq)) fun r s2 h => ?_
    cases r with
    | error e => exact h.elim
    | ok fl =>
      cases fl with
      | next => exact h.elim
      | brk => exact h.elim
      | cont => exact h.elim
      | ret u =>
        obtain ⟨v, H2, os, bare, un, hok2, rel, q⟩ := h
        obtain rfl : v = .bl true := q
        obtain rfl : u = Value.bool true := rel
        refine ⟨rfl, OldK.of_keep fun b o e => ?_, os, bare⟩
        cases q : H b with
        | none => exact un.keep b o e q (fun z => absurd (show b ∈ ([] : List Addr) from z) (by simp)) (by simp)
        | some u =>
          rcases only b with z | ⟨ob, xs, z⟩
          · rw [q] at z
            cases z
          · obtain ⟨a1, _⟩ := hok b _ z
            obtain ⟨a2, _⟩ := hok2 b _ (un.frzs b ob _ z)
            rw [e] at a1
            cases a1
            exact a2
  cases hk : K.lookup p with
  | some o =>
    have e := kin p o hk
    rw [hp] at e
    cases e
    have lv := hi.length
    refine core (fun _ => none) (fun _ => .inl rfl) (.inr ⟨_, vs.toArray, _, hk, rfl, rfl, rfl, ?_, by simpa using rv⟩) (fun b u z => ?_) (fun b z => absurd rfl z) fun z => absurd rfl z
    · rw [List.size_toArray, lv]
      exact few
    · cases (show (none : Option HO) = some u from z)
  | none =>
    refine core (fun b => if b = p then some (.frz { cls := .type "list", data := .seq vs.toArray } (.lst (ns.map V.int))) else none) (fun b => ?_) (.inl (.inr ⟨{ cls := .type "list", data := .seq vs.toArray }, if_pos rfl⟩)) (fun b u z => ?_) (fun b z => ?_) fun _ => hk
    · by_cases hb : b = p
      · exact .inr ⟨_, _, if_pos hb⟩
      · exact .inl (if_neg hb)
    · by_cases hb : b = p
      · subst hb
        cases (if_pos rfl).symm.trans z
        refine ⟨hp, ?_, vs, _, rv, hp⟩
        rw [List.length_map]
        exact few
      · cases (if_neg hb).symm.trans z
    · by_cases hb : b = p
      · exact hb
      · exact absurd (if_neg hb) z
end
theorem walk_at {l : PySem.W.OpenLaw} {n : Nat} {q : Program} {loose : List Str} {XP : (Str → Option Value) → Heap → Prop} {YP : World → Heap → Prop} {d : DefRec} {K : Params → PySem.W.Frag} {sp : World → Sp} {x : Str}
    (hn : l.most = some n) (hn2 : n ≤ sizeLine) (hdf : d.params.defaults = []) (hY : ∀ (w : World) (h : Heap), YP w h → (K w.params).In h)
    (F : ∀ (w : World) (mg : Str → Option Value) (fa : Addr) (h : Heap), (K w.params).In h → h.Ns mainGlobals mg → mg d.name = some (.ref fa) →
      ∃ fd : FuncData, (∀ (s : Shared) (u : Value), BindsTo s fd ⟨[u], []⟩ [(x, u)]) ∧ ∀ base : Heap, (K w.params).In base → base.Ns mainGlobals mg → RunAt l.prog w (K w.params) mg base fa fd [x] (sp w))
    (hsp : ∀ (w : World) (H : Hp) (a : Addr) (ns : List Int), ns.length ≤ n → Only H → SqL (K w.params) H a (ns.map V.int) → sp w [.ref a] H (fun v _ => v = .bl true) fun _ _ _ => False) :
    PySem.W.WalkO q loose XP YP l.row.toRowW d [] (fun f vs => PySem.call f vs) := by
  refine Att.attach_call hn hdf fun w s0 s1 mg mb fa o pm cd doc a vs ns G Y ho hd hcd hmg hobj hints hlen hg => ?_
  obtain ⟨fd, hb, hF⟩ := F w mg fa _ (hY w _ Y) G.T.g hmg
  exact law_at (hY w _ Y) G.T.g G.T.b G.T.builtins G.T.nolimit hg hobj hints (Nat.le_trans hlen hn2) hF hb fun H only seq => hsp w H a ns hlen only seq

/-! ### promises that hold where nothing is being shown -/
structure FnG (P : Program) (w : World) (K : PySem.W.Frag) (mg : Str → Option Value) (base : Heap) (k : Nat) (f : Addr) (fd : FuncData) (ps : List Str) (sp : Sp) : Prop where
  len : ∀ vs H Q E, sp vs H Q E → vs.length = ps.length
  run : ∀ (A : Around) (out : List Env) (s : Shared) (H : Hp) (us : List Value) (vs : List V) (Q : VK) (E : XK), Room k A → A.guards = some [] → Env0 P w K mg base A out s H → BindsTo s fd ⟨us, []⟩ (ps.zip us) → Vals vs us → sp vs H Q E →
    codeAny (model P w) A (.call (.ref f) ⟨us, []⟩) (CR CX0 out P w H s Q E) s
structure HasG (P : Program) (w : World) (K : PySem.W.Frag) (mg : Str → Option Value) (base : Heap) (k : Nat) (x : Str) (ps : List Str) (sp : Sp) : Prop where
  ex : ∃ f fd, mg x = some (.ref f) ∧ PySem.W.keepIn K (.ref f) = true ∧ Binds K fd ps [] ∧ FnG P w K mg base k f fd ps sp
section
variable {P : Program} {w : World} {K : PySem.W.Frag} {mg : Str → Option Value} {base : Heap}
theorem fnG {x qual : Str} {st : Stmt} {f : Addr} {fd : FuncData} {N ps : List Str} {k : Nat} {sp : Sp} (F : Fun K x qual st f fd) (S : FnScope N ps (defScope st)) (len : ∀ vs H Q E, sp vs H Q E → vs.length = ps.length)
    (body : ∀ (cdv : Value) (A : Around) (out : List Env) (s : Shared) (H : Hp) (vs : List V) (Q : VK) (E : XK), Room k (A.deeper (envOfC qual (defScope st) s.heap.objs.size f cdv)) → (A.deeper (envOfC qual (defScope st) s.heap.objs.size f cdv)).guards = some [] → sp vs H Q E →
      ∃ t, PSs (cxOf CX0 P w K mg base N qual (defScope st) f cdv A out s H E).nox (defBody st) t ∧ t { nx := fun _ H' => Q .non H', rt := Q } (start N vs) H) : FnG P w K mg base (k + 1) f fd ps sp := by
  obtain ⟨oc, od, kV, doc, pm, an, cdv, ct, osl, rfl, lk, hcd⟩ := F.ex
  refine ⟨len, fun A out s H us vs Q E room calm e0 hb r hsp => ?_⟩
  have few := len _ _ _ _ hsp
  have kin : K.In s.heap := e0.mod.kin.keeps fun b o z => (e0.bs b o z).1
  have lim : s.heap.NoLimit := e0.mod.nolimit.keeps fun b o z => (e0.bs b o z).1
  have kinds : ∀ z ∈ ps.zip us, (defScope st).names.lookup z.1 = some .local ∨ ((defScope st).names.lookup z.1 = some .cell ∧ ((cellsFrom (s.heap.objs.size + 1) (defScope st).names []).lookup z.1).isSome = true) := by
    rintro ⟨n, v⟩ hz
    rcases S.par n (List.of_mem_zip hz).1 with z | z
    · exact .inl z
    · exact .inr ⟨z, PySem.W.cellsFrom_some _ _ _ (.inl z)⟩
  refine codeAny_call_function room.depth (kin _ _ lk) rfl S.co S.gen rfl (PySem.W.codeRec_of kin hcd) (hb _ _ _ _ ?_)
  refine wpAny_newFunctionEnv_cells S.kind kinds fun env he s1 z => ?_
  subst he
  refine ⟨lim.keeps z.toInCall.keep, codeAny_func ?_⟩
  obtain ⟨t, ht, hq⟩ := body cdv A out s H vs Q E (room.deeper _) calm hsp
  have I : Inv (cxOf CX0 P w K mg base N qual (defScope st) f cdv A out s H E) [] (start N vs) H s1 := inv_start S room.hd e0 few r z
  refine wpAny_mono (ht.nox.run [] s1 (start N vs) H _ I hq) (fun fl s2 hs => ?_) fun e s2 hs => hs
  cases fl with
  | ret u =>
    obtain ⟨v, σ2, H2, J, rv, q⟩ := hs
    exact ⟨v, H2, J.os, J.bare, J.base, J.hok, rv, q⟩
  | next =>
    obtain ⟨σ2, H2, J, q⟩ := hs
    exact ⟨.non, H2, J.os, J.bare, J.base, J.hok, rfl, q⟩
  | brk =>
    obtain ⟨_, _, _, q⟩ := hs
    exact q.elim
  | cont =>
    obtain ⟨_, _, _, q⟩ := hs
    exact q.elim
theorem has_ofG {x : Str} {st : Stmt} {N ps : List Str} {k : Nat} {sp : Sp} (A : At K mg x st) (S : FnScope N ps (defScope st)) (B : BindsAll x st ps) (len : ∀ vs H Q E, sp vs H Q E → vs.length = ps.length)
    (body : ∀ (f : Addr) (cdv : Value) (A : Around) (out : List Env) (s : Shared) (H : Hp) (vs : List V) (Q : VK) (E : XK), Room k (A.deeper (envOfC x (defScope st) s.heap.objs.size f cdv)) → (A.deeper (envOfC x (defScope st) s.heap.objs.size f cdv)).guards = some [] → sp vs H Q E →
      ∃ t, PSs (cxOf CX0 P w K mg base N x (defScope st) f cdv A out s H E).nox (defBody st) t ∧ t { nx := fun _ H' => Q .non H', rt := Q } (start N vs) H) : HasG P w K mg base (k + 1) x ps sp := by
  obtain ⟨f, fd, hm, F⟩ := A.ex
  exact ⟨f, fd, hm, F.kp, F.binds B, fnG F S len fun cdv A out s H vs Q E hr hg h => body f cdv A out s H vs Q E hr hg h⟩
theorem FnG.at_ {f : Addr} {fd : FuncData} {ps : List Str} {k : Nat} {sp : Sp} (G : FnG P w K mg base k f fd ps sp) (room : Room k callerA) : RunAt P w K mg base f fd ps sp :=
  fun s H us vs Q E e0 hb r hsp => G.run callerA [] s H us vs Q E room rfl e0 hb r hsp
end
section
variable {X : Cx} {k : Nat} {x : Str} {ps : List Str} {sp : Sp} {e : Expr} {es : List Expr} {t : TA} {p pos : Pos}
theorem pe_hasG (h : HasG X.prog X.w X.K X.mg X.base k x ps sp) (hr : Room k X.A) (hgd : X.A.guards = some []) (hg : Gl X x) (ha : PA X (e :: es) t)
    (hdb : (x == ("__debug__" : Str)) = false := by decide) (he : starEach (e :: es) X.env = (false, eval e X.env) :: starEach es X.env := by rfl) (hpl : (backTo pos (starEach es X.env)).any (·.1) = false := by rfl) :
    PE X (.Call (.Name x p) (e :: es) [] pos) (tCall sp [] E0 t) := by
  obtain ⟨f, fd, hm, hk, hb, F⟩ := h.ex
  refine ⟨fun pins s σ H Q I hw => ?_⟩
  refine wpAny_Call_Name_kw (ld_glob I hg hm ?_ hdb)
  refine PySem.W.callWith_K (h₀ := X.base) I.ok.mod.kin hk (thn (ha.run pos pins s σ H _ I hw) fun us s1 ⟨vs, H1, I1, r1, q⟩ => ⟨I1.kIn, ?_⟩) he hpl
  have q : sp vs H1 Q E0 := by
    have z : sp (vs ++ []) H1 Q E0 := q
    rwa [List.append_nil] at z
  have bd := hb s1 us I1.kIn (by rw [List.append_nil, ← r1.length]; exact F.len _ _ _ _ q)
  rw [List.append_nil] at bd
  refine wpAny_call (codeAny_mono (F.run X.A X.stack s1 H1 us vs Q E0 hr hgd I1.env0 bd r1 q) fun r s2 hq => ?_)
  cases r with
  | error e => exact pass0 pins σ H1 s1 e s2 I1 hq
  | ok fl =>
    cases fl with
    | ret u => exact I1.after hq
    | next => exact hq.elim
    | brk => exact hq.elim
    | cont => exact hq.elim
end
/-! ### repr of None, of a whole number, of a list -/
structure Showy (x : PyData) : Prop where
  s : x.showable = true
  n : x.hasDict = false
  d : x.depth ≤ 60
  l : x.shown.length ≤ sizeLine
theorem call_reprV {X : Cx} (hgd : X.A.guards = some []) (hu : X.A.units + 64 < cLine) : CallR X (.builtin "repr") (fun xs H Q => (xs = [.non] ∧ Q (.str "None") H) ∨ (∃ i, xs = [.int i] ∧ i.natAbs.log2 < 1920 ∧ Q (.str (toString i)) H) ∨
    ∃ a d, xs = [.ref a] ∧ Dp X.K H (.ref a) d ∧ Showy d ∧ Q (.str d.shown) H) := by
  intro pins s σ H xs us Q I r h
  rcases h with ⟨rfl, q⟩ | ⟨i, rfl, hi, q⟩ | ⟨a, d, rfl, hd, sh, q⟩
  · obtain ⟨u, rfl, ru⟩ := vals1 r
    cases ru
    exact PySem.P.repr_of_none ⟨.str "None", H, I.tok _, ⟨_, rfl⟩, q⟩
  · obtain ⟨u, rfl, t, rfl⟩ := vals1 r
    exact PySem.P.repr_of_int hi ⟨.str (toString i), H, I.tok _, ⟨_, rfl⟩, q⟩
  · obtain ⟨u, rfl, ru⟩ := vals1 r
    cases ru
    obtain ⟨as, rd⟩ := Dp.reads I d (.ref a) (.ref a) hd rfl
    have h3 := sh.d
    exact repr_of_reads' (s := s) rd sh.s (fun z => by rw [sh.n] at z; cases z) hgd (by omega) (fun _ _ z => z) (fun h2 u tk k => ⟨.str d.shown, H, I.kept (t' := tk) k, ⟨_, rfl⟩, q⟩) sh.l

/-! ### the draws -/
def spDraw : Sp := fun vs H Q _ => ∃ (t c : Addr) (m : Int) (n : Nat), vs = [.ref t, .int m] ∧ Tape H t c n ∧ n < 2 ^ 40 ∧ 0 < m ∧ m < 2 ^ 8000 ∧
  ∀ (H' : Hp) (r : Int), 0 ≤ r → r < m → Tape H' t c (n + 1) → Kp t H H' → Q (.int r) H'
theorem cell_at {ns : List Int} {spot : Int} (h0 : 0 < ns.length) (hs : 0 ≤ spot) : ∃ x, atI (ns.map V.int) (spot % ((ns.map V.int).length : Int)) = some (.int x) := by
  rw [List.length_map]
  have hp : (0 : Int) < (ns.length : Int) := by omega
  have h1 := Int.emod_nonneg spot (show (ns.length : Int) ≠ 0 by omega)
  have h2 := Int.emod_lt_of_pos spot hp
  have h3 : (spot % (ns.length : Int)).toNat < ns.length := by omega
  refine ⟨ns[(spot % (ns.length : Int)).toNat], at_of (j := (spot % (ns.length : Int)).toNat) (by omega) ?_⟩
  rw [List.getElem?_map, List.getElem?_eq_getElem h3]
  rfl
theorem log2_small {m : Int} (h0 : 0 < m) (h : m < 2 ^ 8000) : m.natAbs.log2 < 9000 := by
  have h2 : m.natAbs < 2 ^ 8000 := by
    have e : ((2 ^ 8000 : Nat) : Int) = (2 : Int) ^ 8000 := by rw [Int.natCast_pow]; rfl
    omega
  exact Nat.lt_of_lt_of_le (PySem.Flt.log2_lt_of (by decide) h2) (by decide)
theorem pow_ok {x spot : Int} {n : Nat} (h0 : 0 ≤ spot) (h1 : spot ≤ n) (h2 : n < 2 ^ 40) : CPow (x % 2147483647 + 69621 * spot + 48271) 17 := by
  have a := Int.emod_nonneg x (show (2147483647 : Int) ≠ 0 by decide)
  have b := Int.emod_lt_of_pos x (show (0 : Int) < 2147483647 by decide)
  refine ⟨by decide, by decide, ?_⟩
  have e : (2 : Nat) ^ 64 = 18446744073709551616 := by decide
  rw [e]
  omega
section
variable {P : Program} {w : World} {K : PySem.W.Frag} {mg : Str → Option Value} {base : Heap}
theorem has_draw (T : Top K mg) : Has P w K mg base 1 "_law_draw" ["_law_tape", "_law_many"] spDraw := by
  refine has_of T.d__law_draw sc__law_draw bd__law_draw (fun vs H Q E h => ?_) (fun f cdv A outer s H vs Q E hr h => ?_)
  · obtain ⟨t, c, m, n, rfl, _⟩ := h
    rfl
  · have hu := hu_of hr
    have nd := sc__law_draw.nd
    obtain ⟨t, c, m, n, rfl, ⟨ns, spot, left, tp, hs⟩, hn, hm, hm2, k⟩ := h
    refine ⟨_, (C8.pss_cut (ps_if (pt_cmpR op_lt (pe_dget hu (pv 0) pe_str (fun _ _ => rfl)) (pv 1) (nomark _)) (pss_cons (ps_par (i := 2) (j := 3) (by rfl) nd rfl rfl (by decide) rfl rfl (pa_cons (pe_dget hu (pv 0) pe_str (fun _ _ => rfl)) (pa_cons (pe_callB call_len_seq (by rfl) T.b_len (by decide +kernel) (pa_cons (pe_dget hu (pv 0) pe_str (fun _ _ => rfl)) pa_nil)) pa_nil)) (by rfl))
    (pss_cons (ps_asg (pe_tup (pa_cons (pe_ix ix_list (pe_dget hu (pv 0) pe_str (fun _ _ => rfl)) (pe_op op_mod (pv 2) (pv 3)) (fun _ _ => rfl)) (pa_cons (pe_op op_add (pv 2) pe_int) pa_nil))) (pg_tup (by rfl) (pgs_cons (pg_name (i := 4) nd rfl (.inl rfl)) (pgs_cons (pg_sub (pv 0) pe_str (set_dict hu)) pgs_nil))))
    (pss_cons (ps_dput hu (pv 0) pe_str (pe_op op_mod (pe_op op_pow (pe_op op_add (pe_op op_add (pe_op op_mod (pv 4) pe_int) (pe_op op_mul pe_int (pv 2))) pe_int) pe_int) (pe_op op_add (pe_op op_pow pe_int pe_int) pe_int)) rfl)
    (pss_one (ps_if (PW.pt (pw_and (pt_cmpR op_ge (pv 4) (pe_op op_pow pe_int pe_int) (nomark _)) (pw_and1 (pt_cmpR op_lt (pv 2) (pv 3) (nomark _))))) (pss_one (ps_dput hu (pv 0) pe_str (pe_op op_sub (pv 4) (pe_op op_pow pe_int pe_int)) rfl)) pss_nil))))) pss_nil)
    (pss_cons (ps_asg (pe_tup (pa_cons (pe_op op_mod (pe_dget hu (pv 0) pe_str (fun _ _ => rfl)) (pv 1)) (pa_cons (pe_op op_fdivW (pe_dget hu (pv 0) pe_str (fun _ _ => rfl)) (pv 1)) pa_nil))) (pg_tup (by rfl) (pgs_cons (pg_name (i := 5) nd rfl (.inl rfl)) (pgs_cons (pg_sub (pv 0) pe_str (set_dict hu)) pgs_nil))))
    (pss_one (ps_ret (pv 5))))), ?_⟩
    refine ⟨fun σ' H' => ∃ (v2 v3 v4 v5 : Option V) (spot' left' : Int), σ' = [some (.ref t), some (.int m), v2, v3, v4, v5] ∧ TapeC H' t c ns spot' left' ∧ spot' ≤ ((n + 1 : Nat) : Int) ∧ Kp t H H', ?_, ?_⟩
    · refine ⟨_, rfl, t, _, rfl, dg_left tp.d, _, rfl, _, _, rfl, rfl, _, rfl, ite2 (fun _ => ?_) (fun _ => ?_)⟩
      · obtain ⟨x, hx⟩ := cell_at tp.ne tp.s0
        refine ⟨_, rfl, t, _, rfl, dg_spot tp.d, _, rfl, t, _, rfl, dg_cells tp.d, c, _, rfl, .inl (SqL.of tp.l), _, _, rfl, ?_⟩
        refine ⟨_, rfl, t, _, rfl, dg_cells tp.d, _, rfl, _, rfl, _, _, rfl, rfl, ?_, c, _, _, _, rfl, rfl, SqL.of tp.l, hx, _, rfl, _, _, rfl, rfl, by show 2 ≤ sizeLine; decide, fun p hp => ?_⟩
        · show (0 : Int) < ((ns.map V.int).length : Int)
          rw [List.length_map]
          have := tp.ne
          omega
        have h1 : (upd H p (.tup [.int x, .int (spot + 1)])) t = some (.dK (tk c spot left)) := by
          rw [upd_ne (ne_of_none tp.d hp)]
          exact tp.d
        refine ⟨p, _, rfl, SqT.of upd_same, rfl, _, _, rfl, _, _, rfl, _, rfl, t, _, rfl, dp_spot _ h1, rfl, ?_⟩
        have c1 : (upd (upd H p (.tup [.int x, .int (spot + 1)])) t (.dK (tk c (spot + 1) left))) c = some (.lst (ns.map V.int)) := by
          rw [upd_ne (show c ≠ t from ne_of tp.l tp.d (by intro z; cases z)), upd_ne (ne_of_none tp.l hp)]
          exact tp.l
        refine ⟨_, rfl, _, _, rfl, rfl, by show (0 : Int) < 2147483647; decide, _, rfl, _, _, rfl, rfl, .inl ⟨by decide, by decide⟩, _, _, rfl, rfl, _, _, rfl, rfl, _, _, rfl, rfl, pow_ok tp.s0 hs hn, _, _, rfl, rfl, ⟨by decide, by decide, by decide⟩, _, _, rfl, rfl, _, _, rfl, rfl, ?_, _, rfl, t, _, rfl, dp_left _ upd_same, ?_⟩
        · show (0 : Int) < 10 ^ (50 : Int).toNat + 151
          decide
        have kp : ∀ z, Kp t H (upd (upd (upd H p (.tup [.int x, .int (spot + 1)])) t (.dK (tk c (spot + 1) left))) t (.dK (tk c (spot + 1) z))) := fun z => ((Kp.new hp).trans Kp.at).trans Kp.at
        have tq : ∀ z, 0 ≤ z → TapeC (upd (upd (upd H p (.tup [.int x, .int (spot + 1)])) t (.dK (tk c (spot + 1) left))) t (.dK (tk c (spot + 1) z))) t c ns (spot + 1) z := fun z hz =>
          ⟨upd_same, by rw [upd_ne (show c ≠ t from ne_of tp.l tp.d (by intro z; cases z))]; exact c1, tp.ne, tp.lt, by have := tp.s0; omega, hz⟩
        have h0 : ∀ a : Int, 0 ≤ a % (10 ^ (50 : Int).toNat + 151) := fun a => Int.emod_nonneg _ (by decide)
        refine ⟨_, rfl, _, _, rfl, rfl, ⟨by decide, by decide, by decide⟩, _, _, rfl, rfl, _, rfl, ite2 (fun hc => ?_) (fun _ => iteF ?_)⟩
        · refine ⟨_, rfl, _, rfl, _, _, rfl, rfl, _, rfl, ite2 (fun _ => ?_) (fun _ => ?_)⟩
          · refine ⟨_, rfl, _, _, rfl, rfl, ⟨by decide, by decide, by decide⟩, _, _, rfl, rfl, _, rfl, t, _, rfl, dp_left _ upd_same, ?_⟩
            have hz : (10 : Int) ^ (18 : Int).toNat ≤ x := of_decide_eq_true hc
            exact ⟨_, _, _, _, spot + 1, x - 10 ^ (18 : Int).toNat, rfl, ⟨upd_same, by rw [upd_ne (show c ≠ t from ne_of tp.l tp.d (by intro z; cases z))]; exact (tq _ (h0 _)).l, tp.ne, tp.lt, by have := tp.s0; omega, by omega⟩, by omega, (kp _).trans Kp.at⟩
          · exact ⟨_, _, _, _, _, _, rfl, tq _ (h0 _), by omega, kp _⟩
        · exact ⟨_, _, _, _, _, _, rfl, tq _ (h0 _), by omega, kp _⟩
      · exact ⟨_, _, _, _, _, _, rfl, tp, by omega, Kp.refl _⟩
    · rintro σ' H' ⟨v2, v3, v4, v5, spot', left', rfl, tp', hs', kp⟩
      refine ⟨_, rfl, t, _, rfl, dg_left tp'.d, _, rfl, _, _, rfl, rfl, hm, _, rfl, t, _, rfl, dg_left tp'.d, _, rfl, _, _, rfl, rfl, ⟨hm, ?_⟩, by show 2 ≤ sizeLine; decide, fun p hp => ?_⟩
      · exact log2_small hm hm2
      have h1 : ∀ o, (upd H' p o) t = some (.dK (tk c spot' left')) := fun o => by
          rw [upd_ne (ne_of_none tp'.d hp)]
          exact tp'.d
      refine ⟨p, _, rfl, SqT.of upd_same, rfl, _, _, rfl, _, _, rfl, _, rfl, t, _, rfl, dp_left _ (h1 _), rfl, ?_⟩
      refine ⟨_, rfl, k _ _ (Int.emod_nonneg _ (by omega)) (Int.emod_lt_of_pos _ hm) ?_ ?_⟩
      · exact ⟨ns, spot', _, ⟨upd_same, by rw [upd_ne (show c ≠ t from ne_of tp'.l tp'.d (by intro z; cases z)), upd_ne (ne_of_none tp'.l hp)]; exact tp'.l, tp'.ne, tp'.lt, tp'.s0, Int.ediv_nonneg tp'.l0 (by omega)⟩, hs'⟩
      · exact (kp.trans (Kp.new hp)).trans Kp.at
/-- a pick from a list or a tuple -/
def spPick (K : PySem.W.Frag) : Sp := fun vs H Q _ => ∃ (t c a : Addr) (xs : List V) (n : Nat), vs = [.ref t, .ref a] ∧ Tape H t c n ∧ n < 2 ^ 40 ∧ (∀ H', Kp t H H' → SqL K H' a xs ∨ SqT K H' a xs) ∧ 0 < xs.length ∧ xs.length ≤ 1000000 ∧
  ∀ (H' : Hp) (i : Nat) (v : V), xs[i]? = some v → Tape H' t c (n + 1) → Kp t H H' → Q v H'
theorem has_pick (T : Top K mg) (h__law_draw : Has P w K mg base 1 "_law_draw" ["_law_tape", "_law_many"] spDraw) : Has P w K mg base 2 "_law_pick" ["_law_tape", "_law_some"] (spPick K) := by
  refine has_of T.d__law_pick sc__law_pick bd__law_pick (fun vs H Q E h => ?_) (fun f cdv A outer s H vs Q E hr h => ?_)
  · obtain ⟨t, c, a, xs, n, rfl, _⟩ := h
    rfl
  · have hu := hu_of hr
    have nd := sc__law_pick.nd
    obtain ⟨t, c, a, xs, n, rfl, tp, hn, hs, h0, h1, k⟩ := h
    refine ⟨_, (pss_one (ps_ret (pe_ix ix_seq (pv 1) (pe_has h__law_draw (hr.mono (by omega)) (by rfl) (pa_cons (pv 0) (pa_cons (pe_callB call_len_seq (by rfl) T.b_len (by decide +kernel) (pa_cons (pv 1) pa_nil)) pa_nil))) (fun _ _ => rfl)))), ?_⟩
    refine ⟨_, rfl, _, rfl, _, rfl, a, xs, rfl, hs H (Kp.refl _), t, c, _, n, rfl, tp, hn, by omega, ?_, fun H' r r0 r1 tp' kp => ?_⟩
    · exact Int.lt_of_le_of_lt (Int.ofNat_le.mpr h1) (by decide +kernel)
    have hi : r.toNat < xs.length := by omega
    have g : xs[r.toNat]? = some xs[r.toNat] := List.getElem?_eq_getElem hi
    rcases hs H' kp with z | z
    · exact .inl ⟨a, xs, r, _, rfl, rfl, z, at_of (by omega) g, k H' _ _ g tp' kp⟩
    · exact .inr (.inl ⟨a, xs, r, _, rfl, rfl, z, at_of (by omega) g, k H' _ _ g tp' kp⟩)
/-- the tape's beginning -/
def spBegun (K : PySem.W.Frag) : Sp := fun vs H Q _ => ∃ (a : Addr) (ns : List Int), vs = [.ref a] ∧ SqL K H a (ns.map V.int) ∧ ns.length ≤ 63 ∧
  ∀ (H' : Hp) (t c : Addr), H t = none → H c = none → Same H H' → Tape H' t c 0 → Q (.ref t) H'
theorem has_begun (T : Top K mg) : Has P w K mg base 1 "_law_begun" ["_law_script"] (spBegun K) := by
  refine has_of T.d__law_begun sc__law_begun bd__law_begun (fun vs H Q E h => ?_) (fun f cdv A outer s H vs Q E hr h => ?_)
  · obtain ⟨a, ns, rfl, _⟩ := h
    rfl
  · have hu := hu_of hr
    have nd := sc__law_begun.nd
    obtain ⟨a, ns, rfl, hS, hl, k⟩ := h
    refine ⟨_, (pss_one (ps_ret (pe_disp (pps_cons pe_str (pe_orT (pe_slice sl_list (pv 0) po_none (po_some pe_int)) (pe_one (pe_lst (pa_cons pe_int pa_nil)))) (pps_cons pe_str pe_int (pps_cons pe_str pe_int pps_nil))) (by rfl) (by rfl) (fun z => by cases z) (by decide)))), ?_⟩
    intro t ht
    have s1 := same_new (o := .dK []) ht
    refine ⟨_, rfl, 63, rfl, a, _, rfl, s1.seq hS, fun q hq => ?_⟩
    have ec : cutV (ns.map V.int) none (some 63) = ns.map V.int := by
      unfold cutV
      rw [HT.sIx_none, show HT.sIx (ns.map V.int).length (ns.map V.int).length (some 63) = min 63 (ns.map V.int).length from HT.sIx_nat _ _ 63, List.drop_zero, List.length_map]
      refine List.take_of_length_le ?_
      rw [List.length_map]
      omega
    rw [ec]
    have nqt : q ≠ t := fun e => by
      rw [e, upd_same] at hq
      cases hq
    have nq : H q = none := by
      rw [← hq, upd_ne nqt]
    cases hns : ns with
    | cons z zs =>
      refine ⟨true, .inl ⟨_, SqL.of upd_same, rfl⟩, iteT ?_⟩
      refine ⟨by rw [upd_ne nqt.symm]; exact upd_same, tk q 0 0, rfl, by show 3 ≤ 15; decide, ?_⟩
      refine k _ t q ht nq (fun b o e => ?_) ⟨z :: zs, 0, 0, ⟨upd_same, by rw [upd_ne nqt]; exact upd_same, by rw [List.length_cons]; omega, by rw [← hns]; exact hl, by decide, by decide⟩, by decide⟩
      rw [upd_ne (ne_of_none e ht), upd_ne (ne_of_none e nq), upd_ne (ne_of_none e ht)]
      exact e
    | nil =>
      refine ⟨false, .inl ⟨_, SqL.of upd_same, rfl⟩, iteF ?_⟩
      refine ⟨by show 1 ≤ sizeLine; decide, fun p hp => ?_⟩
      have npq : p ≠ q := fun e => by
        rw [e, upd_same] at hp
        cases hp
      have npt : p ≠ t := fun e => by
        rw [e, upd_ne nqt.symm, upd_same] at hp
        cases hp
      have np : H p = none := by
        rw [← hp, upd_ne npq, upd_ne npt]
      refine ⟨by rw [upd_ne npt.symm, upd_ne nqt.symm]; exact upd_same, tk p 0 0, rfl, by show 3 ≤ 15; decide, ?_⟩
      refine k _ t p ht np (fun b o e => ?_) ⟨[0], 0, 0, ⟨upd_same, by rw [upd_ne npt]; exact upd_same, by decide, by decide, by decide, by decide⟩, by decide⟩
      rw [upd_ne (ne_of_none e ht), upd_ne (ne_of_none e np), upd_ne (ne_of_none e nq), upd_ne (ne_of_none e ht)]
      exact e
end

/-! ### steps by clauses, as plain functions -/
def tru (on : List Int) : List (Key × V) := on.map fun k => ((Sum.inl k : Key), V.bl true)
def ins (on : List Int) (k : Int) : List Int := if k ∈ on then on else on ++ [k]
theorem tru_val (on : List Int) (k : Int) : valV (tru on) (Sum.inl k : Key) = if k ∈ on then some (V.bl true) else none := by
  induction on with
  | nil => rfl
  | cons a r ih =>
    show valV (((Sum.inl a : Key), V.bl true) :: tru r) (Sum.inl k : Key) = _
    by_cases h : a = k
    · rw [valV_pos (by rw [h]), if_pos (by rw [h]; exact List.mem_cons_self)]
    · rw [valV_neg (fun e => h (Sum.inl.inj e)), ih]
      by_cases hm : k ∈ r
      · rw [if_pos hm, if_pos (List.mem_cons_of_mem _ hm)]
      · rw [if_neg hm, if_neg]
        intro z
        rcases List.mem_cons.mp z with e | e
        · exact h e.symm
        · exact hm e
theorem tru_some (on : List Int) (k : Int) : (valV (tru on) (Sum.inl k : Key)).isSome = decide (k ∈ on) := by
  rw [tru_val]
  by_cases h : k ∈ on
  · rw [if_pos h, decide_eq_true h]
    rfl
  · rw [if_neg h, decide_eq_false h]
    rfl
theorem tru_put (on : List Int) (k : Int) : putK (tru on) (Sum.inl k : Key) (V.bl true) = tru (ins on k) := by
  unfold ins
  by_cases h : k ∈ on
  · rw [if_pos h]
    unfold putK
    rw [if_pos (by rw [valV_any, tru_some, decide_eq_true h])]
    unfold tru
    rw [List.map_map]
    refine List.map_congr_left fun a ha => ?_
    show (if ((Sum.inl a : Key), V.bl true).1 = Sum.inl k then _ else _) = _
    by_cases e : (Sum.inl a : Key) = Sum.inl k
    · rw [if_pos e]
    · rw [if_neg e]
  · rw [if_neg h, putK_new _ (by rw [tru_val, if_neg h])]
    unfold tru
    rw [List.map_append]
    rfl
theorem tru_merge : ∀ (b a : List Int), mergeK (tru a) (tru b) = tru (b.foldl ins a)
  | [], a => rfl
  | k :: r, a => by
    show mergeK (putK (tru a) (Sum.inl k : Key) (V.bl true)) (tru r) = _
    rw [tru_put, tru_merge r]
    rfl
theorem ins_len (on : List Int) (k : Int) : (ins on k).length ≤ on.length + 1 := by
  unfold ins
  split
  · omega
  · rw [List.length_append]
    exact Nat.le_refl _
theorem fold_len : ∀ (b a : List Int), (b.foldl ins a).length ≤ a.length + b.length
  | [], a => Nat.le_refl _
  | k :: r, a => by
    have h := fold_len r (ins a k)
    have h2 := ins_len a k
    show (r.foldl ins (ins a k)).length ≤ a.length + (r.length + 1)
    omega
/-- the marks of a clause that aren't off -/
def left (on c : List Int) : List Int := c.filter fun m => !decide (-m ∈ on)
/-- the clause of a number -/
def clAt (cs : List (List Int)) (r : Int) : Option (List Int) := if 0 ≤ r ∧ r < cs.length then cs[r.toNat]? else none
def step (cs : List (List Int)) (on : List Int) (r : Int) : Option (List Int) :=
  match clAt cs r with
  | none => none
  | some c => match left on c with
    | [x] => if x ∈ on then none else some (ins on x)
    | _ => none
def bring (cs : List (List Int)) : List Int → List Int → Option (List Int)
  | [], on => some on
  | r :: rs, on => match step cs on r with
    | none => none
    | some on' => bring cs rs on'
def broken (cs : List (List Int)) (on : List Int) (r : Int) : Bool :=
  match clAt cs r with
  | none => false
  | some c => (left on c).isEmpty
/-- what the program tells -/
def shownP (cs : List (List Int)) (ps rs : List Int) : Option Int → Bool
  | none => match rs.getLast? with
    | none => false
    | some r => match bring cs rs.dropLast (ps.foldl ins []) with
      | none => false
      | some on => broken cs on r
  | some m => match bring cs rs (ps.foldl ins []) with
    | none => false
    | some on => decide (m ∈ on)
/-- the law's own walk -/
def stepL (cs : List (List Int)) (on : List Int) (r : Int) : Option (List Int × Bool) :=
  match clAt cs r with
  | none => none
  | some c => if (left on c).length > 1 ∨ ((left on c).filter fun m => decide (m ∈ on)) ≠ [] then none else some ((left on c).foldl ins on, (left on c).isEmpty)
def walkL (cs : List (List Int)) : List Int → List Int → Bool → Option (List Int × Bool)
  | [], on, e => some (on, e)
  | r :: rs, on, e => if e = true then none else match stepL cs on r with
    | none => none
    | some (on', e') => walkL cs rs on' e'
def shownL (cs : List (List Int)) (ps rs : List Int) (m : Option Int) : Bool :=
  match walkL cs rs (ps.foldl ins []) false with
  | none => false
  | some (on, e) => match m with
    | none => e
    | some k => !e && decide (k ∈ on)
theorem stepL_of (cs : List (List Int)) (on : List Int) (r : Int) : stepL cs on r = match step cs on r with
    | some on' => some (on', false)
    | none => if broken cs on r = true then some (on, true) else none := by
  unfold stepL step broken
  cases clAt cs r with
  | none => rfl
  | some c =>
    show (if (left on c).length > 1 ∨ ((left on c).filter fun m => decide (m ∈ on)) ≠ [] then none else some ((left on c).foldl ins on, (left on c).isEmpty)) = match (match left on c with | [x] => if x ∈ on then none else some (ins on x) | _ => none) with
      | some on' => some (on', false)
      | none => if (left on c).isEmpty = true then some (on, true) else none
    cases left on c with
    | nil => simp
    | cons x r =>
      cases r with
      | nil =>
        by_cases h : x ∈ on
        · simp [h]
        · simp [h, ins]
      | cons y r => simp
theorem walk_ended (cs : List (List Int)) (rs on : List Int) : walkL cs rs on true = if rs = [] then some (on, true) else none := by
  cases rs with
  | nil => rfl
  | cons r rs => simp [walkL]
theorem walk_mark (cs : List (List Int)) (k : Int) : ∀ (rs on : List Int), (match walkL cs rs on false with
    | none => false
    | some (o, e) => !e && decide (k ∈ o)) = match bring cs rs on with
    | none => false
    | some o => decide (k ∈ o)
  | [], on => rfl
  | r :: rs, on => by
    simp only [walkL, bring]
    rw [if_neg Bool.false_ne_true, stepL_of]
    cases step cs on r with
    | some on' => exact walk_mark cs k rs on'
    | none =>
      by_cases hb : broken cs on r = true
      · simp only [hb, if_true]
        rw [walk_ended]
        cases rs with
        | nil => rfl
        | cons a b => rfl
      · simp only [hb]
        rfl
theorem walk_none (cs : List (List Int)) : ∀ (rs on : List Int), (match walkL cs rs on false with
    | none => false
    | some (_, e) => e) = match rs.getLast? with
    | none => false
    | some r => match bring cs rs.dropLast on with
      | none => false
      | some o => broken cs o r
  | [], on => rfl
  | [r], on => by
    simp only [walkL, bring, List.getLast?_singleton, List.dropLast_singleton]
    rw [if_neg Bool.false_ne_true, stepL_of]
    cases hs : step cs on r with
    | some on' =>
      have nb : broken cs on r = false := by
        unfold step at hs
        unfold broken
        cases hc : clAt cs r with
        | none => rfl
        | some c =>
          rw [hc] at hs
          simp only at hs ⊢
          cases hl : left on c with
          | nil =>
            rw [hl] at hs
            cases hs
          | cons x y => rfl
      rw [nb]
    | none =>
      by_cases hb : broken cs on r = true
      · simp only [hb, if_true]
      · simp only [hb]
        simp
  | r :: r2 :: rs, on => by
    have e1 : (r :: r2 :: rs).getLast? = (r2 :: rs).getLast? := by rw [List.getLast?_cons_cons]
    have e2 : (r :: r2 :: rs).dropLast = r :: (r2 :: rs).dropLast := rfl
    rw [e1, e2]
    simp only [bring]
    rw [show walkL cs (r :: r2 :: rs) on false = match stepL cs on r with | none => none | some (on', e') => walkL cs (r2 :: rs) on' e' by
      show (if false = true then none else _) = _
      rw [if_neg Bool.false_ne_true]]
    rw [stepL_of]
    cases step cs on r with
    | some on' => exact walk_none cs (r2 :: rs) on'
    | none =>
      have z : (match (r2 :: rs).getLast? with | none => false | some r => false) = false := by
        cases (r2 :: rs).getLast? <;> rfl
      by_cases hb : broken cs on r = true
      · simp only [hb, if_true]
        rw [walk_ended]
        simp only [reduceCtorEq, if_false]
        exact z.symm
      · simp only [hb]
        exact z.symm
theorem shown_eq (cs : List (List Int)) (ps rs : List Int) (m : Option Int) : shownL cs ps rs m = shownP cs ps rs m := by
  unfold shownL shownP
  cases m with
  | none => exact walk_none cs rs _
  | some k => exact walk_mark cs k rs _

/-! ### clauses as they stand in the heap -/
structure Cs (H : Hp) (a : Addr) (qs : List Addr) (cs : List (List Int)) : Prop where
  l : H a = some (.lst (qs.map V.ref))
  n : qs.length = cs.length
  t : ∀ (i : Nat) q c, qs[i]? = some q → cs[i]? = some c → H q = some (.tup (c.map V.int))
theorem Cs.same {H H' : Hp} {a : Addr} {qs : List Addr} {cs : List (List Int)} (h : Cs H a qs cs) (s : Same H H') : Cs H' a qs cs := ⟨s _ _ h.l, h.n, fun i q c hq hc => s _ _ (h.t i q c hq hc)⟩
theorem Cs.kp {H H' : Hp} {a d : Addr} {qs : List Addr} {cs : List (List Int)} {kvs : List (Key × V)} (h : Cs H a qs cs) (hd : H d = some (.dK kvs)) (k : Kp d H H') : Cs H' a qs cs :=
  ⟨k _ _ h.l (ne_of h.l hd (by intro z; cases z)), h.n, fun i q c hq hc => k _ _ (h.t i q c hq hc) (ne_of (h.t i q c hq hc) hd (by intro z; cases z))⟩
theorem clAt_some {cs : List (List Int)} {r : Int} {c : List Int} (h : clAt cs r = some c) : 0 ≤ r ∧ r < cs.length ∧ cs[r.toNat]? = some c := by
  unfold clAt at h
  split at h
  · rename_i e
    exact ⟨e.1, e.2, h⟩
  · cases h
theorem clAt_in {cs : List (List Int)} {r : Int} (h0 : 0 ≤ r) (h1 : r < cs.length) : ∃ c, clAt cs r = some c := by
  unfold clAt
  rw [if_pos ⟨h0, h1⟩]
  exact ⟨_, List.getElem?_eq_getElem (by omega)⟩
theorem Cs.at {H : Hp} {a : Addr} {qs : List Addr} {cs : List (List Int)} (h : Cs H a qs cs) {r : Int} {c : List Int} (hc : clAt cs r = some c) : ∃ q, atI (qs.map V.ref) r = some (.ref q) ∧ H q = some (.tup (c.map V.int)) := by
  obtain ⟨h0, h1, h2⟩ := clAt_some hc
  have hn := h.n
  have l : r.toNat < qs.length := by omega
  refine ⟨qs[r.toNat], at_of (j := r.toNat) (by omega) ?_, h.t _ _ _ (List.getElem?_eq_getElem l) h2⟩
  rw [List.getElem?_map, List.getElem?_eq_getElem l]
  rfl
theorem len_zero (l : List Int) : decide (V.int ((l.map V.int).length : Nat) = V.int 0) = l.isEmpty := by
  cases l with
  | nil => rfl
  | cons y r =>
    refine decide_eq_false fun z => ?_
    have z2 := V.int.inj z
    rw [List.length_map, List.length_cons] at z2
    omega
theorem drop_at {α : Type} {xs : List α} {i : Nat} {x : α} (h : xs[i]? = some x) : xs.drop i = x :: xs.drop (i + 1) := by
  obtain ⟨l, e⟩ := List.getElem?_eq_some_iff.mp h
  rw [List.drop_eq_getElem_cons l, e]
theorem int_at {rs : List Int} {i : Nat} {x : V} (h : (rs.map V.int)[i]? = some x) : ∃ r, x = .int r ∧ rs[i]? = some r := by
  rw [List.getElem?_map] at h
  cases e : rs[i]? with
  | none =>
    rw [e] at h
    cases h
  | some r =>
    rw [e] at h
    exact ⟨r, (Option.some.inj h).symm, rfl⟩

/-! ### small things -/
theorem pick_int {zs : List Int} {i : Nat} {v : V} (h : (zs.map V.int)[i]? = some v) : ∃ z, v = .int z ∧ z ∈ zs := by
  obtain ⟨r, e, hr⟩ := int_at h
  exact ⟨r, e, List.mem_of_getElem? hr⟩
theorem seq_in {n : Nat} {i : Int} (h0 : 0 ≤ i) (h1 : i < n) : seqIndex? i n = some i.toNat := by
  have e : ixN n i = some i.toNat := by
    unfold ixN
    rw [if_pos h0, if_pos h1]
  exact (ixN_seq e).1
theorem pow8000 {x : Int} (h : x ≤ 1000000) : x < 2 ^ 8000 := Int.lt_of_le_of_lt h (by decide +kernel)
theorem Tape.sq {H : Hp} {t c p : Addr} {n : Nat} {xs : List V} (h : Tape H t c n) (e : H p = some (.lst xs)) {H' : Hp} (k : Kp t H H') : H' p = some (.lst xs) := k p _ e (by
  obtain ⟨ns, spot, left, tc, _⟩ := h
  exact ne_of e tc.d (by intro z; cases z))
theorem Tape.ne_lst' {H : Hp} {t c p : Addr} {n : Nat} {xs : List V} (h : Tape H t c n) (e : H p = some (.lst xs)) : p ≠ t := by
  obtain ⟨ns, spot, left, tc, _⟩ := h
  exact ne_of e tc.d (by intro z; cases z)
theorem getElem_snoc {α : Type} {xs : List α} {x y : α} {i : Nat} (h : (xs ++ [x])[i]? = some y) : (i < xs.length ∧ xs[i]? = some y) ∨ (i = xs.length ∧ x = y) := by
  by_cases c : i < xs.length
  · rw [List.getElem?_append_left c] at h
    exact .inl ⟨c, h⟩
  · rw [List.getElem?_append_right (by omega)] at h
    have l := (List.getElem?_eq_some_iff.mp h).1
    simp only [List.length_cons, List.length_nil] at l
    have e : i - xs.length = 0 := by omega
    rw [e] at h
    exact .inr ⟨by omega, Option.some.inj h⟩
theorem same_mut {H H' : Hp} {D : Addr} {o : HO} (s : Same H H') (h : H D = none) : Same H (upd H' D o) := fun b u e => by
  rw [upd_ne (ne_of_none e h)]
  exact s b u e
theorem take_snoc {xs : List Int} {i : Nat} {x : Int} (h : xs[i]? = some x) : xs.take (i + 1) = xs.take i ++ [x] := by
  rw [List.take_add_one, h]
  rfl

/-! ### rules: a text a few times, a tuple a few times -/
theorem op_repTK {X : Cx} {K : PySem.W.Frag} (h : X.K = K) : OpR X (binaryOp .Mult) (rRepT K) := h ▸ op_repT
def repS (k : Int) (z : Str) : Str := ⟨(List.replicate k.toNat z.cps).foldl (· ++ ·) #[]⟩
theorem op_repS {X : Cx} : OpR X (binaryOp .Mult) (fun x y H Q => ∃ (z : Str) (k : Int), x = .str z ∧ y = .int k ∧ 2 ≤ k ∧ k ≤ 1000 ∧ 1 ≤ z.length ∧ z.length ≤ 1000 ∧ (repS k z).length ≤ sizeLine ∧ Q (.str (repS k z)) H) := by
  intro pins s σ H x y v u Q I rx ry h
  obtain ⟨z, k, rfl, rfl, h1, h2, h3, h4, h5, q⟩ := h
  obtain ⟨t, rfl⟩ := rx
  obtain ⟨t', rfl⟩ := ry
  have c1 : ¬ k < 1 := by omega
  have c2 : (k == 1 || z.length == 0) = false := by
    rw [Bool.or_eq_false_iff]
    exact ⟨by simp; omega, by simp; omega⟩
  refine PySem.P.mul_str ?_ (fun _ _ => ?_) (fun _ _ => ?_) ?_
  · rw [Bool.or_eq_false_iff]
    exact ⟨decide_eq_false (by omega), decide_eq_false (by omega)⟩
  · have e : (1000 : Int) ≤ (2 ^ 63 - 1) / k := (Int.le_ediv_iff_mul_le (by omega)).mpr (by omega)
    omega
  · have e : z.length * k.toNat ≤ 1000 * 1000 := Nat.mul_le_mul h4 (by omega)
    have e2 : sizeLine = 16777216 := sizeLine_eq
    show decide (_ > sizeLine) = false
    refine decide_eq_false ?_
    omega
  · rw [if_neg c1, if_neg (by rw [c2]; exact Bool.false_ne_true)]
    exact ⟨h5, .str (repS k z), H, I.tok _, ⟨_, rfl⟩, q⟩
/-- a def whose promise can't be asked -/
theorem has_zero {P : Program} {w : World} {K : PySem.W.Frag} {mg : Str → Option Value} {base : Heap} {x : Str} {st : Stmt} {ps : List Str} {sp : Sp} (A : At K mg x st) (B : BindsAll x st ps) (no : ∀ vs H Q E, ¬ sp vs H Q E) : Has P w K mg base 0 x ps sp := by
  obtain ⟨f, fd, hm, F⟩ := A.ex
  exact ⟨f, fd, hm, F.kp, F.binds B, fun vs H Q E h => absurd h (no _ _ _ _), fun A out s H args us vs Q E _ _ _ _ h => absurd h (no _ _ _ _)⟩
/-! ### data made of tuples: they stay whatever becomes of lists -/
mutual
inductive Tp (H : Hp) : V → PyData → Prop
  | non : Tp H .non .none
  | bl (b : Bool) : Tp H (.bl b) (.bool b)
  | int (i : Int) : Tp H (.int i) (.int i)
  | str (x : Str) : Tp H (.str x) (.str x)
  | tup {a : Addr} {xs : List V} {ds : List PyData} : H a = some (.tup xs) → TpAll H xs ds → Tp H (.ref a) (.tuple ds)
inductive TpAll (H : Hp) : List V → List PyData → Prop
  | nil : TpAll H [] []
  | cons {v : V} {vs : List V} {d : PyData} {ds : List PyData} : Tp H v d → TpAll H vs ds → TpAll H (v :: vs) (d :: ds)
end
/-- tuples stay -/
def KT (H H' : Hp) : Prop := ∀ a xs, H a = some (.tup xs) → H' a = some (.tup xs)
theorem KT.refl {H : Hp} : KT H H := fun _ _ h => h
theorem KT.trans {H H1 H2 : Hp} (a : KT H H1) (b : KT H1 H2) : KT H H2 := fun c xs h => b c xs (a c xs h)
theorem KT.same {H H' : Hp} (s : Same H H') : KT H H' := fun a xs h => s a _ h
theorem KT.kp {H H' : Hp} {t c : Addr} {n : Nat} (tp : Tape H t c n) (k : Kp t H H') : KT H H' := fun a xs h => by
  obtain ⟨ns', sp', lf', tc, _⟩ := tp
  exact k _ _ h (ne_of h tc.d (by intro z; cases z))
theorem KT.lst {H : Hp} {D : Addr} {xs : List V} {o : HO} (h : H D = some (.lst xs)) : KT H (upd H D o) := fun a ys e => by
  rw [upd_ne (ne_of e h (by intro z; cases z))]
  exact e
theorem KT.new {H : Hp} {p : Addr} {o : HO} (h : H p = none) : KT H (upd H p o) := KT.same (same_new h)
mutual
theorem Tp.kt {H H' : Hp} (s : KT H H') : ∀ {v : V} {d : PyData}, Tp H v d → Tp H' v d
  | _, _, .non => .non
  | _, _, .bl b => .bl b
  | _, _, .int i => .int i
  | _, _, .str x => .str x
  | _, _, .tup h r => .tup (s _ _ h) (TpAll.kt s r)
theorem TpAll.kt {H H' : Hp} (s : KT H H') : ∀ {vs : List V} {ds : List PyData}, TpAll H vs ds → TpAll H' vs ds
  | _, _, .nil => .nil
  | _, _, .cons h r => .cons (Tp.kt s h) (TpAll.kt s r)
end
mutual
theorem Tp.dp {K : PySem.W.Frag} {H : Hp} : ∀ {v : V} {d : PyData}, Tp H v d → Dp K H v d
  | _, _, .non => .non
  | _, _, .bl b => .bl b
  | _, _, .int i => .int i
  | _, _, .str x => .str x
  | _, _, .tup h r => .tup (SqT.of h) (TpAll.dp r)
theorem TpAll.dp {K : PySem.W.Frag} {H : Hp} : ∀ {vs : List V} {ds : List PyData}, TpAll H vs ds → DpAll K H vs ds
  | _, _, .nil => .nil
  | _, _, .cons h r => .cons (Tp.dp h) (TpAll.dp r)
end
theorem TpAll.snoc {H : Hp} {v : V} {d : PyData} : ∀ {vs : List V} {ds : List PyData}, TpAll H vs ds → Tp H v d → TpAll H (vs ++ [v]) (ds ++ [d])
  | _, _, .nil, h => .cons h .nil
  | _, _, .cons a r, h => .cons a (r.snoc h)
theorem TpAll.app {H : Hp} {ws : List V} {es : List PyData} : ∀ {vs : List V} {ds : List PyData}, TpAll H vs ds → TpAll H ws es → TpAll H (vs ++ ws) (ds ++ es)
  | _, _, .nil, h => h
  | _, _, .cons a r, h => .cons a (r.app h)
theorem TpAll.len {H : Hp} : ∀ {vs : List V} {ds : List PyData}, TpAll H vs ds → vs.length = ds.length
  | _, _, .nil => rfl
  | _, _, .cons _ r => by rw [List.length_cons, List.length_cons, r.len]
theorem TpAll.get {H : Hp} : ∀ {vs : List V} {ds : List PyData} {i : Nat} {d : PyData}, TpAll H vs ds → ds[i]? = some d → ∃ v, vs[i]? = some v ∧ Tp H v d
  | _, _, _, _, .nil, e => by cases e
  | _, _, 0, _, .cons a _, e => ⟨_, rfl, by cases e; exact a⟩
  | _, _, i + 1, _, .cons _ r, e => r.get e
theorem tp_rep {H : Hp} {v : V} {d : PyData} (h : Tp H v d) : ∀ n, TpAll H (List.replicate n v) (List.replicate n d)
  | 0 => .nil
  | n + 1 => .cons h (tp_rep h n)
theorem Tp.new {H : Hp} {p : Addr} {xs : List V} {ds : List PyData} (n : H p = none) (r : TpAll H xs ds) : Tp (upd H p (.tup xs)) (.ref p) (.tuple ds) := .tup upd_same (r.kt (KT.new n))
theorem flat_one {v : V} : ∀ n : Nat, (List.replicate n [v]).flatten = List.replicate n v
  | 0 => rfl
  | n + 1 => by
    rw [List.replicate_succ, List.flatten_cons, flat_one n]
    rfl
/-! ### a comprehension over a range, whose items are new -/
section
variable {K : PySem.W.Frag} {tt : TT} {te : TE} {vs : List Nat} {σ : L2.St} {H : Hp} {D : Addr} {Qd : Hp → Prop} {j : Nat}
theorem lc_rangeC {lo c : Int} {n : Nat} {g : TG} (Pv : Nat → Hp → Prop) (h0 : Pv 0 (upd H D (.lst [])))
    (hs : ∀ i H, i < n → Pv i H → g (.int (lo + (i : Nat) * c)) (wipe σ vs) H fun σ2 H2 => wipe σ2 vs = wipe σ vs ∧ tt σ2 H2 fun b H3 =>
      if b = true then te σ2 H3 fun y H4 => ∃ acc, H4 D = some (.lst acc) ∧ acc.length < sizeLine ∧ Pv (i + 1) (upd H4 D (.lst (acc ++ [y]))) else Pv (i + 1) H3) (hd : ∀ H, Pv n H → Qd H) :
    ∃ W : Nat → Nat → Hp → Prop, (∃ m, W 0 m (upd H D (.lst []))) ∧ ∀ i m H, W i m H →
      ((Itc lo c n).stop i H ∧ Qd H) ∨ ((Itc lo c n).go i H ∧ ∃ Nx : Hp → Prop, (∀ H', Nx H' → ∃ m', m' < m ∧ W (i + 1) m' H') ∧ ∀ x H', (Itc lo c n).yld i H x H' → g x (wipe σ vs) H' fun σ2 H2 => wipe σ2 vs = wipe σ vs ∧ tt σ2 H2 fun b H3 =>
        if b = true then te σ2 H3 fun y H4 => ∃ acc, H4 D = some (.lst acc) ∧ acc.length < sizeLine ∧ Nx (upd H4 D (.lst (acc ++ [y]))) else Nx H3) := by
  refine ⟨fun i m H => m = n - i ∧ i ≤ n ∧ Pv i H, ⟨n, by simp, Nat.zero_le _, h0⟩, ?_⟩
  rintro i m H ⟨rfl, hi, p⟩
  by_cases hlt : i < n
  · refine .inr ⟨hlt, Pv (i + 1), fun H' p' => ⟨n - (i + 1), by omega, rfl, hlt, p'⟩, fun x H' y => ?_⟩
    obtain ⟨rfl, rfl⟩ := y
    exact hs i H' hlt p
  · have e : i = n := by omega
    subst e
    exact .inl ⟨Nat.le_refl _, hd H p⟩
/-- what stands at a turn: so many items that are data -/
structure TpT (H H' : Hp) (D : Addr) (ds : List PyData) : Prop where
  s : Same H H'
  ex : ∃ xs, H' D = some (.lst xs) ∧ TpAll H' xs ds
theorem TpT.new (hD : H D = none) : TpT H (upd H D (.lst [])) D [] := ⟨same_new hD, [], upd_same, .nil⟩
/-- an item more -/
theorem TpT.put {H1 H2 : Hp} {y : V} {d : PyData} {ds : List PyData} (hD : H D = none) (p : TpT H H1 D ds) (s : Same H1 H2) (small : ds.length < sizeLine) (hy : Tp H2 y d) :
    ∃ acc, H2 D = some (.lst acc) ∧ acc.length < sizeLine ∧ TpT H (upd H2 D (.lst (acc ++ [y]))) D (ds ++ [d]) := by
  obtain ⟨xs, e, r⟩ := p.ex
  have e2 := s _ _ e
  refine ⟨xs, e2, by rw [r.len]; exact small, same_mut (p.s.trans s) hD, _, upd_same, ?_⟩
  exact ((r.kt (KT.same s)).snoc hy).kt (KT.lst e2)
end

/-! ### zip of two lists or tuples, in any mix -/
/-- what a side of it is -/
inductive Wy where
  | ls
  | tp
def Wy.sq : Wy → Heap → Addr → Array Value → Prop
  | .ls, h, a, xs => h.IsList a xs
  | .tp, h, a, xs => h.IsTuple a xs
def Wy.it : Wy → Heap → Addr → Addr → Nat → Prop
  | .ls, h, a, l, i => h.IsListIter a l i
  | .tp, h, a, l, i => h.IsTupleIter a l i
def Wy.of (K : PySem.W.Frag) : Wy → Hp → Addr → List V → Prop
  | .ls, H, a, xs => SqL K H a xs
  | .tp, H, a, xs => SqT K H a xs
def Wy.ob (k : Wy) (l : Addr) : Obj := { cls := .type (match k with | .ls => "list_iterator" | .tp => "tuple_iterator"), data := .fields #[.ref l, .int 0 0] }
theorem Wy.sq_at {k : Wy} {h h' : Heap} {a : Addr} {xs : Array Value} (x : k.sq h a xs) (e : ∀ o, h.get? a = some o → h'.get? a = some o) : k.sq h' a xs := by
  cases k <;> exact (let ⟨o, ho, r⟩ := x; ⟨o, e _ ho, r⟩)
theorem Wy.it_at {k : Wy} {h h' : Heap} {a l : Addr} {i : Nat} (x : k.it h a l i) (e : ∀ o, h.get? a = some o → h'.get? a = some o) : k.it h' a l i := by
  cases k <;> exact (let ⟨o, ho, r⟩ := x; ⟨o, e _ ho, r⟩)
theorem Wy.it_ob {k : Wy} {h : Heap} {a l : Addr} {i : Nat} (x : k.it h a l i) : ∃ o, h.get? a = some o ∧ o.data = .fields #[.ref l, .int i 0] := by
  cases k <;> exact (let ⟨o, ho, _, d⟩ := x; ⟨o, ho, d⟩)
theorem Wy.it_of {k : Wy} {h : Heap} {a l : Addr} (e : h.get? a = some (k.ob l)) : k.it h a l 0 := by
  cases k <;> exact ⟨_, e, rfl, rfl⟩
theorem Wy.same {k : Wy} {K : PySem.W.Frag} {H H' : Hp} {a : Addr} {xs : List V} (s : Same H H') (x : k.of K H a xs) : k.of K H' a xs := by
  cases k
  · exact Same.seq s x
  · exact Same.seqT s x
section
variable {prog : Program} {w : World} {A : Around} {E : Value → Shared → Prop} {s : Shared}
theorem Wy.iter {k : Wy} {l : Addr} {xs : Array Value} {Q : Value → Shared → Prop} (hl : k.sq s.heap l xs) (q : Q (.ref s.heap.objs.size) { s with heap := s.heap.push (k.ob l) }) : wpAny (model prog w) A (pyIter (.ref l)) Q E s := by
  cases k
  · exact wpAny_pyIter_list hl q
  · exact wpAny_pyIter_tuple hl q
theorem Wy.next {k : Wy} {b l : Addr} {i : Nat} {xs : Array Value} {x : Value} {Q : Value → Shared → Prop} (hit : k.it s.heap b l i) (hl : k.sq s.heap l xs) (hx : xs[i]? = some x)
    (q : ∀ h', k.it h' b l (i + 1) → Heap.SameBut b s.heap h' → Q x { s with heap := h' }) : wpAny (model prog w) A (Builtin.SmallTypes.nextOf (.ref b)) Q E s := by
  cases k
  · exact wpAny_nextOf_list_item hit hl hx q
  · exact RZ.nextOf_tuple_item hit hl hx q
theorem Wy.stop {k : Wy} {b l : Addr} {i : Nat} {xs : Array Value} {Q : Value → Shared → Prop} (hh : A.handled = none) (hit : k.it s.heap b l i) (hl : k.sq s.heap l xs) (hx : xs[i]? = none)
    (q : ∀ h' e, Heap.ExtBut b s.heap h' → (∃ o, h'.get? e = some o ∧ o.cls = .type "StopIteration") → E (.ref e) { s with heap := h' }) : wpAny (model prog w) A (Builtin.SmallTypes.nextOf (.ref b)) Q E s := by
  cases k
  · exact wpAny_nextOf_list_end hh hit hl hx q
  · exact RZ.nextOf_tuple_end hh hit hl hx q
/-- what stays where four objects change -/
def But4 (z t i j : Addr) (h h' : Heap) : Prop := ∀ c o, c ≠ z → c ≠ t → c ≠ i → c ≠ j → h.get? c = some o → h'.get? c = some o
variable {k k' : Wy} {z ti tu i j a b : Addr} {m n : Nat} {xs ys : Array Value} {x y p q : Value}
theorem zipw_item {Q : Value → Shared → Prop} (D : ZipApart z ti tu i j a b) (hz : IsZip s.heap z ti tu .none) (hti : IsPair s.heap ti (.ref i) (.ref j)) (htu : IsPair s.heap tu p q)
    (hi : k.it s.heap i a m) (hj : k'.it s.heap j b n) (ha : k.sq s.heap a xs) (hb : k'.sq s.heap b ys) (hx : xs[m]? = some x) (hy : ys[n]? = some y)
    (go : ∀ h', IsZip h' z ti tu (rawInt s.heap.objs.size) → IsPair h' tu x y → k.it h' i a (m + 1) → k'.it h' j b (n + 1) → IsPair h' s.heap.objs.size x y → h'.objs.size = s.heap.objs.size + 1 → But4 z tu i j s.heap h' → Q (.ref s.heap.objs.size) { s with heap := h' }) :
    wpAny (model prog w) A (Builtin.«zip.__next__» ⟨[.ref z], []⟩) (fun fin s' => ∃ v, fin = .done (.ret v) ∧ Q v s') E s := by
  show wpAny _ _ (field (.ref z) 2 >>= _) _ _ _
  refine wpAny_bind (wpAny_field hz rfl (x := .bool false) rfl ?_); show wpAny _ _ (field (.ref z) 3 >>= _) _ _ _
  refine wpAny_bind (wpAny_field hz rfl (x := .ref ti) rfl (wpAny_bind (wpAny_seqItems hti rfl ?_)))
  show wpAny _ _ (Builtin.SmallTypes.ownedTupleIsFree (.ref z) >>= _) _ _ _; refine wpAny_bind ?_
  unfold Builtin.SmallTypes.ownedTupleIsFree
  refine wpAny_bind (wpAny_field hz rfl (x := .none) rfl (wpAny_pure ?_)); simp only [if_true]
  refine wpAny_bind (wpAny_rule (wpAny_bind (wpAny_field hz rfl (x := .ref tu) rfl (wpAny_bind (wpAny_setField_rec hz (by simp) fun g1 z1 e1 => ?_)))))
  replace z1 : IsZip g1 z ti tu .ellipsis := z1
  refine wpAny_bind ?_; simp only [List.zipIdx_cons, List.zipIdx_nil, List.forIn_cons, List.forIn_nil]
  refine wpAny_bind (wpAny_bind (wpAny_onRaise ?_)); show wpAny _ _ (Builtin.SmallTypes.nextOf (.ref i) >>= _) _ _ _
  refine wpAny_bind (Wy.next (Wy.it_at hi fun o => e1.extBut _ _ D.i1z) (Wy.sq_at ha fun o => e1.extBut _ _ D.l1z) hx fun g2 i2 e2 => wpAny_pure ?_)
  have t2 : IsPair g2 tu p q := e2.extBut _ _ D.TOi1 (e1.extBut _ _ D.TOz htu)
  refine wpAny_bind (wpAny_seqItems t2 rfl (wpAny_bind (wpAny_updateSeq_pair t2 fun g3 t3 e3 => ?_)))
  replace t3 : IsPair g3 tu x q := t3
  refine wpAny_bind (wpAny_letGo (wpAny_pure (wpAny_bind (wpAny_bind (wpAny_onRaise ?_)))))
  show wpAny _ _ (Builtin.SmallTypes.nextOf (.ref j) >>= _) _ _ _
  refine wpAny_bind (Wy.next (Wy.it_at hj fun o g => e3.extBut _ _ D.TOi2.symm (e2.extBut _ _ D.i12.symm (e1.extBut _ _ D.i2z g)))
    (Wy.sq_at hb fun o g => e3.extBut _ _ D.l2TO (e2.extBut _ _ D.l2i1 (e1.extBut _ _ D.l2z g))) hy fun g4 j4 e4 => wpAny_pure ?_)
  have t4 : IsPair g4 tu x q := e4.extBut _ _ D.TOi2 t3
  refine wpAny_bind (wpAny_seqItems t4 rfl (wpAny_bind (wpAny_updateSeq_pair t4 fun g5 t5 e5 => ?_)))
  replace t5 : IsPair g5 tu x y := t5
  refine wpAny_bind (wpAny_letGo (wpAny_pure (wpAny_pure (wpAny_bind (wpAny_seqItems t5 rfl (wpAny_bind (wpAny_newTuple ?_)))))))
  have sz : g5.objs.size = s.heap.objs.size := by rw [e5.1, e4.1, e3.1, e2.1, e1.1]
  have z5 : IsZip g5 z ti tu .ellipsis := e5.extBut _ _ D.TOz.symm (e4.extBut _ _ D.i2z.symm (e3.extBut _ _ D.TOz.symm (e2.extBut _ _ D.i1z.symm z1)))
  have all5 : But4 z tu i j s.heap g5 := fun c o c1 c2 c3 c4 g => e5.extBut _ _ c2 (e4.extBut _ _ c4 (e3.extBut _ _ c2 (e2.extBut _ _ c3 (e1.extBut _ _ c1 g))))
  have i5 : k.it g5 i a (m + 1) := Wy.it_at i2 fun o g => e5.extBut _ _ D.TOi1.symm (e4.extBut _ _ D.i12 (e3.extBut _ _ D.TOi1.symm g))
  have j5 : k'.it g5 j b (n + 1) := Wy.it_at j4 fun o g => e5.extBut _ _ D.TOi2.symm g
  have zlt : z < g5.objs.size := Heap.lt_size z5
  show wpAny _ _ (Builtin.SmallTypes.ownedTupleHandOut (.ref z) (.ref g5.objs.size) >>= _) _ _ _; refine wpAny_bind ?_
  unfold Builtin.SmallTypes.ownedTupleHandOut
  have z6 : IsZip (g5.push { cls := .type "tuple", data := .seq #[x, y] }) z ti tu .ellipsis := Heap.get?_push_of_some _ z5
  refine wpAny_bind (wpAny_setField_rec z6 (by simp) fun g7 z7 e7 => ?_); replace z7 : IsZip g7 z ti tu (rawInt g5.objs.size) := z7
  refine wpAny_setField_rec z7 (by simp) fun g8 z8 e8 => ?_; replace z8 : IsZip g8 z ti tu (rawInt g5.objs.size) := z8
  have up : ∀ c o, c ≠ z → g5.get? c = some o → g8.get? c = some o := fun c o c1 g => e8.extBut _ _ c1 (e7.extBut _ _ c1 (Heap.get?_push_of_some _ g))
  have t8 : IsPair g8 g5.objs.size x y := e8.extBut _ _ (Nat.ne_of_gt zlt) (e7.extBut _ _ (Nat.ne_of_gt zlt) (Heap.get?_push_size _ rfl))
  have sz8 : g8.objs.size = g5.objs.size + 1 := by rw [e8.1, e7.1, Heap.size_push]
  rw [sz] at z8 t8 sz8
  refine wpAny_pure ⟨_, rfl, ?_⟩; show Q (.ref g5.objs.size) _; rw [sz]
  exact go g8 z8 (up _ _ D.TOz t5) (Wy.it_at i5 fun o g => up _ o D.i1z g) (Wy.it_at j5 fun o g => up _ o D.i2z g) t8 sz8 fun c o c1 c2 c3 c4 g => up c o c1 (all5 c o c1 c2 c3 c4 g)
theorem zipw_end {Q : Fin → Shared → Prop} (hh : A.handled = none) (D : ZipApart z ti tu i j a b) (hz : IsZip s.heap z ti tu .none) (hti : IsPair s.heap ti (.ref i) (.ref j)) (htu : IsPair s.heap tu p q)
    (hi : k.it s.heap i a m) (hj : k'.it s.heap j b n) (ha : k.sq s.heap a xs) (hb : k'.sq s.heap b ys) (no : xs[m]? = none ∨ ys[n]? = none)
    (go : ∀ h' e, But4 z tu i j s.heap h' → (∃ o, h'.get? e = some o ∧ o.cls = .type "StopIteration") → E (.ref e) { s with heap := h' }) : wpAny (model prog w) A (Builtin.«zip.__next__» ⟨[.ref z], []⟩) Q E s := by
  show wpAny _ _ (field (.ref z) 2 >>= _) _ _ _
  refine wpAny_bind (wpAny_field hz rfl (x := .bool false) rfl ?_); show wpAny _ _ (field (.ref z) 3 >>= _) _ _ _
  refine wpAny_bind (wpAny_field hz rfl (x := .ref ti) rfl (wpAny_bind (wpAny_seqItems hti rfl ?_)))
  show wpAny _ _ (Builtin.SmallTypes.ownedTupleIsFree (.ref z) >>= _) _ _ _; refine wpAny_bind ?_
  unfold Builtin.SmallTypes.ownedTupleIsFree
  refine wpAny_bind (wpAny_field hz rfl (x := .none) rfl (wpAny_pure ?_)); simp only [if_true]
  refine wpAny_bind (wpAny_rule (wpAny_bind (wpAny_field hz rfl (x := .ref tu) rfl (wpAny_bind (wpAny_setField_rec hz (by simp) fun g1 z1 e1 => ?_)))))
  replace z1 : IsZip g1 z ti tu .ellipsis := z1
  refine wpAny_bind ?_; simp only [List.zipIdx_cons, List.zipIdx_nil, List.forIn_cons, List.forIn_nil]
  refine wpAny_bind (wpAny_bind (wpAny_onRaise ?_)); show wpAny _ _ (Builtin.SmallTypes.nextOf (.ref i) >>= _) _ _ _
  cases hx : xs[m]? with
  | none =>
    refine wpAny_bind (Wy.stop hh (Wy.it_at hi fun o => e1.extBut _ _ D.i1z) (Wy.sq_at ha fun o => e1.extBut _ _ D.l1z) hx fun g2 e e2 ⟨oe, he, ce⟩ => ?_)
    have z2 : IsZip g2 z ti tu .ellipsis := e2 _ _ D.i1z.symm z1
    have ez : e ≠ z := fun u => by subst u; rw [z2] at he; cases he; simp at ce
    exact wpAny_setField_rec z2 (by simp) fun g3 _ e3 => go g3 e (fun c o c1 _ c3 _ u => e3.extBut _ _ c1 (e2 _ _ c3 (e1.extBut _ _ c1 u))) ⟨oe, e3.extBut _ _ ez he, ce⟩
  | some x =>
    have hy : ys[n]? = none := by
      rcases no with h | h
      · rw [hx] at h
        cases h
      · exact h
    refine wpAny_bind (Wy.next (Wy.it_at hi fun o => e1.extBut _ _ D.i1z) (Wy.sq_at ha fun o => e1.extBut _ _ D.l1z) hx fun g2 i2 e2 => wpAny_pure ?_)
    have t2 : IsPair g2 tu p q := e2.extBut _ _ D.TOi1 (e1.extBut _ _ D.TOz htu)
    refine wpAny_bind (wpAny_seqItems t2 rfl (wpAny_bind (wpAny_updateSeq_pair t2 fun g3 t3 e3 => ?_)))
    refine wpAny_bind (wpAny_letGo (wpAny_pure (wpAny_bind (wpAny_bind (wpAny_onRaise ?_)))))
    show wpAny _ _ (Builtin.SmallTypes.nextOf (.ref j) >>= _) _ _ _
    refine wpAny_bind (Wy.stop hh (Wy.it_at hj fun o g => e3.extBut _ _ D.TOi2.symm (e2.extBut _ _ D.i12.symm (e1.extBut _ _ D.i2z g)))
      (Wy.sq_at hb fun o g => e3.extBut _ _ D.l2TO (e2.extBut _ _ D.l2i1 (e1.extBut _ _ D.l2z g))) hy fun g4 e e4 ⟨oe, he, ce⟩ => ?_)
    have z4 : IsZip g4 z ti tu .ellipsis := e4 _ _ D.i2z.symm (e3.extBut _ _ D.TOz.symm (e2.extBut _ _ D.i1z.symm z1))
    have ez : e ≠ z := fun u => by subst u; rw [z4] at he; cases he; simp at ce
    exact wpAny_setField_rec z4 (by simp) fun g5 _ e5 => go g5 e (fun c o c1 c2 c3 c4 u => e5.extBut _ _ c1 (e4 _ _ c4 (e3.extBut _ _ c2 (e2.extBut _ _ c3 (e1.extBut _ _ c1 u))))) ⟨oe, e5.extBut _ _ ez he, ce⟩
theorem zipw_next {Q : Option Value → Shared → Prop} (D : ZipApart z ti tu i j a b) (hz : IsZip s.heap z ti tu .none) (hti : IsPair s.heap ti (.ref i) (.ref j)) (htu : IsPair s.heap tu p q)
    (hi : k.it s.heap i a m) (hj : k'.it s.heap j b n) (ha : k.sq s.heap a xs) (hb : k'.sq s.heap b ys) (hx : xs[m]? = some x) (hy : ys[n]? = some y)
    (go : ∀ h', IsZip h' z ti tu (rawInt s.heap.objs.size) → IsPair h' tu x y → k.it h' i a (m + 1) → k'.it h' j b (n + 1) → IsPair h' s.heap.objs.size x y → h'.objs.size = s.heap.objs.size + 1 → But4 z tu i j s.heap h' → Q (some (.ref s.heap.objs.size)) { s with heap := h' }) :
    wpAny (model prog w) A (pyNext (.ref z)) Q E s := by
  have hT : s.TypeIs (.ref z) "zip" := ⟨_, hz, rfl⟩
  unfold pyNext
  refine wpAny_bind (wpAny_attempt (wpAny_callSpecial?_slot (name := Str.ofString "__next__") hT F.slot_zip_next (wpAny_call_entry F.slot_zip_next hT F.entry_zip_next (zipw_item D hz hti htu hi hj ha hb hx hy fun h' a1 a2 a3 a4 a5 a6 a7 => ?_) (F.args_zip_next_1 _))))
  exact wpAny_pure (go h' a1 a2 a3 a4 a5 a6 a7)
theorem zipw_done {Q : Option Value → Shared → Prop} (hh : A.handled = none) (D : ZipApart z ti tu i j a b) (hz : IsZip s.heap z ti tu .none) (hti : IsPair s.heap ti (.ref i) (.ref j)) (htu : IsPair s.heap tu p q)
    (hi : k.it s.heap i a m) (hj : k'.it s.heap j b n) (ha : k.sq s.heap a xs) (hb : k'.sq s.heap b ys) (no : xs[m]? = none ∨ ys[n]? = none)
    (go : ∀ h', But4 z tu i j s.heap h' → Q none { s with heap := h' }) : wpAny (model prog w) A (pyNext (.ref z)) Q E s := by
  have hT : s.TypeIs (.ref z) "zip" := ⟨_, hz, rfl⟩
  unfold pyNext
  refine wpAny_bind (wpAny_attempt (wpAny_callSpecial?_slot (name := Str.ofString "__next__") hT F.slot_zip_next (wpAny_call_entry F.slot_zip_next hT F.entry_zip_next (zipw_end hh D hz hti htu hi hj ha hb no fun h' e hk ⟨o, ho, hc⟩ => ?_) (F.args_zip_next_1 _))))
  exact wpAny_bind (wpAny_isInstance (T := "StopIteration") (b := true) ⟨o, ho, hc⟩ isSubtype_stop (wpAny_pure (go _ hk)))
end
def zw1 (h : Heap) (k : Wy) (a : Addr) : Heap := h.push (k.ob a)
def zw2 (h : Heap) (k k' : Wy) (a b : Addr) : Heap := (zw1 h k a).push (k'.ob b)
def zw3 (h : Heap) (k k' : Wy) (a b : Addr) : Heap := (zw2 h k k' a b).push { cls := .type "tuple", data := .seq #[.ref h.objs.size, .ref (zw1 h k a).objs.size] }
def zw4 (h : Heap) (k k' : Wy) (a b : Addr) : Heap := (zw3 h k k' a b).push { cls := .type "tuple", data := .seq #[.none, .none] }
def zw5 (h : Heap) (k k' : Wy) (a b : Addr) : Heap := (zw4 h k k' a b).push { cls := .type "zip", data := .fields #[.none, .bool false, .bool false, .ref (zw2 h k k' a b).objs.size, .ref (zw3 h k k' a b).objs.size] }
theorem meets_zipw (k k' : Wy) (a b : Addr) (xs ys : Array Value) :
    Meets (Builtin.«zip.__new__» ⟨[.type "zip", .ref a, .ref b], []⟩) (fun _ R s => k.sq s.heap a xs ∧ k'.sq s.heap b ys ∧ R (.ok (.ret (.ref (zw4 s.heap k k' a b).objs.size))) { s with heap := zw5 s.heap k k' a b }) :=
  .of_wp fun prog w A R s h => by
    obtain ⟨hp, g, d, tk, os⟩ := s
    obtain ⟨ha, hb, h⟩ := h
    have hsub := sub_zip
    have sa : k.sq (Shared.heap ⟨hp, g, d, tk, os⟩) a xs := ha
    have sb : k'.sq (Shared.heap ⟨hp.push (k.ob a), g, d, tk, os⟩) b ys := Wy.sq_at hb fun o e => Heap.get?_push_of_some _ e
    wp_walk using Wy.iter sa, Wy.iter sb
    exact ⟨_, rfl, h⟩
theorem call_zipw {prog : Program} {w : World} {A : Around} {E : Value → Shared → Prop} {s : Shared} {k k' : Wy} {a b : Addr} {xs ys : Array Value} {Q : Value → Shared → Prop} (ha : k.sq s.heap a xs) (hb : k'.sq s.heap b ys)
    (go : ∀ h', IsZip h' (s.heap.objs.size + 4) (s.heap.objs.size + 2) (s.heap.objs.size + 3) .none → IsPair h' (s.heap.objs.size + 2) (.ref s.heap.objs.size) (.ref (s.heap.objs.size + 1)) → IsPair h' (s.heap.objs.size + 3) .none .none →
      k.it h' s.heap.objs.size a 0 → k'.it h' (s.heap.objs.size + 1) b 0 → (∀ c o, s.heap.get? c = some o → h'.get? c = some o) → Q (.ref (s.heap.objs.size + 4)) { s with heap := h' }) :
    wpAny (model prog w) A (call (.type "zip") [.ref a, .ref b]) Q E s := by
  refine callType_new F.called_zip (by decide) (F.typeCall_zip_2 _ _) (F.newCall_zip_2 _ _) (fun obj => F.args_object_init_3 obj _ _) F.entry_zip_new (meets_zipw k k' a b xs ys) ⟨ha, hb, ?_⟩
  have n1 : (zw1 s.heap k a).objs.size = s.heap.objs.size + 1 := Heap.size_push ..
  have n2 : (zw2 s.heap k k' a b).objs.size = s.heap.objs.size + 2 := by rw [zw2, Heap.size_push, n1]
  have n3 : (zw3 s.heap k k' a b).objs.size = s.heap.objs.size + 3 := by rw [zw3, Heap.size_push, n2]
  have n4 : (zw4 s.heap k k' a b).objs.size = s.heap.objs.size + 4 := by rw [zw4, Heap.size_push, n3]
  have u1 : ∀ c o, s.heap.get? c = some o → (zw1 s.heap k a).get? c = some o := fun c o e => Heap.get?_push_of_some _ e
  have u2 : ∀ c o, (zw1 s.heap k a).get? c = some o → (zw2 s.heap k k' a b).get? c = some o := fun c o e => Heap.get?_push_of_some _ e
  have u3 : ∀ c o, (zw2 s.heap k k' a b).get? c = some o → (zw3 s.heap k k' a b).get? c = some o := fun c o e => Heap.get?_push_of_some _ e
  have u4 : ∀ c o, (zw3 s.heap k k' a b).get? c = some o → (zw4 s.heap k k' a b).get? c = some o := fun c o e => Heap.get?_push_of_some _ e
  have u5 : ∀ c o, (zw4 s.heap k k' a b).get? c = some o → (zw5 s.heap k k' a b).get? c = some o := fun c o e => Heap.get?_push_of_some _ e
  have o5 : (zw5 s.heap k k' a b).get? (zw4 s.heap k k' a b).objs.size = some _ := Heap.get?_push_size _ rfl
  have o4 : (zw4 s.heap k k' a b).get? (zw3 s.heap k k' a b).objs.size = some _ := Heap.get?_push_size _ rfl
  have o3 : (zw3 s.heap k k' a b).get? (zw2 s.heap k k' a b).objs.size = some _ := Heap.get?_push_size _ rfl
  have o2 : (zw2 s.heap k k' a b).get? (zw1 s.heap k a).objs.size = some (k'.ob b) := Heap.get?_push_size _ (by cases k' <;> rfl)
  have o1 : (zw1 s.heap k a).get? s.heap.objs.size = some (k.ob a) := Heap.get?_push_size _ (by cases k <;> rfl)
  rw [n2, n3, n4] at o5
  rw [n3] at o4
  rw [n1, n2] at o3
  rw [n1] at o2
  show _ ∧ _
  rw [n4]
  exact ⟨⟨_, o5, rfl⟩, go _ o5 (u5 _ _ (u4 _ _ o3)) (u5 _ _ o4) (Wy.it_of (u5 _ _ (u4 _ _ (u3 _ _ (u2 _ _ o1))))) (Wy.it_of (u5 _ _ (u4 _ _ (u3 _ _ o2)))) fun c o e => u5 _ _ (u4 _ _ (u3 _ _ (u2 _ _ (u1 _ _ e))))⟩
theorem Wy.inv {k : Wy} {X : Cx} {pins : List (Addr × Obj)} {σ : L2.St} {H : Hp} {s : Shared} {a : Addr} {xs : List V} (I : Inv X pins σ H s) (h : k.of X.K H a xs) : ∃ its : List Value, Vals xs its ∧ k.sq s.heap a its.toArray := by
  cases k
  · obtain ⟨its, r, p, _⟩ := I.list h
    exact ⟨its, r, p.isList⟩
  · obtain ⟨its, r, p, _⟩ := I.tuple h
    exact ⟨its, r, p⟩
theorem Wy.inj {k : Wy} {X : Cx} {pins : List (Addr × Obj)} {σ : L2.St} {H : Hp} {s : Shared} {a : Addr} {xs ys : List V} (I : Inv X pins σ H s) (h : k.of X.K H a xs) (h' : k.of X.K H a ys) : xs = ys := by
  cases k
  · exact I.list_inj h h'
  · exact I.tuple_inj h h'
/-- what stands at a and b at each turn, the items in new pairs -/
def Itw (K : PySem.W.Frag) (k k' : Wy) (a b : Addr) : It :=
  ⟨fun n H => ∃ (xs ys : List V) (x y : V), k.of K H a xs ∧ k'.of K H b ys ∧ xs[n]? = some x ∧ ys[n]? = some y,
    fun n H v H' => ∃ p x y, v = .ref p ∧ H p = none ∧ H' = upd H p (.tup [x, y]) ∧ (∀ xs, k.of K H a xs → xs[n]? = some x) ∧ ∀ ys, k'.of K H b ys → ys[n]? = some y,
    fun n H => ∃ xs ys : List V, k.of K H a xs ∧ k'.of K H b ys ∧ (xs.length ≤ n ∨ ys.length ≤ n)⟩
theorem five {c z ti tu i j : Addr} (h : c ∈ [z, ti, tu, i, j]) : c = z ∨ c = ti ∨ c = tu ∨ c = i ∨ c = j := by simpa using h
theorem turn_zipw {P : Program} {w : World} {K : PySem.W.Frag} {elts : List Expr} {kk : Nat} {tpos : Pos} {k k' : Wy} {a b z ti tu i j : Addr} (D : ZipApart z ti tu i j a b) :
    Turn P w K (.Tuple elts kk tpos) (Itw K k k' a b) [z, ti, tu, i, j] z (fun n h => IsZip h z ti tu .none ∧ IsPair h ti (.ref i) (.ref j) ∧ (∃ x y, IsPair h tu x y) ∧ k.it h i a n ∧ k'.it h j b n) where
  mem := List.mem_cons_self ..
  obj := fun n h ⟨hz, hti, ⟨x, y, htu⟩, hi, hj⟩ c hc => by
    obtain ⟨o1, e1, d1⟩ := Wy.it_ob hi
    obtain ⟨o2, e2, d2⟩ := Wy.it_ob hj
    rcases five hc with rfl | rfl | rfl | rfl | rfl
    · exact ⟨_, hz, fun v q => nomatch q⟩
    · exact ⟨_, hti, fun v q => nomatch q⟩
    · exact ⟨_, htu, fun v q => nomatch q⟩
    · exact ⟨o1, e1, fun v q => by rw [d1] at q; cases q⟩
    · exact ⟨o2, e2, fun v q => by rw [d2] at q; cases q⟩
  keep := fun n h h' ⟨hz, hti, ⟨x, y, htu⟩, hi, hj⟩ kp => ⟨kp z (by simp) _ hz, kp ti (by simp) _ hti, ⟨x, y, kp tu (by simp) _ htu⟩, Wy.it_at hi (kp i (by simp)), Wy.it_at hj (kp j (by simp))⟩
  item := by
    intro X hP hw hK hc n pins s σ H E I hf st hg
    subst hP hw hK
    obtain ⟨hz, hti, ⟨x0, y0, htu⟩, hi, hj⟩ := st
    obtain ⟨xs, ys, x, y, hqx, hqy, hx, hy⟩ := hg
    obtain ⟨its, rv, pa⟩ := Wy.inv I hqx
    obtain ⟨its2, rv2, pb⟩ := Wy.inv I hqy
    obtain ⟨u, hu, ru⟩ := rv.get hx
    obtain ⟨u2, hu2, ru2⟩ := rv2.get hy
    have zlt : z < s.heap.objs.size := Heap.lt_size hz
    refine zipw_next D hz hti htu hi hj pa pb (x := u) (y := u2) (by simpa using hu) (by simpa using hu2) fun h' z' tu' i' j' hT hsz hk => ⟨_, rfl, wpAny_letOwnedTupleGo_zip (s := { s with heap := h' }) z' fun h2 z2 sb => ?_⟩
    have hT2 : h2.get? s.heap.objs.size = some { cls := .type "tuple", data := .seq #[u, u2] } := (sb.2 _ (Nat.ne_of_gt zlt)).trans hT
    have hk2 : ∀ c o, c ∉ [z, ti, tu, i, j] → s.heap.get? c = some o → h2.get? c = some o := fun c o hb q =>
      (sb.2 c fun q' => hb (by simp [q'])).trans (hk c o (fun q' => hb (by simp [q'])) (fun q' => hb (by simp [q'])) (fun q' => hb (by simp [q'])) (fun q' => hb (by simp [q'])) q)
    have I1 : Inv X pins σ (upd H s.heap.objs.size (.tup [x, y])) { s with heap := h2 } :=
      I.turnedNew (t' := s.toks) (ch := [z, ti, tu, i, j]) hk2 hf (Nat.le_refl _) ⟨by show 2 ≤ sizeLine; decide, [u, u2], .cons ru (.cons ru2 .nil), ⟨_, hT2, rfl, _, rfl⟩⟩
    refine ⟨.ref s.heap.objs.size, _, I1, rfl, ⟨_, x, y, rfl, I.hok.fresh (Nat.le_refl _), rfl, fun l hl => by rw [Wy.inj I hl hqx]; exact hx, fun l hl => by rw [Wy.inj I hl hqy]; exact hy⟩,
      ⟨z2, (sb.2 _ D.TIz).trans (hk _ _ D.TIz D.TITO D.TIi1 D.TIi2 hti), ⟨u, u2, (sb.2 _ D.TOz).trans tu'⟩, Wy.it_at i' fun o q => (sb.2 _ D.i1z).trans q, Wy.it_at j' fun o q => (sb.2 _ D.i2z).trans q⟩, fun c hcm => ?_⟩
    obtain ⟨o1, e1, _⟩ := Wy.it_ob hi
    obtain ⟨o2, e2, _⟩ := Wy.it_ob hj
    have clt : c < s.heap.objs.size := by
      rcases five hcm with rfl | rfl | rfl | rfl | rfl
      · exact zlt
      · exact Heap.lt_size hti
      · exact Heap.lt_size htu
      · exact Heap.lt_size e1
      · exact Heap.lt_size e2
    rw [upd_ne (Nat.ne_of_lt clt)]
    exact (hf c hcm).1
  done := by
    intro X hP hw hK hc n pins s σ H E I hf st hg
    subst hP hw hK
    obtain ⟨hz, hti, ⟨x0, y0, htu⟩, hi, hj⟩ := st
    obtain ⟨xs, ys, hqx, hqy, fin⟩ := hg
    obtain ⟨its, rv, pa⟩ := Wy.inv I hqx
    obtain ⟨its2, rv2, pb⟩ := Wy.inv I hqy
    have l1 := rv.length
    have l2 := rv2.length
    have no : its.toArray[n]? = none ∨ its2.toArray[n]? = none := by
      rcases fin with q | q
      · exact .inl (by rw [List.getElem?_toArray]; exact List.getElem?_eq_none (by omega))
      · exact .inr (by rw [List.getElem?_toArray]; exact List.getElem?_eq_none (by omega))
    refine zipw_done (I.ok.hd hc) D hz hti htu hi hj pa pb no fun h' hk => ⟨rfl, I.turnedL (t' := s.toks) (ch := [z, ti, tu, i, j]) (fun c o hb q => ?_) hf⟩
    exact hk c o (fun q' => hb (by simp [q'])) (fun q' => hb (by simp [q'])) (fun q' => hb (by simp [q'])) (fun q' => hb (by simp [q'])) q
  self := fun A i s Q E st h => wpAny_pyIter_zip st.1 h
def iZipW (K : PySem.W.Frag) (ta : TA) : TI := fun σ H R => ta σ H fun vs H1 => ∃ k k' a b xs ys, vs = [.ref a, .ref b] ∧ Wy.of K k H1 a xs ∧ Wy.of K k' H1 b ys ∧ R (Itw K k k' a b) H1
theorem pi_zipW {X : Cx} {K : PySem.W.Frag} (hK : X.K = K) {e e2 : Expr} {ta : TA} {p pos tpos : Pos} {elts : List Expr} {kk : Nat} (hg : Gl X "zip") (hm : X.mg "zip" = none) (ha : PA X [e, e2] ta)
    (hs : starEach [e, e2] X.env = (false, eval e X.env) :: starEach [e2] X.env := by rfl) (hpl : (backTo pos (starEach [e2] X.env)).any (·.1) = false := by rfl) :
    PI X (.Tuple elts kk tpos) (.Call (.Name "zip" p) [e, e2] [] pos) (iZipW K ta) := by
  subst hK
  refine ⟨fun pins s σ H R I h => Call_ (ld_blt I hg hm PyProof.Rows.boot_zip (PyProof.Rows.callWith_type1 (thn (ha.run pos pins s σ H _ I h) fun us s1 ⟨vs, H1, I1, r1, q1⟩ => ?_) hs hpl))⟩
  obtain ⟨k, k', a, b, xs, ys, ex, hqx, hqy, q⟩ := q1
  subst ex
  cases r1 with
  | cons r rr =>
    cases rr with
    | cons r' rr =>
      cases rr
      cases r
      cases r'
      obtain ⟨its, rv, pa⟩ := Wy.inv I1 hqx
      obtain ⟨its2, rv2, pb⟩ := Wy.inv I1 hqy
      have la : a < s1.heap.objs.size := by
        cases k <;> exact let ⟨o, e, _⟩ := pa; Heap.lt_size e
      have lb : b < s1.heap.objs.size := by
        cases k' <;> exact let ⟨o, e, _⟩ := pb; Heap.lt_size e
      refine call_zipw pa pb fun h' hz hti htu hi hj hk => wpAny_pyIter_zip hz ?_
      have I2 : Inv X pins σ H1 { s1 with heap := h' } := I1.kept (t' := s1.toks) hk
      refine ⟨s1.heap.objs.size + 4, [s1.heap.objs.size + 4, s1.heap.objs.size + 2, s1.heap.objs.size + 3, s1.heap.objs.size, s1.heap.objs.size + 1], _, _, H1, rfl, I2, turn_zipw (PySem.W.ktu_apart s1.heap.objs.size a b la lb), ⟨hz, hti, ⟨_, _, htu⟩, hi, hj⟩, fun c hcm => ?_, q⟩
      have hle : s1.heap.objs.size ≤ c := by
        rcases five hcm with rfl | rfl | rfl | rfl | rfl
        · exact Nat.le_add_right _ _
        · exact Nat.le_add_right _ _
        · exact Nat.le_add_right _ _
        · exact Nat.le_refl _
        · exact Nat.le_add_right _ _
      exact I1.fpOk hle (I1.hok.fresh hle)
/-- over pairs of two of one length that the block leaves as they are -/
theorem lc_zipw {K : PySem.W.Frag} {k k' : Wy} {a b : Addr} {xs ys : List V} {g : TG} {tt : TT} {te : TE} {vs : List Nat} {σ : L2.St} {H1 : Hp} {D : Addr} {Qd : Hp → Prop} (hl : xs.length = ys.length) (Pv : Nat → Hp → Prop) (h0 : Pv 0 (upd H1 D (.lst [])))
    (hq : ∀ n H, Pv n H → k.of K H a xs ∧ k'.of K H b ys)
    (hs : ∀ n x y p H, xs[n]? = some x → ys[n]? = some y → Pv n H → H p = none → g (.ref p) (wipe σ vs) (upd H p (.tup [x, y])) fun σ2 H2 => wipe σ2 vs = wipe σ vs ∧ tt σ2 H2 fun c H3 =>
      if c = true then te σ2 H3 fun y H4 => ∃ acc, H4 D = some (.lst acc) ∧ acc.length < sizeLine ∧ Pv (n + 1) (upd H4 D (.lst (acc ++ [y]))) else Pv (n + 1) H3) (hd : ∀ H, Pv xs.length H → Qd H) :
    ∃ W : Nat → Nat → Hp → Prop, (∃ m, W 0 m (upd H1 D (.lst []))) ∧ ∀ n m H, W n m H →
      ((Itw K k k' a b).stop n H ∧ Qd H) ∨ ((Itw K k k' a b).go n H ∧ ∃ Nx : Hp → Prop, (∀ H', Nx H' → ∃ m', m' < m ∧ W (n + 1) m' H') ∧ ∀ x H', (Itw K k k' a b).yld n H x H' → g x (wipe σ vs) H' fun σ2 H2 => wipe σ2 vs = wipe σ vs ∧ tt σ2 H2 fun c H3 =>
        if c = true then te σ2 H3 fun y H4 => ∃ acc, H4 D = some (.lst acc) ∧ acc.length < sizeLine ∧ Nx (upd H4 D (.lst (acc ++ [y]))) else Nx H3) := by
  refine ⟨fun n m H => m = xs.length - n ∧ n ≤ xs.length ∧ Pv n H, ⟨xs.length, rfl, Nat.zero_le _, h0⟩, ?_⟩
  rintro n m H ⟨rfl, hn, pv⟩
  obtain ⟨qx, qy⟩ := hq n H pv
  by_cases lt : n < xs.length
  · refine .inr ⟨⟨xs, ys, _, _, qx, qy, List.getElem?_eq_getElem lt, List.getElem?_eq_getElem (by omega)⟩, Pv (n + 1), fun H' p' => ⟨xs.length - (n + 1), by omega, rfl, lt, p'⟩, fun v H' yv => ?_⟩
    obtain ⟨p, x, y, rfl, np, rfl, f1, f2⟩ := yv
    exact hs n x y p H (f1 xs qx) (f2 ys qy) pv np
  · have e : n = xs.length := by omega
    subst e
    exact .inl ⟨⟨xs, ys, qx, qy, .inl (Nat.le_refl _)⟩, hd H pv⟩

/-! ### pieces of tuples -/
theorem cut_nat (xs : List V) (i j : Nat) : cutV xs (some (i : Int)) (some (j : Int)) = (xs.drop i).take (j - i) := by
  unfold cutV
  rw [HT.sIx_nat, HT.sIx_nat]
  by_cases h : i ≤ xs.length
  · rw [Nat.min_eq_left h]
    by_cases h2 : j ≤ xs.length
    · rw [Nat.min_eq_left h2]
    · rw [Nat.min_eq_right (by omega), List.take_of_length_le (by rw [List.length_drop]; omega), List.take_of_length_le (by rw [List.length_drop]; omega)]
  · rw [List.drop_eq_nil_of_le (by omega : xs.length ≤ min i xs.length), List.drop_eq_nil_of_le (by omega : xs.length ≤ i), List.take_nil, List.take_nil]
theorem cut_nat0 (xs : List V) (j : Nat) : cutV xs none (some (j : Int)) = xs.take j := by
  unfold cutV
  rw [HT.sIx_none, HT.sIx_nat, List.drop_zero, Nat.sub_zero]
  by_cases h2 : j ≤ xs.length
  · rw [Nat.min_eq_left h2]
  · rw [Nat.min_eq_right (by omega), List.take_of_length_le (Nat.le_refl _), List.take_of_length_le (by omega)]
section
variable {K : PySem.W.Frag} {H : Hp} {a b : Addr} {xs ys : List V} {Q : VK}
theorem tup_take {m : Nat} (ha : H a = some (.tup xs)) (k : ∀ H' r, Same H H' → H' r = some (.tup (xs.take m)) → Q (.ref r) H') : rSlA K (.ref a) none (some (m : Int)) H Q := by
  refine ⟨a, xs, rfl, SqT.of ha, fun h => ?_, fun _ p hp => ?_⟩
  · rw [HT.sIx_nat] at h
    refine k H a (Same.refl _) ?_
    rw [List.take_of_length_le (by omega)]
    exact ha
  · rw [cut_nat0]
    exact k _ p (same_new hp) upd_same
theorem tup_mid {i j : Nat} (ha : H a = some (.tup xs)) (k : ∀ H' r, Same H H' → H' r = some (.tup ((xs.drop i).take (j - i))) → Q (.ref r) H') : rSlA K (.ref a) (some (i : Int)) (some (j : Int)) H Q := by
  refine ⟨a, xs, rfl, SqT.of ha, fun h => ?_, fun _ p hp => ?_⟩
  · rw [HT.sIx_nat, HT.sIx_nat] at h
    refine k H a (Same.refl _) ?_
    have e : (xs.drop i).take (j - i) = xs := by
      rw [← cut_nat]
      unfold cutV
      rw [HT.sIx_nat, HT.sIx_nat, h.1, h.2, Nat.sub_zero, List.drop_zero, List.take_length]
    rw [e]
    exact ha
  · rw [cut_nat]
    exact k _ p (same_new hp) upd_same
theorem tup_cat (ha : H a = some (.tup xs)) (hb : H b = some (.tup ys)) (small : xs.length + ys.length ≤ sizeLine) (k : ∀ H' r, Same H H' → H' r = some (.tup (xs ++ ys)) → Q (.ref r) H') : rCatA K (.ref a) (.ref b) H Q := by
  refine ⟨a, b, xs, ys, rfl, rfl, SqT.of ha, SqT.of hb, small, fun e => ?_, fun _ e => ?_, fun _ _ p hp => k _ p (same_new hp) upd_same⟩
  · subst e
    exact k H b (Same.refl _) hb
  · subst e
    refine k H a (Same.refl _) ?_
    rw [List.append_nil]
    exact ha
end
section
variable {X : Cx}
theorem sl_tupAK {K : PySem.W.Frag} (h : X.K = K) : SlR X (rSlA K) := h ▸ sl_tupA
theorem op_catAK {K : PySem.W.Frag} (h : X.K = K) : OpR X (binaryOp .Add) (rCatA K) := h ▸ op_catA
end
theorem pg_tupK {X : Cx} {K : PySem.W.Frag} {pos : Pos} {es : List Expr} {k : Nat} {t : TGs} {n : Nat} (hK : X.K = K) (hc : X.calm = true) (h : PGs X es t)
    (hn : (assignEach es X.env).length = n := by rfl) (hst : (assignEach es X.env).findIdx? (·.1) = none := by rfl) : PG X (.Tuple es k pos) (gTup K n t) := hK ▸ pg_tup hc h hn hst
theorem iteFd {p : Prop} [Decidable p] {A B : Prop} (h : ¬ p) (b : B) : if decide p = true then A else B := by
  rw [if_neg fun z => h (of_decide_eq_true z)]
  exact b
theorem iteTd {p : Prop} [Decidable p] {A B : Prop} (h : p) (a : A) : if decide p = true then A else B := by
  rw [if_pos (decide_eq_true h)]
  exact a

/-! ### pieces of lists and tuples -/
theorem cut_ij (xs : List V) (i j : Nat) : cutV xs (some (i : Int)) (some (j : Int)) = (xs.drop i).take (j - i) := by
  unfold cutV
  rw [HT.sIx_nat, HT.sIx_nat]
  by_cases h : i ≤ xs.length
  · rw [Nat.min_eq_left h]
    by_cases h2 : j ≤ xs.length
    · rw [Nat.min_eq_left h2]
    · rw [Nat.min_eq_right (by omega), List.take_of_length_le (by rw [List.length_drop]; omega), List.take_of_length_le (by rw [List.length_drop]; omega)]
  · rw [List.drop_eq_nil_of_le (by omega : xs.length ≤ min i xs.length), List.drop_eq_nil_of_le (by omega : xs.length ≤ i), List.take_nil, List.take_nil]
theorem cut_0j (xs : List V) (j : Nat) : cutV xs none (some (j : Int)) = xs.take j := by
  unfold cutV
  rw [HT.sIx_none, HT.sIx_nat, List.drop_zero, Nat.sub_zero]
  by_cases h2 : j ≤ xs.length
  · rw [Nat.min_eq_left h2]
  · rw [Nat.min_eq_right (by omega), List.take_of_length_le (Nat.le_refl _), List.take_of_length_le (by omega)]
theorem cut_iE (xs : List V) (i : Nat) : cutV xs (some (i : Int)) none = xs.drop i := by
  unfold cutV
  rw [HT.sIx_none, HT.sIx_nat]
  by_cases h : i ≤ xs.length
  · rw [Nat.min_eq_left h, List.take_of_length_le (by rw [List.length_drop]; omega)]
  · rw [List.drop_eq_nil_of_le (by omega : xs.length ≤ min i xs.length), List.drop_eq_nil_of_le (by omega : xs.length ≤ i), List.take_nil]
section
variable {K : PySem.W.Frag} {H : Hp} {a : Addr} {xs : List V} {Q : VK}
theorem piece_take {m : Int} {n : Nat} (e : m = (n : Int)) (ha : H a = some (.tup xs)) (k : ∀ H' r, Same H H' → H' r = some (.tup (xs.take n)) → Q (.ref r) H') : rSlA K (.ref a) none (some m) H Q := by
  subst e
  refine ⟨a, xs, rfl, SqT.of ha, fun h => ?_, fun _ p hp => ?_⟩
  · rw [HT.sIx_nat] at h
    refine k H a (Same.refl _) ?_
    rw [List.take_of_length_le (by omega)]
    exact ha
  · rw [cut_0j]
    exact k _ p (same_new hp) upd_same
theorem piece_mid {m l : Int} {i j : Nat} (e1 : m = (i : Int)) (e2 : l = (j : Int)) (ha : H a = some (.tup xs)) (k : ∀ H' r, Same H H' → H' r = some (.tup ((xs.drop i).take (j - i))) → Q (.ref r) H') : rSlA K (.ref a) (some m) (some l) H Q := by
  subst e1 e2
  refine ⟨a, xs, rfl, SqT.of ha, fun h => ?_, fun _ p hp => ?_⟩
  · rw [HT.sIx_nat, HT.sIx_nat] at h
    refine k H a (Same.refl _) ?_
    have e : (xs.drop i).take (j - i) = xs := by
      rw [← cut_ij]
      unfold cutV
      rw [HT.sIx_nat, HT.sIx_nat, h.1, h.2, Nat.sub_zero, List.drop_zero, List.take_length]
    rw [e]
    exact ha
  · rw [cut_ij]
    exact k _ p (same_new hp) upd_same
theorem piece_drop {m : Int} {i : Nat} (e1 : m = (i : Int)) (ha : H a = some (.tup xs)) (k : ∀ H' r, Same H H' → H' r = some (.tup (xs.drop i)) → Q (.ref r) H') : rSlA K (.ref a) (some m) none H Q := by
  subst e1
  refine ⟨a, xs, rfl, SqT.of ha, fun h => ?_, fun _ p hp => ?_⟩
  · rw [HT.sIx_nat, HT.sIx_none] at h
    refine k H a (Same.refl _) ?_
    have e : xs.drop i = xs := by
      rw [← cut_iE]
      unfold cutV
      rw [HT.sIx_nat, HT.sIx_none, h.1, Nat.sub_zero, List.drop_zero, List.take_length]
    rw [e]
    exact ha
  · rw [cut_iE]
    exact k _ p (same_new hp) upd_same
end
theorem piece_dropC {K : PySem.W.Frag} {σ : L2.St} {H : Hp} {a : Addr} {xs : List V} {Q : VK} {m : Int} {i : Nat} (e1 : m = (i : Int)) (ha : H a = some (.tup xs)) (k : ∀ H' r, Same H H' → H' r = some (.tup (xs.drop i)) → Q (.ref r) H') :
    tNoPart σ H fun u H3 => rSlA K (.ref a) (some m) u H3 Q := piece_drop e1 ha k
theorem cut_one1 (l : List Int) (a : Nat) : cutV (l.map V.int) (some (a : Int)) (some ((a : Int) + 1)) = ((l.drop a).take 1).map V.int := by
  rw [show (a : Int) + 1 = ((a + 1 : Nat) : Int) from rfl, cut_ij, show a + 1 - a = 1 by omega, List.map_take, List.map_drop]
theorem flat_l (l : List Int) : (l.map V.int).all flatV = true := by
  rw [List.all_eq_true]
  intro v hv
  obtain ⟨i, _, rfl⟩ := List.mem_map.mp hv
  rfl
theorem inV_l (x : Int) (l : List Int) : inV (.int x) (l.map V.int) = decide (x ∈ l) := by
  unfold inV
  rw [List.any_map]
  by_cases h : x ∈ l
  · rw [decide_eq_true h, List.any_eq_true]
    exact ⟨x, h, decide_eq_true rfl⟩
  · rw [decide_eq_false h, List.any_eq_false]
    intro y hy z
    have z : decide (y = x) = true := z
    exact h (of_decide_eq_true z ▸ hy)
theorem iteFq {p : Prop} [Decidable p] {A B : Prop} (h : ¬ p) (b : B) : if decide p = true then A else B := by
  rw [if_neg fun z => h (of_decide_eq_true z)]
  exact b
theorem none_left {xs : List V} : (xs.filter fun _ => false).map (fun x => x) = [] := by
  rw [List.filter_eq_nil_iff.mpr fun _ _ => Bool.false_ne_true]
  rfl

/-! ### comprehensions whose items are told by a relation that stays -/
section
variable {K : PySem.W.Frag} {a : Addr} {xs : List V} {te : TE} {vs : List Nat} {σ : L2.St} {H : Hp} {D : Addr} {Qd : Hp → Prop} {j : Nat}
/-- what is told of the items so far -/
structure RelAt (Rel : Nat → V → Hp → Prop) (D : Addr) (i : Nat) (H H' : Hp) : Prop where
  sm : Same H H'
  ys : ∃ ys, H' D = some (.lst ys) ∧ ys.length = i ∧ ∀ (k : Nat) y, ys[k]? = some y → Rel k y H'
theorem rel_turn {Rel : Nat → V → Hp → Prop} {i : Nat} {x : V} {H' : Hp} {P : Hp → Prop} (keep : ∀ i y H1 H2, Rel i y H1 → Same H1 H2 → Rel i y H2) (mu : ∀ i y H1 l o, H1 D = some (.lst l) → Rel i y H1 → Rel i y (upd H1 D o)) (hD : H D = none)
    (wip : wipe ((wipe σ vs).set j (some x)) vs = wipe σ vs) (r : RelAt Rel D i H H') (small : i < 1000000) (he : ∀ R : VK, (∀ y H'', Same H' H'' → Rel i y H'' → R y H'') → te ((wipe σ vs).set j (some x)) H' R) (k : ∀ H'', RelAt Rel D (i + 1) H H'' → P H'') :
    gName j x (wipe σ vs) H' fun σ2 H2 => wipe σ2 vs = wipe σ vs ∧ tYes σ2 H2 fun b H3 => if b = true then te σ2 H3 fun y H4 => ∃ acc, H4 D = some (.lst acc) ∧ acc.length < sizeLine ∧ P (upd H4 D (.lst (acc ++ [y]))) else P H3 := by
  have line : 1000000 < sizeLine := by decide
  obtain ⟨sm, ys, hd, hl, hr⟩ := r
  refine ⟨wip, yes_go (he _ fun y H4 s4 ry => ⟨ys, s4 _ _ hd, by omega, k _ ⟨fun b o e => ?_, ys ++ [y], upd_same, by rw [List.length_append, hl]; rfl, fun m z hz => ?_⟩⟩)⟩
  · rw [upd_ne (ne_of_none e hD)]
    exact s4 _ _ (sm _ _ e)
  · refine mu _ _ _ _ _ (s4 _ _ hd) ?_
    by_cases c : m < ys.length
    · rw [List.getElem?_append_left c] at hz
      exact keep _ _ _ _ (hr m z hz) s4
    · rw [List.getElem?_append_right (by omega)] at hz
      have l := (List.getElem?_eq_some_iff.mp hz).1
      simp only [List.length_cons, List.length_nil] at l
      have e0 : m - ys.length = 0 := by omega
      rw [e0] at hz
      cases hz
      have em : m = i := by omega
      rw [em]
      exact ry
theorem rel_zero {Rel : Nat → V → Hp → Prop} (hD : H D = none) : RelAt Rel D 0 H (upd H D (.lst [])) := ⟨same_new hD, [], upd_same, rfl, fun k y e => by simp at e⟩
theorem lc_relL (Rel : Nat → V → Hp → Prop) (keep : ∀ i y H1 H2, Rel i y H1 → Same H1 H2 → Rel i y H2) (mu : ∀ i y H1 l o, H1 D = some (.lst l) → Rel i y H1 → Rel i y (upd H1 D o)) (hx : SqL K H a xs) (hD : H D = none) (hz : xs.length ≤ 1000000)
    (wip : ∀ x, wipe ((wipe σ vs).set j (some x)) vs = wipe σ vs) (he : ∀ (i : Nat) x, xs[i]? = some x → ∀ H', Same H H' → ∀ R : VK, (∀ y H'', Same H' H'' → Rel i y H'' → R y H'') → te ((wipe σ vs).set j (some x)) H' R)
    (k : ∀ H' ys, Same H H' → H' D = some (.lst ys) → ys.length = xs.length → (∀ (i : Nat) y, ys[i]? = some y → Rel i y H') → Qd H') :
    ∃ W : Nat → Nat → Hp → Prop, (∃ m, W 0 m (upd H D (.lst []))) ∧ ∀ i m H, W i m H →
      ((Itl K a).stop i H ∧ Qd H) ∨ ((Itl K a).go i H ∧ ∃ Nx : Hp → Prop, (∀ H', Nx H' → ∃ m', m' < m ∧ W (i + 1) m' H') ∧ ∀ x H', (Itl K a).yld i H x H' → gName j x (wipe σ vs) H' fun σ2 H2 => wipe σ2 vs = wipe σ vs ∧ tYes σ2 H2 fun b H3 =>
        if b = true then te σ2 H3 fun y H4 => ∃ acc, H4 D = some (.lst acc) ∧ acc.length < sizeLine ∧ Nx (upd H4 D (.lst (acc ++ [y]))) else Nx H3) := by
  refine lc_list (xs := xs) (RelAt Rel D · H) (rel_zero hD) (fun i H' _ p => p.sm.seq hx) (fun i x H' hi p => ?_) fun H' p => ?_
  · have li := (List.getElem?_eq_some_iff.mp hi).1
    exact rel_turn keep mu hD (wip x) p (by omega) (he i x hi H' p.sm) fun H'' q => q
  · obtain ⟨sm, ys, hd, hl, hr⟩ := p
    exact k H' ys sm hd hl hr
theorem lc_relT (Rel : Nat → V → Hp → Prop) (keep : ∀ i y H1 H2, Rel i y H1 → Same H1 H2 → Rel i y H2) (mu : ∀ i y H1 l o, H1 D = some (.lst l) → Rel i y H1 → Rel i y (upd H1 D o)) (hx : SqT K H a xs) (hD : H D = none) (hz : xs.length ≤ 1000000)
    (wip : ∀ x, wipe ((wipe σ vs).set j (some x)) vs = wipe σ vs) (he : ∀ (i : Nat) x, xs[i]? = some x → ∀ H', Same H H' → ∀ R : VK, (∀ y H'', Same H' H'' → Rel i y H'' → R y H'') → te ((wipe σ vs).set j (some x)) H' R)
    (k : ∀ H' ys, Same H H' → H' D = some (.lst ys) → ys.length = xs.length → (∀ (i : Nat) y, ys[i]? = some y → Rel i y H') → Qd H') :
    ∃ W : Nat → Nat → Hp → Prop, (∃ m, W 0 m (upd H D (.lst []))) ∧ ∀ i m H, W i m H →
      ((Itt K a).stop i H ∧ Qd H) ∨ ((Itt K a).go i H ∧ ∃ Nx : Hp → Prop, (∀ H', Nx H' → ∃ m', m' < m ∧ W (i + 1) m' H') ∧ ∀ x H', (Itt K a).yld i H x H' → gName j x (wipe σ vs) H' fun σ2 H2 => wipe σ2 vs = wipe σ vs ∧ tYes σ2 H2 fun b H3 =>
        if b = true then te σ2 H3 fun y H4 => ∃ acc, H4 D = some (.lst acc) ∧ acc.length < sizeLine ∧ Nx (upd H4 D (.lst (acc ++ [y]))) else Nx H3) := by
  refine lc_tup (xs := xs) (RelAt Rel D · H) (rel_zero hD) (fun i H' _ p => Same.seqT p.sm hx) (fun i x H' hi p => ?_) fun H' p => ?_
  · have li := (List.getElem?_eq_some_iff.mp hi).1
    exact rel_turn keep mu hD (wip x) p (by omega) (he i x hi H' p.sm) fun H'' q => q
  · obtain ⟨sm, ys, hd, hl, hr⟩ := p
    exact k H' ys sm hd hl hr
theorem eq_of_get {α : Type} {xs ys : List α} (hl : ys.length = xs.length) (h : ∀ (i : Nat) y, ys[i]? = some y → xs[i]? = some y) : ys = xs := by
  refine List.ext_getElem? fun i => ?_
  by_cases c : i < ys.length
  · rw [List.getElem?_eq_getElem c, h i _ (List.getElem?_eq_getElem c)]
  · rw [List.getElem?_eq_none (by omega), List.getElem?_eq_none (by omega)]
/-- the items are known ahead -/
theorem lc_mapL (zs : List V) (hn : zs.length = xs.length) (hx : SqL K H a xs) (hD : H D = none) (hz : xs.length ≤ 1000000)
    (wip : ∀ x, wipe ((wipe σ vs).set j (some x)) vs = wipe σ vs) (he : ∀ (i : Nat) x z, xs[i]? = some x → zs[i]? = some z → ∀ H', Same H H' → ∀ R : VK, (∀ H'', Same H' H'' → R z H'') → te ((wipe σ vs).set j (some x)) H' R)
    (k : ∀ H', Same H H' → H' D = some (.lst zs) → Qd H') :
    ∃ W : Nat → Nat → Hp → Prop, (∃ m, W 0 m (upd H D (.lst []))) ∧ ∀ i m H, W i m H →
      ((Itl K a).stop i H ∧ Qd H) ∨ ((Itl K a).go i H ∧ ∃ Nx : Hp → Prop, (∀ H', Nx H' → ∃ m', m' < m ∧ W (i + 1) m' H') ∧ ∀ x H', (Itl K a).yld i H x H' → gName j x (wipe σ vs) H' fun σ2 H2 => wipe σ2 vs = wipe σ vs ∧ tYes σ2 H2 fun b H3 =>
        if b = true then te σ2 H3 fun y H4 => ∃ acc, H4 D = some (.lst acc) ∧ acc.length < sizeLine ∧ Nx (upd H4 D (.lst (acc ++ [y]))) else Nx H3) := by
  refine lc_relL (fun i y _ => zs[i]? = some y) (fun _ _ _ _ r _ => r) (fun _ _ _ _ _ _ r => r) hx hD hz wip (fun i x hi H' s' R g => ?_) fun H' ys s' hd hl hr => k H' s' (by rw [hd, eq_of_get (by omega) hr])
  have li := (List.getElem?_eq_some_iff.mp hi).1
  exact he i x _ hi (List.getElem?_eq_getElem (by omega)) H' s' R fun H'' s'' => g _ H'' s'' (List.getElem?_eq_getElem (by omega))
end

/-! ### lists of lists of whole numbers; addresses out of values -/
theorem refs_of {R : Nat → Addr → Prop} : ∀ {ys : List V} {k : Nat}, (∀ (i : Nat) y, ys[i]? = some y → ∃ p, y = .ref p ∧ R (k + i) p) → ∃ ps : List Addr, ys = ps.map V.ref ∧ ∀ (i : Nat) p, ps[i]? = some p → R (k + i) p
  | [], k, h => ⟨[], rfl, fun i p hp => by simp at hp⟩
  | y :: ys, k, h => by
    obtain ⟨p, rfl, r⟩ := h 0 y rfl
    obtain ⟨ps, rfl, rs⟩ := refs_of (R := R) (ys := ys) (k := k + 1) fun i y hy => by
      obtain ⟨q, e, r'⟩ := h (i + 1) y hy
      exact ⟨q, e, by rw [show k + 1 + i = k + (i + 1) by omega]; exact r'⟩
    refine ⟨p :: ps, rfl, fun i q hq => ?_⟩
    cases i with
    | zero =>
      cases hq
      exact r
    | succ i =>
      rw [show k + (i + 1) = k + 1 + i by omega]
      exact rs i q hq
/-- a list of lists of whole numbers -/
structure Ls (H : Hp) (a : Addr) (qs : List Addr) (ls : List (List Int)) : Prop where
  l : H a = some (.lst (qs.map V.ref))
  n : qs.length = ls.length
  t : ∀ (i : Nat) q l, qs[i]? = some q → ls[i]? = some l → H q = some (.lst (l.map V.int))
theorem Ls.same {H H' : Hp} {a : Addr} {qs : List Addr} {ls : List (List Int)} (h : Ls H a qs ls) (s : Same H H') : Ls H' a qs ls := ⟨s _ _ h.l, h.n, fun i q c hq hc => s _ _ (h.t i q c hq hc)⟩
theorem Ls.at {H : Hp} {a : Addr} {qs : List Addr} {ls : List (List Int)} (h : Ls H a qs ls) {i : Nat} {v : V} (hv : (qs.map V.ref)[i]? = some v) : ∃ q l, v = .ref q ∧ qs[i]? = some q ∧ ls[i]? = some l ∧ H q = some (.lst (l.map V.int)) := by
  rw [List.getElem?_map] at hv
  cases eq : qs[i]? with
  | none => rw [eq] at hv; cases hv
  | some q =>
    rw [eq] at hv
    cases hv
    have li : i < ls.length := by
      rw [← h.n]
      exact (List.getElem?_eq_some_iff.mp eq).1
    exact ⟨q, _, rfl, rfl, List.getElem?_eq_getElem li, h.t i q _ eq (List.getElem?_eq_getElem li)⟩
section
variable {K : PySem.W.Frag} {a : Addr} {xs : List V} {te : TE} {vs : List Nat} {σ : L2.St} {H : Hp} {D : Addr} {Qd : Hp → Prop} {j : Nat}
/-- lc_relL where the items are new lists -/
theorem lc_relD (Rel : Nat → V → Hp → Prop) (keep : ∀ i y H1 H2, Rel i y H1 → Same H1 H2 → Rel i y H2) (mu : ∀ i y H1 l o, H1 D = some (.lst l) → Rel i y H1 → Rel i y (upd H1 D o)) (hx : SqL K H a xs) (hD : H D = none) (hz : xs.length ≤ 1000000)
    (wip : ∀ x, wipe ((wipe σ vs).set j (some x)) vs = wipe σ vs) (he : ∀ (i : Nat) x, xs[i]? = some x → ∀ H', Same H H' → (∃ l, H' D = some (.lst l)) → ∀ R : VK, (∀ y H'', Same H' H'' → Rel i y H'' → R y H'') → te ((wipe σ vs).set j (some x)) H' R)
    (k : ∀ H' ys, Same H H' → H' D = some (.lst ys) → ys.length = xs.length → (∀ (i : Nat) y, ys[i]? = some y → Rel i y H') → Qd H') :
    ∃ W : Nat → Nat → Hp → Prop, (∃ m, W 0 m (upd H D (.lst []))) ∧ ∀ i m H, W i m H →
      ((Itl K a).stop i H ∧ Qd H) ∨ ((Itl K a).go i H ∧ ∃ Nx : Hp → Prop, (∀ H', Nx H' → ∃ m', m' < m ∧ W (i + 1) m' H') ∧ ∀ x H', (Itl K a).yld i H x H' → gName j x (wipe σ vs) H' fun σ2 H2 => wipe σ2 vs = wipe σ vs ∧ tYes σ2 H2 fun b H3 =>
        if b = true then te σ2 H3 fun y H4 => ∃ acc, H4 D = some (.lst acc) ∧ acc.length < sizeLine ∧ Nx (upd H4 D (.lst (acc ++ [y]))) else Nx H3) := by
  refine lc_list (xs := xs) (RelAt Rel D · H) (rel_zero hD) (fun i H' _ p => p.sm.seq hx) (fun i x H' hi p => ?_) fun H' p => ?_
  · have li := (List.getElem?_eq_some_iff.mp hi).1
    obtain ⟨ys, hy, _⟩ := p.ys
    exact rel_turn keep mu hD (wip x) p (by omega) (he i x hi H' p.sm ⟨ys, hy⟩) fun H'' q => q
  · obtain ⟨sm, ys, hd, hl, hr⟩ := p
    exact k H' ys sm hd hl hr
end

theorem mem_fold {x : Int} : ∀ (b a : List Int), x ∈ b.foldl ins a ↔ x ∈ a ∨ x ∈ b
  | [], a => by simp
  | y :: r, a => by
    show x ∈ r.foldl ins (ins a y) ↔ _
    rw [mem_fold r]
    have : x ∈ ins a y ↔ x ∈ a ∨ x = y := by
      unfold ins
      by_cases h : y ∈ a
      · rw [if_pos h]
        exact ⟨.inl, fun z => z.elim id fun e => e ▸ h⟩
      · rw [if_neg h, List.mem_append, List.mem_singleton]
    rw [this, List.mem_cons, or_assoc]

/-! ### dict([(x, True) for x in xs]) -/
/-- pairs (n, True), new tuples -/
structure Prs (H : Hp) (ps : List Addr) (ns : List Int) : Prop where
  n : ps.length = ns.length
  t : ∀ (i : Nat) p m, ps[i]? = some p → ns[i]? = some m → H p = some (.tup [.int m, .bl true])
theorem Prs.paired {K : PySem.W.Frag} {H : Hp} : ∀ {ps : List Addr} {ns : List Int}, Prs H ps ns → Paired (fun p kv => SqT K H p [kV kv.1, kv.2]) ps (tru ns)
  | [], [], _ => .nil
  | [], _ :: _, h => absurd h.n (by simp)
  | _ :: _, [], h => absurd h.n (by simp)
  | p :: ps, m :: ns, h => by
    refine .cons (SqT.of (h.t 0 p m rfl rfl)) (Prs.paired ⟨Nat.succ.inj h.n, fun i q k hq hk => h.t (i + 1) q k hq hk⟩)
theorem lc_pairs {K : PySem.W.Frag} {a : Addr} {ns : List Int} {te : TE} {vs : List Nat} {σ : L2.St} {H : Hp} {D : Addr} {Qd : Hp → Prop} {j : Nat} (hx : SqL K H a (ns.map V.int)) (hD : H D = none) (hz : ns.length ≤ 1000000)
    (wip : ∀ n, wipe ((wipe σ vs).set j (some (.int n))) vs = wipe σ vs) (he : ∀ n H' (R : VK), (∀ p, H' p = none → R (.ref p) (upd H' p (.tup [.int n, .bl true]))) → te ((wipe σ vs).set j (some (.int n))) H' R)
    (k : ∀ H' ps, Same H H' → H' D = some (.lst (ps.map V.ref)) → Prs H' ps ns → Qd H') :
    ∃ W : Nat → Nat → Hp → Prop, (∃ m, W 0 m (upd H D (.lst []))) ∧ ∀ i m Hc, W i m Hc →
      ((Itl K a).stop i Hc ∧ Qd Hc) ∨ ((Itl K a).go i Hc ∧ ∃ Nx : Hp → Prop, (∀ H', Nx H' → ∃ m', m' < m ∧ W (i + 1) m' H') ∧ ∀ x H', (Itl K a).yld i Hc x H' → gName j x (wipe σ vs) H' fun σ2 H2 => wipe σ2 vs = wipe σ vs ∧ tYes σ2 H2 fun b H3 =>
        if b = true then te σ2 H3 fun y H4 => ∃ acc, H4 D = some (.lst acc) ∧ acc.length < sizeLine ∧ Nx (upd H4 D (.lst (acc ++ [y]))) else Nx H3) := by
  have line : 1000000 < sizeLine := by decide
  refine lc_list (xs := ns.map V.int) (fun i H' => Same H H' ∧ ∃ ps, H' D = some (.lst (ps.map V.ref)) ∧ Prs H' ps (ns.take i)) ⟨same_new hD, [], upd_same, rfl, fun i p m hp => by simp at hp⟩ (fun i H' _ p => p.1.seq hx) (fun i x H' hi p => ?_) fun H' p => ?_
  · obtain ⟨sm, ps, hd, pr⟩ := p
    obtain ⟨n, rfl, hn⟩ := int_at hi
    have li : i < ns.length := (List.getElem?_eq_some_iff.mp hn).1
    have ln : ps.length = i := by
      rw [pr.n, List.length_take]
      omega
    refine ⟨wip n, yes_go (he n H' _ fun q hq => ⟨ps.map V.ref, by rw [upd_ne (ne_of_none hd hq)]; exact hd, by rw [List.length_map]; omega, fun b o e => ?_, ps ++ [q], by rw [upd_same, List.map_append]; rfl, ?_⟩)⟩
    · rw [upd_ne (ne_of_none e hD), upd_ne (ne_of_none (sm b o e) hq)]
      exact sm b o e
    · have qD : q ≠ D := (ne_of_none hd hq).symm
      refine ⟨by rw [List.length_append, List.length_take, ln]; show i + 1 = min (i + 1) ns.length; omega, fun l p m hp hm => ?_⟩
      rw [List.take_add_one, hn] at hm
      by_cases c : l < ps.length
      · rw [List.getElem?_append_left c] at hp
        rw [List.getElem?_append_left (by rw [List.length_take]; omega)] at hm
        have g := pr.t l p m hp hm
        rw [upd_ne (ne_of g hd (by intro z; cases z)), upd_ne (ne_of_none g hq)]
        exact g
      · rw [List.getElem?_append_right (by omega)] at hp
        rw [List.getElem?_append_right (by rw [List.length_take]; omega)] at hm
        have e0 : l - ps.length = 0 := by
          have l1 := (List.getElem?_eq_some_iff.mp hp).1
          simp only [List.length_cons, List.length_nil] at l1
          omega
        have e1 : l - (ns.take i).length = 0 := by
          rw [List.length_take]
          omega
        rw [e0] at hp
        rw [e1] at hm
        cases hp
        cases hm
        rw [upd_ne qD, upd_same]
  · obtain ⟨sm, ps, hd, pr⟩ := p
    rw [List.length_map, List.take_length] at pr
    exact k H' ps sm hd pr

/-! ### what the data are -/
theorem lay_ints : ∀ l : List Int, PyData.canLayAll0 (l.map PyData.int) = true
  | [] => rfl
  | x :: r => by
    rw [List.map_cons, PyData.canLayAll0, lay_ints r]
    rfl
theorem dep_ints : ∀ l : List Int, PyData.depthAll (l.map PyData.int) ≤ 0
  | [] => Nat.le_refl _
  | x :: r => by
    rw [List.map_cons, PyData.depthAll]
    exact Nat.max_le.mpr ⟨Nat.le_refl _, dep_ints r⟩
def tupD (c : List Int) : PyData := .tuple (c.map PyData.int)
def lstD (c : List Int) : PyData := .list (c.map PyData.int)
theorem lay_tup (c : List Int) : (tupD c).canLay0 = true := by
  unfold tupD
  rw [PyData.canLay0]
  exact lay_ints c
theorem lay_lst (c : List Int) : (lstD c).canLay0 = true := by
  unfold lstD
  rw [PyData.canLay0]
  exact lay_ints c
theorem dep_tup (c : List Int) : (tupD c).depth ≤ 1 := by
  unfold tupD
  rw [PyData.depth]
  exact Nat.succ_le_succ (dep_ints c)
theorem dep_lst (c : List Int) : (lstD c).depth ≤ 1 := by
  unfold lstD
  rw [PyData.depth]
  exact Nat.succ_le_succ (dep_ints c)
theorem lay_tups : ∀ cs : List (List Int), PyData.canLayAll0 (cs.map tupD) = true
  | [] => rfl
  | x :: r => by
    rw [List.map_cons, PyData.canLayAll0, lay_tups r, lay_tup]
    rfl
theorem dep_tups : ∀ cs : List (List Int), PyData.depthAll (cs.map tupD) ≤ 1
  | [] => Nat.zero_le _
  | x :: r => by
    rw [List.map_cons, PyData.depthAll]
    exact Nat.max_le.mpr ⟨dep_tup x, dep_tups r⟩
section
variable {K : PySem.W.Frag} {H : Hp}
theorem dp_ints : ∀ l : List Int, DpAll K H (l.map V.int) (l.map PyData.int)
  | [] => .nil
  | x :: r => .cons (.int x) (dp_ints r)
theorem dp_lst {a : Addr} {l : List Int} (h : H a = some (.lst (l.map V.int))) : Dp K H (.ref a) (lstD l) := .lst (SqL.of h) (dp_ints l)
theorem dp_tups : ∀ {qs : List Addr} {cs : List (List Int)}, qs.length = cs.length → (∀ (i : Nat) q c, qs[i]? = some q → cs[i]? = some c → H q = some (.tup (c.map V.int))) → DpAll K H (qs.map V.ref) (cs.map tupD)
  | [], [], _, _ => .nil
  | [], _ :: _, n, _ => absurd n (by simp)
  | _ :: _, [], n, _ => absurd n (by simp)
  | q :: qs, c :: cs, n, t => .cons (.tup (SqT.of (t 0 q c rfl rfl)) (dp_ints c)) (dp_tups (Nat.succ.inj n) fun i q c hq hc => t (i + 1) q c hq hc)
end
theorem shape_lst (l : List Int) : SeqAt.shaped (lstD l) = true := by
  unfold SeqAt.shaped
  rw [lay_lst, decide_eq_true (Nat.le_trans (dep_lst l) (by decide))]
  rfl

/-! ### name = {k: v for ..} on one line, the name a local -/
section
variable {X : Cx}
theorem sw_dict {kx vx : Expr} {gs : List Comprehension} {scope : Scope} {pos py : Pos} {y : PySem.Str} {l : Nat} {env : Env} (hk : env.scope.kind = .function) (hy : env.scope.names.lookup y = some .local) (hl : (py.line == pos.line) = true)
    (no : (scope.names.any fun (n, k) => n == y && (k == .local || k == .cell)) = false) : swapsWith (.DictComp kx vx gs scope pos) (some (.Name y py)) l env = pure true := by
  have e1 : env.kindOf y = some .local := hy
  have e2 : env.blockKind = .function := by
    unfold Env.blockKind
    rw [hk]
    rfl
  unfold swapsWith
  simp only [e1, e2, no, hl, Expr.pos]
  rfl
theorem ps_setDc {i : Nat} {y : PySem.Str} {py : Pos} {kx vx tg iter : Expr} {ifs : List Expr} {scope : Scope} {own : List (PySem.Str × Nat)} {pos spos : Pos} {wi : TI} {g : TG} {tt : TT} {tk tv : TE} (hc : X.calm = true) (hN : X.N.Nodup) (hy : X.N[i]? = some y)
    (hl : X.env.scope.names.lookup y = some .local) (hsw : swapsWith (.DictComp kx vx [⟨tg, iter, ifs, 0⟩] scope pos) (some (.Name y py)) spos.line X.env = pure true) (hi : PI X tg iter wi) (ok : BlkOk X.N X.env.scope scope own)
    (hg : ∀ (s : Shared) (H : Hp) (C : Addr) (cl : List (PySem.Str × Addr)) (fp : List Addr), PG (X.blk s H scope (compEnvC scope cl C X.env) fp) tg g)
    (ht : ∀ (s : Shared) (H : Hp) (C : Addr) (cl : List (PySem.Str × Addr)) (fp : List Addr), PTs (X.blk s H scope (compEnvC scope cl C X.env) fp) ifs tt)
    (hk : ∀ (s : Shared) (H : Hp) (C : Addr) (cl : List (PySem.Str × Addr)) (fp : List Addr), PE (X.blk s H scope (compEnvC scope cl C X.env) fp) kx tk)
    (he : ∀ (s : Shared) (H : Hp) (C : Addr) (cl : List (PySem.Str × Addr)) (fp : List Addr), PE (X.blk s H scope (compEnvC scope cl C X.env) fp) vx tv) (hs : ∀ x, foldedSetIterable iter X.env x = pure x := by intro _; rfl) :
    PS X (.Assign [.Name y py] (.DictComp kx vx [⟨tg, iter, ifs, 0⟩] scope pos) spos) (tAsg (tDc wi g tt tk tv (own.map (·.2))) (gName i)) := by
  refine ⟨fun pins s σ H D I rd => ?_⟩
  have rd : tDc wi g tt tk tv (own.map (·.2)) σ H (fun x Ha => gName i x σ Ha D.nx) := rd
  rw [exec_Assign_Name_used _ _ _ _ hsw]
  refine wpAny_bind (wpAny_standAt (wpAny_bind ?_))
  rw [arm_evalThenUse_DictComp]
  refine wpAny_bind (thn (dc_core (Qf := fun _ sz => SP X pins D .next sz) hc hN I hi ok hg ht hk he hs rd fun Z C sa m Ha Ia q ns free => ?_) fun _ sz hz => wpAny_pure (wpAny_pure hz))
  refine wpAny_assign_Name (store_ok2 (v := V.ref Z) Ia hN hy (.inl hl) rfl (fun sb Ib ⟨a, same, where_⟩ => ?_) (.inr hl))
  have away : C ≠ a := where_.elim (fun z => z ▸ free.2.1) fun z e => free.2.2.2.2.1 y a z e.symm
  refine ⟨m, ns.sameBut same away, fun h3 same3 => ⟨_, Ha, Ib.turned (t' := sb.toks) (fun b o hb e => (same3.2 b hb).trans e) free.1 free.2.1 free.2.2.2.1 free.2.2.2.2.1 free.2.2.2.2.2, q⟩⟩
end
/-- over a list that stays: {x: True for x in xs}, xs whole numbers -/
theorem dc_list {K : PySem.W.Frag} {a : Addr} {ns : List Int} {te tv : TE} {vs : List Nat} {σ : L2.St} {H : Hp} {D : Addr} {Qd : Hp → Prop} {j : Nat} (hx : SqL K H a (ns.map V.int)) (hD : H D = none) (hz : ns.length ≤ 1000000)
    (wip : ∀ n, wipe ((wipe σ vs).set j (some (.int n))) vs = wipe σ vs) (hk : ∀ n H' R, R (.int n) H' → te ((wipe σ vs).set j (some (.int n))) H' R) (hv : ∀ n H' R, R (.bl true) H' → tv ((wipe σ vs).set j (some (.int n))) H' R)
    (k : ∀ H', Same H H' → H' D = some (.dK (tru (ns.foldl ins []))) → Qd H') :
    ∃ W : Nat → Nat → Hp → Prop, (∃ m, W 0 m (upd H D (.dK []))) ∧ ∀ i m Hc, W i m Hc →
      ((Itl K a).stop i Hc ∧ Qd Hc) ∨ ((Itl K a).go i Hc ∧ ∃ Nx : Hp → Prop, (∀ H', Nx H' → ∃ m', m' < m ∧ W (i + 1) m' H') ∧ ∀ x H', (Itl K a).yld i Hc x H' → gName j x (wipe σ vs) H' fun σ2 H2 => wipe σ2 vs = wipe σ vs ∧ tYes σ2 H2 fun b H3 =>
        if b = true then te σ2 H3 fun y H4 => tv σ2 H4 fun z H5 => ∃ kvs k, y = kV k ∧ H5 D = some (.dK kvs) ∧ kvs.length < sizeLine ∧ Nx (upd H5 D (.dK (putK kvs k z))) else Nx H3) := by
  have line : 1000000 < sizeLine := by decide
  refine ⟨fun i m Hc => m = ns.length - i ∧ i ≤ ns.length ∧ Same H Hc ∧ Hc D = some (.dK (tru ((ns.take i).foldl ins []))), ⟨ns.length, rfl, Nat.zero_le _, same_new hD, upd_same⟩, ?_⟩
  rintro i m Hc ⟨rfl, hi, sm, hd⟩
  have at_a := sm.seq hx
  by_cases lt : i < ns.length
  · have g : (ns.map V.int)[i]? = some (.int ns[i]) := by
      rw [List.getElem?_map, List.getElem?_eq_getElem lt]
      rfl
    refine .inr ⟨⟨_, _, at_a, g⟩, fun Hd => Same H Hd ∧ Hd D = some (.dK (tru ((ns.take (i + 1)).foldl ins []))), fun Hd h => ⟨ns.length - (i + 1), by omega, rfl, lt, h⟩, ?_⟩
    rintro x Hd ⟨rfl, hy⟩
    have ex := Option.some.inj (g.symm.trans (hy _ at_a))
    subst ex
    refine ⟨wip _, yes_go (hk _ _ _ (hv _ _ _ ⟨_, Sum.inl ns[i], rfl, hd, ?_, ?_, ?_⟩))⟩
    · have l := fold_len (ns.take i) []
      have l2 : (ns.take i).length ≤ ns.length := by rw [List.length_take]; omega
      unfold tru
      rw [List.length_map]
      simp only [List.length_nil, Nat.zero_add] at l
      omega
    · intro b o e
      rw [upd_ne (ne_of_none e hD)]
      exact sm b o e
    · rw [upd_same, tru_put, List.take_add_one, List.getElem?_eq_getElem lt, List.foldl_append]
      rfl
  · have e : i = ns.length := by omega
    subst e
    rw [List.take_length] at hd
    exact .inl ⟨⟨_, at_a, by rw [List.length_map]; exact Nat.le_refl _⟩, k Hc sm hd⟩

/-! ### walks over d.items() and enumerate(xs) within comprehensions -/
theorem dc_items {d : Addr} {o : Obj} {kvs : List (Key × V)} {g : TG} {tt : TT} {tk tv : TE} {vs : List Nat} {σ : L2.St} {H1 : Hp} {D : Addr} {Qd : Hp → Prop} (Pv : Nat → Hp → Prop) (h0 : Pv 0 (upd H1 D (.dK [])))
    (hq : ∀ n H, Pv n H → H d = some (.frz o (.dK kvs)))
    (hs : ∀ n k v T H, kvs[n]? = some (k, v) → Pv n H → H T = none → g (.ref T) (wipe σ vs) (upd H T (.tup [kV k, v])) fun σ2 H2 => wipe σ2 vs = wipe σ vs ∧ tt σ2 H2 fun c H3 =>
      if c = true then tk σ2 H3 fun y H4 => tv σ2 H4 fun z H5 => ∃ kvs2 k2, y = kV k2 ∧ H5 D = some (.dK kvs2) ∧ kvs2.length < sizeLine ∧ Pv (n + 1) (upd H5 D (.dK (putK kvs2 k2 z))) else Pv (n + 1) H3) (hd : ∀ H, Pv kvs.length H → Qd H) :
    ∃ W : Nat → Nat → Hp → Prop, (∃ m, W 0 m (upd H1 D (.dK []))) ∧ ∀ n m H, W n m H →
      ((Iti d o kvs).stop n H ∧ Qd H) ∨ ((Iti d o kvs).go n H ∧ ∃ Nx : Hp → Prop, (∀ H', Nx H' → ∃ m', m' < m ∧ W (n + 1) m' H') ∧ ∀ x H', (Iti d o kvs).yld n H x H' → g x (wipe σ vs) H' fun σ2 H2 => wipe σ2 vs = wipe σ vs ∧ tt σ2 H2 fun c H3 =>
        if c = true then tk σ2 H3 fun y H4 => tv σ2 H4 fun z H5 => ∃ kvs2 k2, y = kV k2 ∧ H5 D = some (.dK kvs2) ∧ kvs2.length < sizeLine ∧ Nx (upd H5 D (.dK (putK kvs2 k2 z))) else Nx H3) := by
  refine ⟨fun n m H => m = kvs.length - n ∧ n ≤ kvs.length ∧ Pv n H, ⟨kvs.length, rfl, Nat.zero_le _, h0⟩, ?_⟩
  rintro n m H ⟨rfl, hn, pv⟩
  have qd := hq n H pv
  by_cases lt : n < kvs.length
  · refine .inr ⟨⟨qd, lt⟩, Pv (n + 1), fun H' p' => ⟨kvs.length - (n + 1), by omega, rfl, lt, p'⟩, fun x H' y => ?_⟩
    obtain ⟨T, k, v, hk, rfl, nT, rfl⟩ := y
    exact hs n k v T H hk pv nT
  · have e : n = kvs.length := by omega
    subst e
    exact .inl ⟨⟨qd, Nat.le_refl _⟩, hd H pv⟩
theorem lc_enum {K : PySem.W.Frag} {a : Addr} {xs : List V} {g : TG} {tt : TT} {te : TE} {vs : List Nat} {σ : L2.St} {H1 : Hp} {D : Addr} {Qd : Hp → Prop} (Pv : Nat → Hp → Prop) (h0 : Pv 0 (upd H1 D (.lst [])))
    (hq : ∀ n H, Pv n H → SqL K H a xs)
    (hs : ∀ (n : Nat) x T H, xs[n]? = some x → Pv n H → H T = none → g (.ref T) (wipe σ vs) (upd H T (.tup [.int (n : Nat), x])) fun σ2 H2 => wipe σ2 vs = wipe σ vs ∧ tt σ2 H2 fun c H3 =>
      if c = true then te σ2 H3 fun y H4 => ∃ acc, H4 D = some (.lst acc) ∧ acc.length < sizeLine ∧ Pv (n + 1) (upd H4 D (.lst (acc ++ [y]))) else Pv (n + 1) H3) (hd : ∀ H, Pv xs.length H → Qd H) :
    ∃ W : Nat → Nat → Hp → Prop, (∃ m, W 0 m (upd H1 D (.lst []))) ∧ ∀ n m H, W n m H →
      ((Ite K a).stop n H ∧ Qd H) ∨ ((Ite K a).go n H ∧ ∃ Nx : Hp → Prop, (∀ H', Nx H' → ∃ m', m' < m ∧ W (n + 1) m' H') ∧ ∀ x H', (Ite K a).yld n H x H' → g x (wipe σ vs) H' fun σ2 H2 => wipe σ2 vs = wipe σ vs ∧ tt σ2 H2 fun c H3 =>
        if c = true then te σ2 H3 fun y H4 => ∃ acc, H4 D = some (.lst acc) ∧ acc.length < sizeLine ∧ Nx (upd H4 D (.lst (acc ++ [y]))) else Nx H3) := by
  refine ⟨fun n m H => m = xs.length - n ∧ n ≤ xs.length ∧ Pv n H, ⟨xs.length, rfl, Nat.zero_le _, h0⟩, ?_⟩
  rintro n m H ⟨rfl, hn, pv⟩
  have qx := hq n H pv
  by_cases lt : n < xs.length
  · refine .inr ⟨⟨xs, _, qx, List.getElem?_eq_getElem lt⟩, Pv (n + 1), fun H' p' => ⟨xs.length - (n + 1), by omega, rfl, lt, p'⟩, fun v H' y => ?_⟩
    obtain ⟨T, x, rfl, nT, rfl, f⟩ := y
    exact hs n x T H (f xs qx) pv nT
  · have e : n = xs.length := by omega
    subst e
    exact .inl ⟨⟨xs, qx, Nat.le_refl _⟩, hd H pv⟩

/-! ### settings as the bits of numbers -/
def Bt (n X : Nat) (f : Nat → Bool) : Prop := ∀ s, X.testBit s = (decide (s < 2 ^ n) && f s)
theorem Bt.cong {n X : Nat} {f g : Nat → Bool} (a : Bt n X f) (h : ∀ s, s < 2 ^ n → f s = g s) : Bt n X g := fun s => by
  rw [a s]
  by_cases c : s < 2 ^ n
  · rw [h s c]
  · rw [decide_eq_false c, Bool.false_and, Bool.false_and]
theorem Bt.lt {n X : Nat} {f : Nat → Bool} (a : Bt n X f) {s : Nat} (h : X.testBit s = true) : s < 2 ^ n ∧ f s = true := by
  rw [a s, Bool.and_eq_true] at h
  exact ⟨of_decide_eq_true h.1, h.2⟩
theorem Bt.at {n X : Nat} {f : Nat → Bool} (a : Bt n X f) {s : Nat} (h : s < 2 ^ n) : X.testBit s = f s := by
  rw [a s, decide_eq_true h, Bool.true_and]
theorem Bt.zero {n : Nat} : Bt n 0 (fun _ => false) := fun s => by rw [Nat.zero_testBit, Bool.and_false]
theorem bt_step {i X Y : Nat} {f g h : Nat → Bool} (a : Bt i X f) (b : Bt i Y g) (h1 : ∀ s, s < 2 ^ i → h s = f s) (h2 : ∀ s, s < 2 ^ i → h (2 ^ i + s) = g s) : Bt (i + 1) (X ||| Y * 2 ^ 2 ^ i) h := fun s => by
  have p : 2 ^ (i + 1) = 2 ^ i + 2 ^ i := by rw [Nat.pow_succ]; omega
  rw [← Nat.shiftLeft_eq, Nat.testBit_or, Nat.testBit_shiftLeft, a s, b (s - 2 ^ i)]
  by_cases c : s < 2 ^ i
  · rw [decide_eq_true c, decide_eq_false (show ¬ s ≥ 2 ^ i by omega), decide_eq_true (show s < 2 ^ (i + 1) by omega), h1 s c, Bool.false_and, Bool.or_false]
  · rw [decide_eq_false c, decide_eq_true (show s ≥ 2 ^ i by omega), Bool.false_and, Bool.false_or, Bool.true_and]
    by_cases d : s < 2 ^ (i + 1)
    · have e := h2 (s - 2 ^ i) (by omega)
      rw [show 2 ^ i + (s - 2 ^ i) = s by omega] at e
      rw [decide_eq_true d, decide_eq_true (show s - 2 ^ i < 2 ^ i by omega), e]
    · rw [decide_eq_false d, decide_eq_false (show ¬ s - 2 ^ i < 2 ^ i by omega), Bool.false_and, Bool.false_and]
theorem bt_ones (i : Nat) : Bt i (2 ^ 2 ^ i - 1) (fun _ => true) := fun s => by rw [Nat.testBit_two_pow_sub_one, Bool.and_true]
theorem bt_off (i : Nat) : Bt (i + 1) (2 ^ 2 ^ i - 1) (fun s => !s.testBit i) := by
  have z := bt_step (h := fun s => !s.testBit i) (bt_ones i) (Bt.zero (n := i)) (fun s c => by rw [Nat.testBit_lt_two_pow c]; rfl) (fun s c => by rw [Nat.testBit_two_pow_add_eq, Nat.testBit_lt_two_pow c]; rfl)
  rw [Nat.zero_mul, Nat.or_zero] at z
  exact z
theorem bt_on (i : Nat) : Bt (i + 1) ((2 ^ 2 ^ i - 1) * 2 ^ 2 ^ i) (fun s => s.testBit i) := by
  have z := bt_step (h := fun s => s.testBit i) (Bt.zero (n := i)) (bt_ones i) (fun s c => by rw [Nat.testBit_lt_two_pow c]) (fun s c => by rw [Nat.testBit_two_pow_add_eq, Nat.testBit_lt_two_pow c]; rfl)
  rw [Nat.zero_or] at z
  exact z
theorem bt_old {i X p : Nat} (h : p < i) {b : Bool} (a : Bt i X (fun s => b == s.testBit p)) : Bt (i + 1) (X ||| X * 2 ^ 2 ^ i) (fun s => b == s.testBit p) :=
  bt_step a a (fun _ _ => rfl) fun s _ => by rw [Nat.testBit_two_pow_add_gt h]
/-- how many are on -/
def popN : Nat → Nat → Nat
  | 0, _ => 0
  | i + 1, s => popN i s + (s.testBit i).toNat
theorem popN_le : ∀ n s, popN n s ≤ n
  | 0, _ => Nat.le_refl _
  | n + 1, s => by
    have := popN_le n s
    have : (s.testBit n).toNat ≤ 1 := Bool.toNat_le _
    rw [popN]
    omega
theorem popN_hi : ∀ (m n s : Nat), m ≤ n → popN m (2 ^ n + s) = popN m s
  | 0, _, _, _ => rfl
  | m + 1, n, s, h => by rw [popN, popN, popN_hi m n s (by omega), Nat.testBit_two_pow_add_gt (by omega)]
/-- the settings of so many on -/
def exN : Nat → List Nat
  | 0 => [1]
  | i + 1 => List.zipWith (fun a b => a ||| b * 2 ^ 2 ^ i) (exN i ++ [0]) (0 :: exN i)
theorem exN_len : ∀ n, (exN n).length = n + 1
  | 0 => rfl
  | n + 1 => by rw [exN, List.length_zipWith, List.length_append, List.length_cons, List.length_cons, List.length_nil, exN_len n]; exact Nat.min_self _
theorem exN_bt : ∀ (n k : Nat) (x : Nat), (exN n)[k]? = some x → Bt n x (fun s => decide (popN n s = k))
  | 0, 0, x, h => by
    cases h
    intro s
    show (1 : Nat).testBit s = _
    rw [show (1 : Nat) = 2 ^ 1 - 1 from rfl, Nat.testBit_two_pow_sub_one]
    show _ = (decide (s < 2 ^ 0) && decide (0 = 0))
    simp
  | 0, k + 1, x, h => by simp [exN] at h
  | n + 1, k, x, h => by
    rw [exN, List.getElem?_zipWith] at h
    have ln := exN_len n
    have A : ∀ y, (exN n ++ [0])[k]? = some y → Bt n y (fun s => decide (popN n s = k)) := fun y hy => by
      by_cases c : k < (exN n).length
      · rw [List.getElem?_append_left c] at hy
        exact exN_bt n k y hy
      · rw [List.getElem?_append_right (by omega)] at hy
        have l := (List.getElem?_eq_some_iff.mp hy).1
        simp only [List.length_cons, List.length_nil] at l
        rw [show k - (exN n).length = 0 by omega] at hy
        cases hy
        exact Bt.zero.cong fun s _ => (decide_eq_false (by have := popN_le n s; omega)).symm
    have B : ∀ y, (0 :: exN n)[k]? = some y → Bt n y (fun s => decide (popN n s + 1 = k)) := fun y hy => by
      cases k with
      | zero =>
        cases hy
        exact Bt.zero.cong fun s _ => (decide_eq_false (by omega)).symm
      | succ k =>
        exact (exN_bt n k y hy).cong fun s _ => decide_eq_decide.mpr ⟨fun z => by omega, fun z => by omega⟩
    cases ha : (exN n ++ [0])[k]? with
    | none => rw [ha] at h; cases h
    | some a =>
      cases hb : (0 :: exN n)[k]? with
      | none => rw [ha, hb] at h; cases h
      | some b =>
        rw [ha, hb] at h
        cases h
        refine bt_step (A a ha) (B b hb) (fun s c => ?_) (fun s c => ?_)
        · show decide (popN n s + (s.testBit n).toNat = k) = _
          rw [Nat.testBit_lt_two_pow c]
          rfl
        · show decide (popN n (2 ^ n + s) + ((2 ^ n + s).testBit n).toNat = k) = _
          rw [popN_hi n n s (Nat.le_refl _), Nat.testBit_two_pow_add_eq, Nat.testBit_lt_two_pow c]
          rfl
theorem bt_add {n X Y : Nat} {f g : Nat → Bool} (a : Bt n X f) (b : Bt n Y g) (no : ∀ s, ¬ (f s = true ∧ g s = true)) : Bt n (X + Y) (fun s => f s || g s) := fun s => by
  have z : X &&& Y = 0 := Nat.eq_of_testBit_eq fun i => by
    rw [Nat.zero_testBit, Nat.testBit_and]
    cases h1 : X.testBit i with
    | false => rfl
    | true =>
      cases h2 : Y.testBit i with
      | false => rfl
      | true => exact absurd ⟨(a.lt h1).2, (b.lt h2).2⟩ (no i)
  have e := nat_or_add_and X Y
  rw [z, Nat.add_zero] at e
  rw [← e, Nat.testBit_or, a s, b s, Bool.and_or_distrib_left]
theorem ex_sum (n : Nat) : ∀ j, Bt n ((exN n).take j).sum (fun s => decide (popN n s < j))
  | 0 => by
    rw [List.take_zero]
    exact Bt.zero.cong fun s _ => (decide_eq_false (by omega)).symm
  | j + 1 => by
    by_cases c : j < (exN n).length
    · rw [List.take_add_one, List.getElem?_eq_getElem c, List.sum_append]
      have := bt_add (ex_sum n j) (exN_bt n j _ (List.getElem?_eq_getElem c)) fun s z => by
        have h1 := of_decide_eq_true z.1
        have h2 := of_decide_eq_true z.2
        omega
      show Bt n (((exN n).take j).sum + ((exN n)[j] + 0)) _
      rw [Nat.add_zero]
      refine this.cong fun s _ => ?_
      rw [← Bool.decide_or]
      exact decide_eq_decide.mpr ⟨fun z => by omega, fun z => by omega⟩
    · have e : (exN n).take (j + 1) = (exN n).take j := by rw [List.take_of_length_le (by omega), List.take_of_length_le (by omega)]
      rw [e]
      exact (ex_sum n j).cong fun s _ => decide_eq_decide.mpr (by
        have := popN_le n s
        have := exN_len n
        exact ⟨fun z => by omega, fun z => by omega⟩)
theorem bt_and {n X Y : Nat} {f g : Nat → Bool} (a : Bt n X f) (b : Bt n Y g) : Bt n (X &&& Y) (fun s => f s && g s) := fun s => by
  rw [Nat.testBit_and, a s, b s]
  cases decide (s < 2 ^ n) <;> rfl
theorem bt_or {n X Y : Nat} {f g : Nat → Bool} (a : Bt n X f) (b : Bt n Y g) : Bt n (X ||| Y) (fun s => f s || g s) := fun s => by
  rw [Nat.testBit_or, a s, b s]
  cases decide (s < 2 ^ n) <;> rfl
theorem bt_xor {n X Y : Nat} {f g : Nat → Bool} (a : Bt n X f) (b : Bt n Y g) : Bt n (X ^^^ Y) (fun s => f s ^^ g s) := fun s => by
  rw [Nat.testBit_xor, a s, b s]
  cases decide (s < 2 ^ n) <;> rfl
/-- small: below 2 ^ 2 ^ n -/
theorem Bt.small {n X : Nat} {f : Nat → Bool} (a : Bt n X f) : X < 2 ^ 2 ^ n := by
  refine Nat.lt_pow_two_of_testBit _ fun s h => ?_
  rw [a s, decide_eq_false (by omega), Bool.false_and]
/-- the greatest of them -/
theorem bt_top {n X : Nat} {f : Nat → Bool} (a : Bt n X f) (h : X ≠ 0) : X.log2 < 2 ^ n ∧ f X.log2 = true := a.lt (Nat.testBit_log2 h)
theorem bt_none {n : Nat} {f : Nat → Bool} (a : Bt n 0 f) {s : Nat} (h : s < 2 ^ n) : f s = false := by
  rw [← a.at h, Nat.zero_testBit]
/-! ### the marks that are on in a setting -/
def subN (ms : List Int) : Nat → Nat → List Int
  | 0, _ => []
  | i + 1, s => subN ms i s ++ (if s.testBit i then [ms.getD i 0] else [])
theorem subN_hi (ms : List Int) : ∀ (m n s : Nat), m ≤ n → subN ms m (2 ^ n + s) = subN ms m s
  | 0, _, _, _ => rfl
  | m + 1, n, s, h => by rw [subN, subN, subN_hi ms m n s (by omega), Nat.testBit_two_pow_add_gt (by omega)]
theorem subN_len (ms : List Int) : ∀ (i s : Nat), (subN ms i s).length = popN i s
  | 0, _ => rfl
  | i + 1, s => by
    rw [subN, popN, List.length_append, subN_len ms i s]
    cases s.testBit i <;> rfl
theorem subN_mem (ms : List Int) (m : Int) : ∀ (i s : Nat), m ∈ subN ms i s ↔ ∃ p, p < i ∧ s.testBit p = true ∧ ms.getD p 0 = m
  | 0, s => by
    rw [subN]
    refine ⟨fun h => (by cases h), ?_⟩
    rintro ⟨p, h, _⟩
    omega
  | i + 1, s => by
    rw [subN, List.mem_append, subN_mem ms m i s]
    constructor
    · rintro (⟨p, h, a, b⟩ | h)
      · exact ⟨p, by omega, a, b⟩
      · cases e : s.testBit i with
        | false => rw [e] at h; exact absurd h (by simp)
        | true =>
          rw [e, if_pos rfl] at h
          exact ⟨i, by omega, e, (List.mem_singleton.mp h).symm⟩
    · rintro ⟨p, h, a, b⟩
      by_cases c : p < i
      · exact .inl ⟨p, c, a, b⟩
      · rw [show p = i by omega] at a b
        rw [a, if_pos rfl]
        exact .inr (List.mem_singleton.mpr b.symm)
/-- all of them, as the law makes them -/
def allS (ms : List Int) (i : Nat) : List (List Int) := (List.range (2 ^ i)).map (subN ms i)
theorem allS_succ (ms : List Int) (i : Nat) : allS ms (i + 1) = allS ms i ++ (allS ms i).map fun l => l ++ [ms.getD i 0] := by
  unfold allS
  rw [Nat.pow_succ, Nat.mul_two, List.range_add, List.map_append, List.map_map, List.map_map]
  congr 1
  · refine List.map_congr_left fun s hs => ?_
    have c := List.mem_range.mp hs
    rw [subN, Nat.testBit_lt_two_pow c]
    exact List.append_nil _
  · refine List.map_congr_left fun s hs => ?_
    have c := List.mem_range.mp hs
    show subN ms (i + 1) (2 ^ i + s) = subN ms i s ++ [ms.getD i 0]
    rw [subN, subN_hi ms i i s (Nat.le_refl _), Nat.testBit_two_pow_add_eq, Nat.testBit_lt_two_pow c]
    rfl
theorem getD_mem {ms : List Int} {p : Nat} (h : p < ms.length) : ms.getD p 0 ∈ ms := by
  rw [List.getD_eq_getElem?_getD, List.getElem?_eq_getElem h]
  exact List.getElem_mem h
theorem getD_get {ms : List Int} {p : Nat} {m : Int} (h : ms[p]? = some m) : ms.getD p 0 = m := by
  rw [List.getD_eq_getElem?_getD, h]
  rfl
/-- a mark that is on where just these are -/
def onL (ms some : List Int) (m : Int) : Bool := decide (m ∈ ms ∧ m ∈ some ∨ -m ∈ ms ∧ ¬ -m ∈ some)
def heldL (ms : List Int) (cs : List (List Int)) (some : List Int) : Bool := cs.all fun c => c.any (onL ms some)
/-- what the law asks of a setting -/
def unlL (ms : List Int) (most : Nat) (cs : List (List Int)) (some : List Int) : Bool := if heldL ms cs some then decide (most < some.length) else decide (some.length ≤ most)
/-- marks of unlike names -/
def UnN (ms : List Int) : Prop := ∀ p q, p < ms.length → q < ms.length → (ms.getD p 0 = ms.getD q 0 → p = q) ∧ ms.getD p 0 ≠ - ms.getD q 0
theorem un_get {ms : List Int} (u : UnN ms) {p s : Nat} (h : p < ms.length) : decide (ms.getD p 0 ∈ subN ms ms.length s) = s.testBit p := by
  cases e : s.testBit p with
  | true => exact decide_eq_true ((subN_mem ms _ _ s).mpr ⟨p, h, e, rfl⟩)
  | false =>
    refine decide_eq_false fun z => ?_
    obtain ⟨q, hq, a, b⟩ := (subN_mem ms _ _ s).mp z
    rw [(u q p hq h).1 b, e] at a
    cases a
theorem on_pos {ms : List Int} (u : UnN ms) {p : Nat} (h : p < ms.length) (s : Nat) : onL ms (subN ms ms.length s) (ms.getD p 0) = s.testBit p := by
  unfold onL
  have no : - ms.getD p 0 ∉ ms := fun z => by
    obtain ⟨q, hq, e⟩ := List.getElem_of_mem z
    have := (u p q h hq).2
    rw [getD_get (List.getElem?_eq_getElem hq), e] at this
    omega
  rw [← un_get u h]
  exact decide_eq_decide.mpr (Iff.intro (fun z => z.elim And.right fun z => absurd z.1 no) fun z => .inl ⟨getD_mem h, z⟩)
theorem on_neg {ms : List Int} (u : UnN ms) {p : Nat} (h : p < ms.length) (s : Nat) : onL ms (subN ms ms.length s) (- ms.getD p 0) = !s.testBit p := by
  unfold onL
  have no : - ms.getD p 0 ∉ ms := fun z => by
    obtain ⟨q, hq, e⟩ := List.getElem_of_mem z
    have := (u p q h hq).2
    rw [getD_get (List.getElem?_eq_getElem hq), e] at this
    omega
  rw [← un_get u h, ← decide_not, Int.neg_neg]
  exact decide_eq_decide.mpr ⟨fun z => z.elim (fun z => absurd z.1 no) And.right, fun z => .inr ⟨getD_mem h, z⟩⟩
/-! ### the settings that have each mark, as a dict -/
theorem valV_none {xs : List (Key × V)} {k : Key} (h : k ∉ xs.map (·.1)) : valV xs k = none := by
  unfold valV
  rw [List.find?_eq_none.mpr]
  · rfl
  · intro p hp z
    exact h (List.mem_map.mpr ⟨p, hp, of_decide_eq_true z⟩)
def sg : Bool → Int → Int
  | true, m => m
  | false, m => -m
structure Hav (kvs : List (Key × V)) (ms : List Int) (i : Nat) : Prop where
  len : kvs.length = 2 * i
  nd : (kvs.map (·.1)).Nodup
  form : ∀ kv ∈ kvs, ∃ p b X, p < i ∧ kv = (Sum.inl (sg b (ms.getD p 0)), V.int (X : Nat)) ∧ Bt i X (fun s => b == s.testBit p)
  has : ∀ p b, p < i → ∃ X : Nat, valV kvs (Sum.inl (sg b (ms.getD p 0))) = some (.int X) ∧ Bt i X (fun s => b == s.testBit p)
def upX (i : Nat) : V → V
  | .int x => .int ((x.toNat ||| x.toNat * 2 ^ 2 ^ i : Nat) : Int)
  | v => v
def upD (i : Nat) (kvs : List (Key × V)) : List (Key × V) := kvs.map fun kv => (kv.1, upX i kv.2)
theorem upD_val (i : Nat) (k : Key) : ∀ kvs : List (Key × V), valV (upD i kvs) k = (valV kvs k).map (upX i)
  | [] => rfl
  | kv :: kvs => by
    show valV ((kv.1, upX i kv.2) :: upD i kvs) k = _
    by_cases h : kv.1 = k
    · rw [valV_pos (p := (kv.1, upX i kv.2)) h, valV_pos h]
      rfl
    · rw [valV_neg (p := (kv.1, upX i kv.2)) h, valV_neg h, upD_val i k kvs]
theorem upD_put {i j : Nat} {kvs : List (Key × V)} (nd : (kvs.map (·.1)).Nodup) {k : Key} {v : V} (h : kvs[j]? = some (k, v)) : putK (upD i (kvs.take j)) k (upX i v) = upD i (kvs.take (j + 1)) := by
  have ne : valV (upD i (kvs.take j)) k = none := by
    rw [upD_val, valV_none]
    · rfl
    · intro z
      obtain ⟨kv, hk, e⟩ := List.mem_map.mp z
      obtain ⟨q, hq, e2⟩ := List.getElem_of_mem hk
      rw [List.length_take] at hq
      have h1 : (kvs.map (·.1))[q]? = some k := by
        rw [List.getElem?_map, List.getElem?_eq_getElem (show q < kvs.length by omega)]
        rw [List.getElem_take] at e2
        show some (kvs[q].1) = _
        rw [e2, e]
      have h2 : (kvs.map (·.1))[j]? = some k := by rw [List.getElem?_map, h]; rfl
      have := (List.getElem?_inj (by rw [List.length_map]; omega) nd).mp (h1.trans h2.symm)
      omega
  rw [putK_new _ ne, List.take_add_one, h]
  unfold upD
  rw [List.map_append]
  rfl
theorem sg_inj {ms : List Int} (u : UnN ms) {p q : Nat} (hp : p < ms.length) (hq : q < ms.length) {a b : Bool} (e : sg a (ms.getD p 0) = sg b (ms.getD q 0)) : p = q ∧ a = b := by
  have u1 := u p q hp hq
  have u2 := (u q p hq hp).2
  cases a <;> cases b
  · have e : - ms.getD p 0 = - ms.getD q 0 := e
    exact ⟨u1.1 (by omega), rfl⟩
  · have e : - ms.getD p 0 = ms.getD q 0 := e
    exact absurd e.symm u2
  · have e : ms.getD p 0 = - ms.getD q 0 := e
    exact absurd e u1.2
  · exact ⟨u1.1 e, rfl⟩
theorem Hav.free {kvs : List (Key × V)} {ms : List Int} {i : Nat} (h : Hav kvs ms i) (u : UnN ms) (hi : i < ms.length) (b : Bool) : (Sum.inl (sg b (ms.getD i 0)) : Key) ∉ kvs.map (·.1) := fun z => by
  obtain ⟨kv, hk, e⟩ := List.mem_map.mp z
  obtain ⟨p, b', X, hp, rfl, _⟩ := h.form kv hk
  have := (sg_inj u (by omega) hi (Sum.inl.inj e)).1
  omega
/-- one mark more -/
theorem Hav.more {kvs : List (Key × V)} {ms : List Int} {i : Nat} (h : Hav kvs ms i) (u : UnN ms) (hi : i < ms.length) :
    Hav (putK (putK (upD i kvs) (Sum.inl (sg false (ms.getD i 0))) (.int ((2 ^ 2 ^ i - 1 : Nat) : Int))) (Sum.inl (sg true (ms.getD i 0))) (.int (((2 ^ 2 ^ i - 1) * 2 ^ 2 ^ i : Nat) : Int))) ms (i + 1) ∧
    valV (putK (upD i kvs) (Sum.inl (sg false (ms.getD i 0))) (.int ((2 ^ 2 ^ i - 1 : Nat) : Int))) (Sum.inl (sg false (ms.getD i 0))) = some (.int ((2 ^ 2 ^ i - 1 : Nat) : Int)) := by
  have kup : (upD i kvs).map (·.1) = kvs.map (·.1) := by
    unfold upD
    rw [List.map_map]
    rfl
  have n1 : valV (upD i kvs) (Sum.inl (sg false (ms.getD i 0))) = none := valV_none (by rw [kup]; exact h.free u hi false)
  have n2 : valV (upD i kvs) (Sum.inl (sg true (ms.getD i 0))) = none := valV_none (by rw [kup]; exact h.free u hi true)
  have tf : ¬ (Sum.inl (sg true (ms.getD i 0)) : Key) = Sum.inl (sg false (ms.getD i 0)) := fun z => by
    have := (sg_inj u hi hi (Sum.inl.inj z)).2
    cases this
  have e1 := putK_new (.int ((2 ^ 2 ^ i - 1 : Nat) : Int)) n1
  have n3 : valV (putK (upD i kvs) (Sum.inl (sg false (ms.getD i 0))) (.int ((2 ^ 2 ^ i - 1 : Nat) : Int))) (Sum.inl (sg true (ms.getD i 0))) = none := by rw [valV_put, if_neg tf, n2]
  refine ⟨?_, by rw [valV_put, if_pos rfl]⟩
  rw [putK_new _ n3, e1]
  refine ⟨?_, ?_, ?_, ?_⟩
  · rw [List.length_append, List.length_append]
    unfold upD
    rw [List.length_map, h.len]
    show 2 * i + 1 + 1 = _
    omega
  · rw [List.map_append, List.map_append, kup]
    refine List.nodup_append.mpr ⟨List.nodup_append.mpr ⟨h.nd, by simp, ?_⟩, by simp, ?_⟩
    · intro a ha b hb e
      rw [e, List.mem_singleton.mp hb] at ha
      exact h.free u hi false ha
    · intro a ha b hb e
      rw [e, List.mem_singleton.mp hb] at ha
      rcases List.mem_append.mp ha with z | z
      · exact h.free u hi true z
      · exact tf (List.mem_singleton.mp z)
  · intro kv hk
    rcases List.mem_append.mp hk with z | z
    · rcases List.mem_append.mp z with z | z
      · unfold upD at z
        obtain ⟨kv', hk', rfl⟩ := List.mem_map.mp z
        obtain ⟨p, b, X, hp, rfl, bt⟩ := h.form kv' hk'
        exact ⟨p, b, _, by omega, rfl, bt_old hp bt⟩
      · rw [List.mem_singleton.mp z]
        exact ⟨i, false, _, by omega, rfl, (bt_off i).cong fun s _ => by cases s.testBit i <;> rfl⟩
    · rw [List.mem_singleton.mp z]
      exact ⟨i, true, _, by omega, rfl, (bt_on i).cong fun s _ => by cases s.testBit i <;> rfl⟩
  · intro p b hp
    rw [← e1, ← putK_new _ n3, valV_put, valV_put]
    by_cases c : p = i
    · subst c
      cases b with
      | true =>
        rw [if_pos rfl]
        exact ⟨_, rfl, (bt_on p).cong fun s _ => by cases s.testBit p <;> rfl⟩
      | false =>
        rw [if_neg (fun z => tf z.symm), if_pos rfl]
        exact ⟨_, rfl, (bt_off p).cong fun s _ => by cases s.testBit p <;> rfl⟩
    · have ne : ∀ b', ¬ (Sum.inl (sg b (ms.getD p 0)) : Key) = Sum.inl (sg b' (ms.getD i 0)) := fun b' z => c (sg_inj u (by omega) hi (Sum.inl.inj z)).1
      rw [if_neg (ne _), if_neg (ne _), upD_val]
      obtain ⟨X, e, bt⟩ := h.has p b (by omega)
      rw [e]
      exact ⟨_, rfl, bt_old (by omega) bt⟩
theorem Hav.none {ms : List Int} : Hav [] ms 0 := ⟨rfl, by simp, fun kv h => (by cases h), fun p b h => (by omega)⟩
/-- what it tells of a mark -/
theorem Hav.get {kvs : List (Key × V)} {ms : List Int} (h : Hav kvs ms ms.length) (u : UnN ms) {m : Int} (hm : m ∈ ms ∨ -m ∈ ms) : ∃ X : Nat, valV kvs (Sum.inl m) = some (.int X) ∧ Bt ms.length X (fun s => onL ms (subN ms ms.length s) m) := by
  rcases hm with hm | hm
  · obtain ⟨p, hp, e⟩ := List.getElem_of_mem hm
    have eg := getD_get (List.getElem?_eq_getElem hp)
    obtain ⟨X, a, b⟩ := h.has p true hp
    rw [eg, e] at a
    refine ⟨X, a, b.cong fun s _ => ?_⟩
    rw [← e, ← eg, on_pos u hp]
    cases s.testBit p <;> rfl
  · obtain ⟨p, hp, e⟩ := List.getElem_of_mem hm
    have eg := getD_get (List.getElem?_eq_getElem hp)
    obtain ⟨X, a, b⟩ := h.has p false hp
    have em : m = - ms.getD p 0 := by
      rw [eg, e]
      omega
    rw [show sg false (ms.getD p 0) = m from em.symm] at a
    refine ⟨X, a, b.cong fun s _ => ?_⟩
    rw [em, on_neg u hp]
    cases s.testBit p <;> rfl

/-! ### the program: settings as bits -/
theorem putK_len (kvs : List (Key × V)) (k : Key) (v : V) : (putK kvs k v).length ≤ kvs.length + 1 := by
  unfold putK
  split
  · rw [List.length_map]
    omega
  · rw [List.length_append]
    exact Nat.le_refl _
theorem or_shl (X m : Nat) : Builtin.bitOr (X : Int) ((X : Int) * 2 ^ m) = ((X ||| X * 2 ^ m : Nat) : Int) := by
  have e : (X : Int) * 2 ^ m = ((X * 2 ^ m : Nat) : Int) := by
    rw [Int.natCast_mul, Int.natCast_pow]
    rfl
  rw [e, Bits.bitOr_pp (Int.natCast_nonneg _) (Int.natCast_nonneg _)]
  rfl
theorem cshl_ok {i X m : Nat} {f : Nat → Bool} (h : Bt i X f) (hi : i ≤ 12) (hm : m ≤ 4096) : CShl (X : Int) (m : Int) := by
  refine ⟨Int.natCast_nonneg _, ?_⟩
  have l : Builtin.Int.intBits (X : Int) ≤ 4096 := by
    unfold Builtin.Int.intBits
    split
    · exact Nat.zero_le _
    · rename_i z
      have ne : X ≠ 0 := fun y => z (by rw [y]; rfl)
      have a := (Nat.log2_lt ne).mpr h.small
      have b : 2 ^ i ≤ 2 ^ 12 := Nat.pow_le_pow_right (by decide) hi
      rw [Int.natAbs_natCast]
      omega
  have : (2 : Int) ^ 27 = 134217728 := by decide
  omega
theorem pow_le {i : Nat} (h : i ≤ 12) : 2 ^ i ≤ 4096 := Nat.pow_le_pow_right (n := 2) (by decide) h
def spHaving (K : PySem.W.Frag) : Sp := fun vs H Q _ => ∃ (a : Addr) (ms : List Int), vs = [.ref a] ∧ SqL K H a (ms.map V.int) ∧ UnN ms ∧ ms.length ≤ 12 ∧
  ∀ (H' : Hp) (D : Addr) (kvs : List (Key × V)), Same H H' → H D = none → H' D = some (.dK kvs) → Hav kvs ms ms.length → Q (.ref D) H'
def spAtMost : Sp := fun vs H Q _ => ∃ n m : Nat, vs = [.int n, .int m] ∧ n ≤ 12 ∧ ∀ (H' : Hp) (X : Nat), Same H H' → Bt n X (fun s => decide (popN n s < m + 1)) → Q (.int X) H'
/-- clauses whose marks are of these names -/
def InL (ms : List Int) (cs : List (List Int)) : Prop := ∀ c ∈ cs, ∀ m ∈ c, m ∈ ms ∨ -m ∈ ms
def spUnlike (K : PySem.W.Frag) : Sp := fun vs H Q _ => ∃ (a b : Addr) (ms : List Int) (most : Nat) (qs : List Addr) (cs : List (List Int)), vs = [.ref a, .int most, .ref b] ∧ SqL K H a (ms.map V.int) ∧ UnN ms ∧ ms.length ≤ 12 ∧ Cs H b qs cs ∧ InL ms cs ∧
  (∀ H', Same H H' → (∀ s, s < 2 ^ ms.length → unlL ms most cs (subN ms ms.length s) = false) → Q .non H') ∧
  ∀ (H' : Hp) (D : Addr) (s : Nat), Same H H' → H D = none → H' D = some (.lst ((subN ms ms.length s).map V.int)) → s < 2 ^ ms.length → unlL ms most cs (subN ms ms.length s) = true → Q (.ref D) H'
theorem unl_bit (ms : List Int) (most : Nat) (cs : List (List Int)) (s : Nat) : unlL ms most cs (subN ms ms.length s) = (heldL ms cs (subN ms ms.length s) ^^ decide (popN ms.length s < most + 1)) := by
  unfold unlL
  rw [subN_len]
  cases heldL ms cs (subN ms ms.length s) with
  | true =>
    rw [if_pos rfl, Bool.true_xor, ← decide_not]
    exact decide_eq_decide.mpr ⟨fun z => by omega, fun z => by omega⟩
  | false =>
    rw [if_neg Bool.false_ne_true, Bool.false_xor]
    exact decide_eq_decide.mpr ⟨fun z => by omega, fun z => by omega⟩
section
variable {P : Program} {w : World} {K : PySem.W.Frag} {mg : Str → Option Value} {base : Heap}
theorem has_having (T : Top K mg) : Has P w K mg base 1 "_settings_having" ["marks"] (spHaving K) := by
  refine has_of T.d__settings_having sc__settings_having bd__settings_having (fun vs H Q E h => ?_) (fun f cdv A outer s H vs Q E hr h => ?_)
  · obtain ⟨a, ms, rfl, _⟩ := h
    rfl
  · have hu := hu_of hr
    have nd := sc__settings_having.nd
    obtain ⟨a, ms, rfl, hS, un, few, k⟩ := h
    refine ⟨_, (pss_cons (ps_set (i := 1) nd rfl (.inl rfl) pe_dnewK)
    (pss_cons (ps_set (i := 2) nd rfl (.inr rfl) pe_int)
    (pss_cons (ps_for PassesOwn.never rfl (pi_list (pv 0)) (pg_name (i := 3) nd rfl (.inl rfl))
      (pss_cons (ps_lock (ps_setDc (i := 1) (own := [("one", 4), ("settings", 5)]) (by rfl) nd rfl rfl (sw_dict rfl rfl rfl (by decide +kernel)) (pi_items (pv 1)) (blkOk_by (own := [("one", 4), ("settings", 5)]) (N := nm__settings_having) (sc := defScope s__settings_having) (by decide +kernel)) (fun _ _ _ _ _ => pg_tupK (K := K) (n := 2) rfl (by rfl) (pgs_cons (pg_name (i := 4) nd rfl (.inl rfl)) (pgs_cons (pg_name (i := 5) nd rfl (.inl rfl)) pgs_nil))) (fun _ _ _ _ _ => pts_nil) (fun _ _ _ _ _ => (pv 4)) (fun _ _ _ _ _ => (pe_op op_or (pv 5) (pe_op op_shlN (pv 5) (pv 2))))))
    (pss_cons (ps_dput hu (pv 1) (pe_un un_neg (pv 3)) (pe_op op_sub (pe_op op_shlN pe_int (pv 2)) pe_int) rfl)
    (pss_cons (ps_dput hu (pv 1) (pv 3) (pe_op op_shlN (pe_dget hu (pv 1) (pe_un un_neg (pv 3)) (fun _ _ => rfl)) (pv 2)) rfl)
    (pss_one (ps_set (i := 2) nd rfl (.inr rfl) (pe_op op_mul (pv 2) pe_int)))))))
    (pss_one (ps_ret (pv 1)))))), ?_⟩
    have line : (200000 : Nat) < sizeLine := by decide
    refine fun D0 n0 => ⟨_, rfl, a, rfl, ⟨_, (same_new n0).seq hS⟩, for_list (xs := ms.map V.int) (fun i σ H' => ∃ (v3 : Option V) (D : Addr) (kvs : List (Key × V)), σ = [some (.ref a), some (.ref D), some (.int ((2 ^ i : Nat) : Int)), v3, none, none] ∧ Same H H' ∧ H D = none ∧ H' D = some (.dK kvs) ∧ Hav kvs ms i)
      ⟨none, D0, [], rfl, same_new n0, n0, upd_same, .none⟩ ?_ ?_ ?_⟩
    · rintro i σ H' _ ⟨v3, D, kvs, _, s, _⟩
      exact s.seq hS
    · rintro i x σ H' hx ⟨v3, D, kvs, rfl, s, nD, hD, hav⟩
      obtain ⟨m, rfl, hm⟩ := int_at hx
      have hi := (List.getElem?_eq_some_iff.mp hm).1
      have em := getD_get hm
      have p2 := pow_le (show i ≤ 12 by omega)
      have hl := hav.len
      refine ⟨D, .dK kvs, hD, trivial, fun od => ?_⟩
      have sF : Same H (upd H' D (.frz od (.dK kvs))) := same_mut s nD
      have hF : (upd H' D (.frz od (.dK kvs))) D = some (.frz od (.dK kvs)) := upd_same
      generalize upd H' D (.frz od (.dK kvs)) = Hf at sF hF ⊢
      refine ⟨_, rfl, D, od, kvs, rfl, hF, fun Z nZ => dc_items (fun j Hc => Same Hf Hc ∧ Hc Z = some (.dK (upD i (kvs.take j)))) ⟨same_new nZ, upd_same⟩ (fun n Hc z => z.1 _ _ hF) (fun n key v T Hc hk z nT => ?_) (fun Hc z => ?_)⟩
      · obtain ⟨sm, hz⟩ := z
        obtain ⟨p, b, X, hp, e, bt⟩ := hav.form _ (List.mem_of_getElem? hk)
        cases e
        have hz2 := same_new (o := .tup [kV (Sum.inl (sg b (ms.getD p 0))), V.int (X : Nat)]) nT _ _ hz
        have sT := sm.trans (same_new (o := .tup [kV (Sum.inl (sg b (ms.getD p 0))), V.int (X : Nat)]) nT)
        refine ⟨T, _, rfl, SqT.of upd_same, rfl, _, _, rfl, _, _, rfl, rfl, rfl, yes_go ⟨_, rfl, _, rfl, _, rfl, _, rfl, X, 2 ^ i, rfl, rfl, cshl_ok bt (by omega) p2, _, _, rfl, rfl, _, Sum.inl (sg b (ms.getD p 0)), rfl, hz2, ?_, ?_, ?_⟩⟩
        · unfold upD
          rw [List.length_map]
          have := List.length_take_le' n kvs
          omega
        · exact same_mut sT nZ
        · rw [upd_same]
          show some (HO.dK (putK (upD i (kvs.take n)) (Sum.inl (sg b (ms.getD p 0))) (V.int (Builtin.bitOr (X : Int) ((X : Int) * 2 ^ 2 ^ i))))) = _
          rw [or_shl]
          exact congrArg (fun y => some (HO.dK y)) (upD_put (i := i) hav.nd hk)
      · rw [List.take_length] at z
        obtain ⟨sm, hz⟩ := z
        have nZH : H Z = none := by
          cases e : H Z with
          | none => rfl
          | some o =>
            have := sF _ _ e
            rw [nZ] at this
            cases this
        have DZ : Z ≠ D := (ne_of_none hF nZ).symm
        refine ⟨sm _ _ hF, ?_⟩
        have s2 : Same H (upd Hc D (.dK kvs)) := same_mut (sF.trans sm) nD
        have hz2 : (upd Hc D (.dK kvs)) Z = some (.dK (upD i kvs)) := by
          rw [upd_ne DZ]
          exact hz
        generalize upd Hc D (.dK kvs) = H2 at s2 hz2 ⊢
        obtain ⟨hv, got⟩ := hav.more un hi
        rw [em] at hv got
        have lu : (upD i kvs).length = 2 * i := by
          unfold upD
          rw [List.length_map, hl]
        have c1 : CShl (1 : Int) ((2 ^ i : Nat) : Int) := cshl_ok (i := 0) (X := 1) (f := fun _ => true) (bt_ones 0) (by decide) p2
        have e1 : (1 : Int) * 2 ^ 2 ^ i - 1 = ((2 ^ 2 ^ i - 1 : Nat) : Int) := by
          have : 0 < 2 ^ 2 ^ i := Nat.two_pow_pos _
          rw [Int.one_mul, Int.natCast_sub this, Int.natCast_pow]
          rfl
        refine ⟨_, rfl, 1, 2 ^ i, rfl, rfl, c1, _, _, rfl, rfl, _, rfl, _, rfl, m, rfl, Z, _, rfl, DPut.k (k := Sum.inl (-m)) hz2 (by omega), ?_⟩
        have e2 : ((fun i j : Int => V.int (i - j)) ((1 : Int) * 2 ^ 2 ^ i) 1) = V.int ((2 ^ 2 ^ i - 1 : Nat) : Int) := congrArg V.int e1
        rw [e2]
        have s3 := same_mut s2 nZH (o := .dK (putK (upD i kvs) (Sum.inl (-m)) (.int ((2 ^ 2 ^ i - 1 : Nat) : Int))))
        have hz3 : (upd H2 Z (.dK (putK (upD i kvs) (Sum.inl (-m)) (.int ((2 ^ 2 ^ i - 1 : Nat) : Int))))) Z = some (.dK (putK (upD i kvs) (Sum.inl (-m)) (.int ((2 ^ 2 ^ i - 1 : Nat) : Int)))) := upd_same
        generalize upd H2 Z (.dK (putK (upD i kvs) (Sum.inl (-m)) (.int ((2 ^ 2 ^ i - 1 : Nat) : Int)))) = H3 at s3 hz3 ⊢
        have l3 := putK_len (upD i kvs) (Sum.inl (-m)) (.int ((2 ^ 2 ^ i - 1 : Nat) : Int))
        have gg : DGet H3 Z (V.int (-m)) (some (.int ((2 ^ 2 ^ i - 1 : Nat) : Int))) := by
          have z := DGet.k (k := Sum.inl (-m)) hz3
          have got : valV (putK (upD i kvs) (Sum.inl (-m)) (.int ((2 ^ 2 ^ i - 1 : Nat) : Int))) (Sum.inl (-m)) = some (.int ((2 ^ 2 ^ i - 1 : Nat) : Int)) := got
          rw [got] at z
          exact z
        refine ⟨_, rfl, _, rfl, m, rfl, Z, _, rfl, gg, _, rfl, _, 2 ^ i, rfl, rfl, cshl_ok (bt_ones i) (by omega) p2, _, rfl, _, rfl, Z, _, rfl, DPut.k (k := Sum.inl m) hz3 (by omega), ?_⟩
        have e3 : ((2 ^ 2 ^ i - 1 : Nat) : Int) * 2 ^ 2 ^ i = (((2 ^ 2 ^ i - 1) * 2 ^ 2 ^ i : Nat) : Int) := by
          rw [Int.natCast_mul, Int.natCast_pow]
          rfl
        rw [e3]
        have e5 : ((2 ^ i : Nat) : Int) * 2 = ((2 ^ (i + 1) : Nat) : Int) := by
          rw [Nat.pow_succ]
          rfl
        exact ⟨_, rfl, _, _, rfl, rfl, .inr ⟨by decide, by decide⟩, some (.int m), Z, _, congrArg (fun z => [some (V.ref a), some (V.ref Z), some (V.int z), some (V.int m), none, none]) e5, same_mut s3 nZH, nZH, upd_same, hv⟩
    · rintro σ H' ⟨v3, D, kvs, rfl, s, nD, hD, hav⟩
      rw [List.length_map] at hav
      exact ⟨_, rfl, k _ _ _ s nD hD hav⟩
theorem ex_bt {i y : Nat} (h : y ∈ 0 :: exN i) : ∃ f, Bt i y f := by
  rcases List.mem_cons.mp h with e | e
  · rw [e]
    exact ⟨_, .zero⟩
  · obtain ⟨k, hk, e⟩ := List.getElem_of_mem e
    exact ⟨_, exN_bt i k y (by rw [List.getElem?_eq_getElem hk, e])⟩
theorem sum_cast : ∀ l : List Nat, (l.map fun x : Nat => (x : Int)).sum = ((l.sum : Nat) : Int)
  | [] => rfl
  | x :: l => by
    rw [List.map_cons, List.sum_cons, List.sum_cons, sum_cast l]
    rfl
def vN (x : Nat) : V := .int (x : Int)
theorem vN_map (l : List Nat) : l.map vN = (l.map fun x : Nat => (x : Int)).map V.int := by rw [List.map_map]; rfl
theorem has_atmost (T : Top K mg) : Has P w K mg base 1 "_settings_at_most" ["size", "most"] spAtMost := by
  refine has_of T.d__settings_at_most sc__settings_at_most bd__settings_at_most (fun vs H Q E h => ?_) (fun f cdv A outer s H vs Q E hr h => ?_)
  · obtain ⟨n, m, rfl, _⟩ := h
    rfl
  · have hu := hu_of hr
    have nd := sc__settings_at_most.nd
    obtain ⟨n, m, rfl, few, k⟩ := h
    refine ⟨_, (pss_cons (ps_set (i := 2) nd rfl (.inl rfl) (pe_lst (pa_cons pe_int pa_nil)))
    (pss_cons (ps_set (i := 3) nd rfl (.inr rfl) pe_int)
    (pss_cons (ps_for PassesOwn.never rfl (pi_range1 (by rfl) T.b_range (pa_cons (pv 0) pa_nil)) (pg_name (i := 4) nd rfl (.inl rfl))
      (pss_cons (ps_setLc (i := 2) (own := [("off", 5), ("on", 6)]) (by rfl) nd rfl rfl (sw_true rfl rfl rfl (by decide +kernel)) (pi_zipW (K := K) rfl (by rfl) T.b_zip (pa_cons (pe_op op_cat (pv 2) (pe_lst (pa_cons pe_int pa_nil))) (pa_cons (pe_op op_cat (pe_lst (pa_cons pe_int pa_nil)) (pv 2)) pa_nil))) (blkOk_by (own := [("off", 5), ("on", 6)]) (N := nm__settings_at_most) (sc := defScope s__settings_at_most) (by decide +kernel)) (fun _ _ _ _ _ => pg_tupK (K := K) (n := 2) rfl (by rfl) (pgs_cons (pg_name (i := 5) nd rfl (.inl rfl)) (pgs_cons (pg_name (i := 6) nd rfl (.inl rfl)) pgs_nil))) (fun _ _ _ _ _ => pts_nil) (fun _ _ _ _ _ => (pe_op op_or (pv 5) (pe_op op_shlN (pv 6) (pv 3)))))
    (pss_one (ps_set (i := 3) nd rfl (.inr rfl) (pe_op op_mul (pv 3) pe_int)))))
    (pss_one (ps_ret (pe_callB (cr_sum rfl) (by rfl) T.b_sum (by decide +kernel) (pa_cons (pe_slice sl_list (pv 2) po_none (po_some (pe_op op_add (pv 1) pe_int))) pa_nil))))))), ?_⟩
    have line : (200000 : Nat) < sizeLine := by decide
    refine ⟨by show 1 ≤ sizeLine; decide, fun D0 n0 => ⟨_, rfl, n, rfl, by omega, by omega, for_range (lo := 0) (fun i σ H' => ∃ (v4 : Option V) (D : Addr), σ = [some (.int n), some (.int m), some (.ref D), some (.int ((2 ^ i : Nat) : Int)), v4, none, none] ∧ Same H H' ∧ H' D = some (.lst ((exN i).map vN)))
      ⟨none, D0, rfl, same_new n0, upd_same⟩ ?_ ?_⟩⟩
    · rintro i σ H' hi ⟨v4, D, rfl, s, hD⟩
      have hi2 : i < n := by
        have : i < ((n : Nat) : Int).toNat := hi
        omega
      have p2 := pow_le (show i ≤ 12 by omega)
      have lx := exN_len i
      refine ⟨_, rfl, by show 1 ≤ sizeLine; decide, fun L1 n1 => ⟨D, L1, _, [.int 0], rfl, rfl, same_new n1 _ _ hD, upd_same, by rw [List.length_map, lx]; show i + 1 + 1 ≤ sizeLine; omega, fun S1 m1 => ⟨by show 1 ≤ sizeLine; decide, fun L2 n2 => ⟨_, rfl, L2, D, [.int 0], (exN i).map vN, rfl, rfl, upd_same, ?_, by rw [List.length_map, lx]; show 1 + (i + 1) ≤ sizeLine; omega, fun S2 m2 => ?_⟩⟩⟩⟩
      · exact same_new n2 _ _ (same_new m1 _ _ (same_new n1 _ _ hD))
      have h1 := same_new m2 (o := .lst ([V.int 0] ++ (exN i).map vN)) _ _ (same_new n2 (o := .lst [V.int 0]) _ _ (upd_same : (upd (upd H' L1 (.lst [.int 0])) S1 (.lst ((exN i).map vN ++ [.int 0]))) S1 = some (.lst ((exN i).map vN ++ [.int 0]))))
      have h2 : (upd (upd (upd (upd H' L1 (.lst [.int 0])) S1 (.lst ((exN i).map vN ++ [.int 0]))) L2 (.lst [.int 0])) S2 (.lst ([V.int 0] ++ (exN i).map vN))) S2 = some (.lst ([V.int 0] ++ (exN i).map vN)) := upd_same
      have s2 := s.trans ((same_new n1 (o := .lst [V.int 0])).trans ((same_new m1 (o := .lst ((exN i).map vN ++ [V.int 0]))).trans ((same_new n2 (o := .lst [V.int 0])).trans (same_new m2 (o := .lst ([V.int 0] ++ (exN i).map vN))))))
      generalize upd (upd (upd (upd H' L1 (.lst [.int 0])) S1 (.lst ((exN i).map vN ++ [.int 0]))) L2 (.lst [.int 0])) S2 (.lst ([V.int 0] ++ (exN i).map vN)) = Hb at h1 h2 s2 ⊢
      have f1 : (exN i).map vN ++ [V.int 0] = (exN i ++ [0]).map vN := by rw [List.map_append]; rfl
      have f2 : [V.int 0] ++ (exN i).map vN = (0 :: exN i).map vN := rfl
      rw [f1] at h1
      rw [f2] at h2
      refine ⟨.ls, .ls, S1, S2, _, _, rfl, SqL.of h1, SqL.of h2, fun Z nZ => lc_zipw (by simp) (fun j Hc => Same Hb Hc ∧ Hc Z = some (.lst (((exN (i + 1)).take j).map vN))) ⟨same_new nZ, upd_same⟩ (fun j Hc z => ⟨SqL.of (z.1 _ _ h1), SqL.of (z.1 _ _ h2)⟩) (fun j x y p Hc hx hy z np => ?_) (fun Hc z => ?_)⟩
      · obtain ⟨sm, hz⟩ := z
        rw [List.getElem?_map] at hx hy
        cases ea : (exN i ++ [0])[j]? with
        | none => rw [ea] at hx; cases hx
        | some xa =>
          cases eb : (0 :: exN i)[j]? with
          | none => rw [eb] at hy; cases hy
          | some yb =>
            rw [ea] at hx
            rw [eb] at hy
            cases hx
            cases hy
            obtain ⟨f, bt⟩ := ex_bt (List.mem_of_getElem? eb)
            have ej : (exN (i + 1))[j]? = some (xa ||| yb * 2 ^ 2 ^ i) := by
              rw [exN, List.getElem?_zipWith, ea, eb]
            have hz2 := same_new np (o := .tup [vN xa, vN yb]) _ _ hz
            refine ⟨p, _, rfl, SqT.of upd_same, rfl, _, _, rfl, _, _, rfl, rfl, rfl, yes_go ⟨_, rfl, _, rfl, _, rfl, yb, 2 ^ i, rfl, rfl, cshl_ok bt (by omega) p2, _, _, rfl, rfl, _, hz2, ?_, ?_, ?_⟩⟩
            · have := List.length_take_le' j (exN (i + 1))
              have := exN_len (i + 1)
              rw [List.length_map]
              omega
            · exact same_mut (sm.trans (same_new np)) nZ
            · rw [upd_same, List.take_add_one, ej, List.map_append]
              have e : Builtin.bitOr (xa : Int) ((yb : Int) * 2 ^ 2 ^ i) = ((xa ||| yb * 2 ^ 2 ^ i : Nat) : Int) := by
                have e : (yb : Int) * 2 ^ 2 ^ i = ((yb * 2 ^ 2 ^ i : Nat) : Int) := by
                  rw [Int.natCast_mul, Int.natCast_pow]
                  rfl
                rw [e, Bits.bitOr_pp (Int.natCast_nonneg _) (Int.natCast_nonneg _)]
                rfl
              show some (HO.lst (_ ++ [V.int (Builtin.bitOr (xa : Int) ((yb : Int) * 2 ^ 2 ^ i))])) = _
              rw [e]
              rfl
      · have e0 : (((exN i ++ [0]).map vN).length) = (exN (i + 1)).length := by
          rw [List.length_map, List.length_append, exN_len, exN_len]
          rfl
        rw [e0, List.take_length] at z
        have e5 : ((2 ^ i : Nat) : Int) * 2 = ((2 ^ (i + 1) : Nat) : Int) := by
          rw [Nat.pow_succ]
          rfl
        exact ⟨_, rfl, _, _, rfl, rfl, .inr ⟨by decide, by decide⟩, some (.int (0 + (i : Int))), Z, congrArg (fun z => [some (V.int n), some (V.int m), some (V.ref Z), some (V.int z), some (V.int (0 + (i : Int))), none, none]) e5, s2.trans z.1, z.2⟩
    · rintro σ H' ⟨v4, D, rfl, s, hD⟩
      have hD : H' D = some (.lst ((exN n).map vN)) := hD
      refine ⟨_, rfl, _, rfl, _, _, rfl, rfl, _, rfl, D, _, rfl, SqL.of hD, fun q hq => ⟨q, ((exN n).take (m + 1)).map fun x : Nat => (x : Int), rfl, SqL.of ?_, ?_⟩⟩
      · rw [upd_same, ← vN_map]
        unfold cutV
        rw [HT.sIx_none, show ((m : Int) + 1) = ((m + 1 : Nat) : Int) from rfl, HT.sIx_nat, List.drop_zero, List.length_map, List.map_take, Nat.sub_zero]
        congr 2
        by_cases c : m + 1 ≤ (exN n).length
        · rw [Nat.min_eq_left c]
        · rw [Nat.min_eq_right (by omega), List.take_of_length_le (by rw [List.length_map]; exact Nat.le_refl _), List.take_of_length_le (by rw [List.length_map]; omega)]
      · rw [sum_cast]
        exact k _ _ (s.trans (same_new hq)) (ex_sum n (m + 1))
end

/-! ### the program: the greatest setting that is unlike -/
theorem bit_is (S p : Nat) : decide (V.int (Builtin.bitAnd ((S : Int) / 2 ^ ((p : Nat) : Int).toNat) 1) = V.int 1) = S.testBit p := by
  have e : (S : Int) / 2 ^ ((p : Nat) : Int).toNat = ((S / 2 ^ p : Nat) : Int) := by
    rw [Int.toNat_natCast, Int.natCast_ediv, Int.natCast_pow]
    rfl
  rw [e, bitAnd_pp (Int.natCast_nonneg _) (by decide), Nat.testBit_eq_decide_div_mod_eq]
  have e2 : (((S / 2 ^ p : Nat) : Int).toNat &&& (1 : Int).toNat : Nat) = S / 2 ^ p % 2 := by
    rw [Int.toNat_natCast]
    exact Nat.and_one_is_mod _
  rw [e2]
  refine decide_eq_decide.mpr ⟨fun z => ?_, fun z => ?_⟩
  · have := V.int.inj z
    omega
  · rw [z]
    rfl
theorem held_snoc (ms : List Int) (cs : List (List Int)) (i : Nat) {c : List Int} (h : cs[i]? = some c) (some' : List Int) : heldL ms (cs.take (i + 1)) some' = (heldL ms (cs.take i) some' && c.any (onL ms some')) := by
  unfold heldL
  rw [List.take_add_one, h, List.all_append]
  show (_ && (c.any (onL ms some') && true)) = _
  rw [Bool.and_true]
section
variable {P : Program} {w : World} {K : PySem.W.Frag} {mg : Str → Option Value} {base : Heap}
theorem has_unlike (T : Top K mg) (h__settings_having : Has P w K mg base 1 "_settings_having" ["marks"] (spHaving K)) (h__settings_at_most : Has P w K mg base 1 "_settings_at_most" ["size", "most"] spAtMost) :
    Has P w K mg base 2 "first_unlike" ["marks", "most", "clauses"] (spUnlike K) := by
  refine has_of T.d_first_unlike sc_first_unlike bd_first_unlike (fun vs H Q E h => ?_) (fun f cdv A outer s H vs Q E hr h => ?_)
  · obtain ⟨a, b, ms, most, qs, cs, rfl, _⟩ := h
    rfl
  · have hu := hu_of hr
    have nd := sc_first_unlike.nd
    obtain ⟨a, b, ms, most, qs, cs, rfl, hS, un, few, hC, hin, k1, k2⟩ := h
    refine ⟨_, (pss_cons (ps_set (i := 3) nd rfl (.inl rfl) (pe_has h__settings_having (hr.mono (by omega)) (by rfl) (pa_cons (pv 0) pa_nil)))
    (pss_cons (ps_set (i := 4) nd rfl (.inl rfl) (pe_has h__settings_at_most (hr.mono (by omega)) (by rfl) (pa_cons (pe_callB call_len_seq (by rfl) T.b_len (by decide +kernel) (pa_cons (pv 0) pa_nil)) (pa_cons (pe_callB call_len_seq (by rfl) T.b_len (by decide +kernel) (pa_cons (pv 0) pa_nil)) pa_nil))))
    (pss_cons (ps_for PassesOwn.never rfl (pi_list (pv 2)) (pg_name (i := 5) nd rfl (.inl rfl))
      (pss_cons (ps_set (i := 6) nd rfl (.inl rfl) pe_int)
    (pss_cons (ps_for PassesOwn.never rfl (pi_tup (pv 5)) (pg_name (i := 7) nd rfl (.inl rfl))
      (pss_one (ps_set (i := 6) nd rfl (.inl rfl) (pe_op op_or (pv 6) (pe_dget hu (pv 3) (pv 7) (fun _ _ => rfl))))))
    (pss_one (ps_set (i := 4) nd rfl (.inl rfl) (pe_op op_and (pv 4) (pv 6)))))))
    (pss_cons (ps_set (i := 8) nd rfl (.inl rfl) (pe_op op_xor (pv 4) (pe_has h__settings_at_most (hr.mono (by omega)) (by rfl) (pa_cons (pe_callB call_len_seq (by rfl) T.b_len (by decide +kernel) (pa_cons (pv 0) pa_nil)) (pa_cons (pv 1) pa_nil)))))
    (pss_cons (ps_if (pt_cmpR op_eq (pv 8) pe_int (nomark _)) (pss_one (ps_ret pe_non)) pss_nil)
    (pss_cons (ps_set (i := 9) nd rfl (.inr rfl) (pe_op op_sub (pe_bits (pv 8)) pe_int))
    (pss_one (ps_ret (pe_lc (own := [("place", 10), ("mark", 7)]) (by rfl) nd (pi_enum (by rfl) T.b_enumerate (pa_cons (pv 0) pa_nil)) (blkOk_by (own := [("place", 10), ("mark", 7)]) (N := nm_first_unlike) (sc := defScope s_first_unlike) (by decide +kernel)) (fun _ _ _ _ _ => pg_tupK (K := K) (n := 2) rfl (by rfl) (pgs_cons (pg_name (i := 10) nd rfl (.inl rfl)) (pgs_cons (pg_name (i := 7) nd rfl (.inl rfl)) pgs_nil))) (fun _ _ _ _ _ => pts_one (pt_cmpR op_eq (pe_op op_and (pe_op op_shr (pv 9) (pv 10)) pe_int) pe_int (nomark _))) (fun _ _ _ _ _ => (pv 7))))))))))), ?_⟩
    have line : (200000 : Nat) < sizeLine := by decide
    refine ⟨_, rfl, a, ms, rfl, hS, un, few, fun H1 D kvs s1 nD hD hav => ?_⟩
    have hS1 := s1.seq hS
    refine ⟨_, rfl, a, _, rfl, .inl hS1, _, rfl, a, _, rfl, .inl hS1, ms.length, ms.length, by rw [List.length_map]; rfl, few, fun H2 X0 s2 bt0 => ?_⟩
    have s02 := s1.trans s2
    have bt0 : Bt ms.length X0 (fun s => heldL ms (cs.take 0) (subN ms ms.length s)) := bt0.cong fun s _ => by
      rw [List.take_zero]
      exact decide_eq_true (by have := popN_le ms.length s; omega)
    refine ⟨_, rfl, b, rfl, ⟨_, SqL.of (s02 _ _ hC.l)⟩, for_list (xs := qs.map V.ref) (fun i σ H' => ∃ (v5 v6 v7 : Option V) (X : Nat), σ = [some (.ref a), some (.int most), some (.ref b), some (.ref D), some (.int X), v5, v6, v7, none, none, none] ∧ Same H2 H' ∧ Bt ms.length X (fun s => heldL ms (cs.take i) (subN ms ms.length s)))
      ⟨none, none, none, X0, rfl, Same.refl _, bt0⟩ ?_ ?_ ?_⟩
    · rintro i σ H' _ ⟨v5, v6, v7, X, _, s3, _⟩
      exact SqL.of ((s02.trans s3) _ _ hC.l)
    · rintro i x σ H' hx ⟨v5, v6, v7, X, rfl, s3, bt⟩
      have li := (List.getElem?_eq_some_iff.mp hx).1
      rw [List.length_map, hC.n] at li
      have hc := List.getElem?_eq_getElem li
      rw [List.getElem?_map] at hx
      cases eq : qs[i]? with
      | none => rw [eq] at hx; cases hx
      | some q =>
        rw [eq] at hx
        cases hx
        have hq := (s02.trans s3) _ _ (hC.t i q _ eq hc)
        have hic := hin _ (List.mem_of_getElem? hc)
        generalize hcc : cs[i] = c at hc hq hic
        refine ⟨_, rfl, q, rfl, ⟨_, SqT.of hq⟩, for_tup (K := K) (a := q) (xs := c.map V.int) (fun j σ H'' => ∃ (v7 : Option V) (Y : Nat), σ = [some (.ref a), some (.int most), some (.ref b), some (.ref D), some (.int X), some (.ref q), some (.int Y), v7, none, none, none] ∧ Same H' H'' ∧ Bt ms.length Y (fun s => (c.take j).any (onL ms (subN ms ms.length s))))
          ⟨v7, 0, rfl, Same.refl _, ?_⟩ ?_ ?_ ?_⟩
        · rw [List.take_zero]
          exact Bt.zero
        · rintro j σ H'' _ ⟨v7, Y, _, s4, _⟩
          exact SqT.of (s4 _ _ hq)
        · rintro j x σ H'' hx ⟨v7, Y, rfl, s4, btY⟩
          obtain ⟨m, rfl, hm⟩ := int_at hx
          obtain ⟨Z, hv, btZ⟩ := hav.get un (hic m (List.mem_of_getElem? hm))
          have gg : DGet H'' D (V.int m) (some (.int (Z : Int))) := by
            have z := DGet.k (k := Sum.inl m) ((s2.trans (s3.trans s4)) _ _ hD)
            rw [hv] at z
            exact z
          refine ⟨_, rfl, _, rfl, _, rfl, D, _, rfl, gg, _, _, rfl, rfl, some (.int m), Y ||| Z, ?_, s4, ?_⟩
          · have e : Builtin.bitOr (Y : Int) (Z : Int) = ((Y ||| Z : Nat) : Int) := by
              rw [Bits.bitOr_pp (Int.natCast_nonneg _) (Int.natCast_nonneg _)]
              rfl
            exact congrArg (fun z => [some (V.ref a), some (V.int most), some (V.ref b), some (V.ref D), some (V.int X), some (V.ref q), some (V.int z), some (V.int m), none, none, none]) e
          · refine (bt_or btY btZ).cong fun s _ => ?_
            rw [List.take_add_one, hm, List.any_append]
            show _ = (_ || (onL ms _ m || false))
            rw [Bool.or_false]
        · rintro σ H'' ⟨v7, Y, rfl, s4, btY⟩
          rw [List.length_map, List.take_length] at btY
          refine ⟨_, rfl, _, rfl, _, _, rfl, rfl, some (.ref q), some (.int Y), v7, X &&& Y, ?_, s3.trans s4, ?_⟩
          · have e : Builtin.bitAnd (X : Int) (Y : Int) = ((X &&& Y : Nat) : Int) := by
              rw [bitAnd_pp (Int.natCast_nonneg _) (Int.natCast_nonneg _)]
              rfl
            exact congrArg (fun z => [some (V.ref a), some (V.int most), some (V.ref b), some (V.ref D), some (V.int z), some (V.ref q), some (V.int Y), v7, none, none, none]) e
          · exact (bt_and bt btY).cong fun s _ => (held_snoc ms cs i hc _).symm
    · rintro σ H' ⟨v5, v6, v7, X, rfl, s3, bt⟩
      rw [List.length_map, hC.n, List.take_length] at bt
      have s03 := s02.trans s3
      refine ⟨_, rfl, _, rfl, a, _, rfl, .inl (s03.seq hS), _, rfl, ms.length, most, by rw [List.length_map]; rfl, few, fun H4 M s4 btM => ?_⟩
      have s04 := s03.trans s4
      have e : Builtin.bitXor (X : Int) (M : Int) = ((X ^^^ M : Nat) : Int) := by
        rw [Bits.bitXor_pp (Int.natCast_nonneg _) (Int.natCast_nonneg _)]
        rfl
      have btU : Bt ms.length (X ^^^ M) (fun s => unlL ms most cs (subN ms ms.length s)) := (bt_xor bt btM).cong fun s _ => (unl_bit ms most cs s).symm
      refine ⟨_, _, rfl, rfl, ?_⟩
      generalize hu2 : (fun i j : Int => V.int (Builtin.bitXor i j)) (X : Int) (M : Int) = uv
      obtain rfl : uv = V.int ((X ^^^ M : Nat) : Int) := hu2.symm.trans (congrArg V.int e)
      clear hu2 e
      generalize X ^^^ M = U at btU ⊢
      refine ⟨_, rfl, rfl, _, rfl, ite2 (fun c => ?_) (fun c => ?_)⟩
      · have u0 : U = 0 := by
          have := V.int.inj (of_decide_eq_true c)
          omega
        subst u0
        exact k1 _ s04 fun s hs => bt_none btU hs
      · have u0 : U ≠ 0 := fun z => c (decide_eq_true (by rw [z]; rfl))
        obtain ⟨hlt, hun⟩ := bt_top btU u0
        have eb : Builtin.Int.intBits (U : Int) = U.log2 + 1 := by
          unfold Builtin.Int.intBits
          rw [if_neg (fun y => u0 (by have := of_decide_eq_true (show decide ((U : Int) = 0) = true from y); omega)), Int.natAbs_natCast]
        refine ⟨_, rfl, _, rfl, _, _, rfl, rfl, ?_⟩
        generalize hs2 : (fun i j : Int => V.int (i - j)) ((Builtin.Int.intBits (U : Int) : Nat) : Int) 1 = sv
        obtain rfl : sv = V.int (U.log2 : Int) := hs2.symm.trans (congrArg V.int (by rw [eb]; omega))
        clear hs2
        generalize U.log2 = S at hlt hun ⊢
        refine ⟨_, rfl, a, _, rfl, s04.seq hS, fun Z nZ => lc_enum (fun j Hc => Same H4 Hc ∧ Hc Z = some (.lst ((subN ms j S).map V.int))) ⟨same_new nZ, upd_same⟩ (fun j Hc z => (s04.trans z.1).seq hS) (fun j x p Hc hx z np => ?_) (fun Hc z => ?_)⟩
        · obtain ⟨m, rfl, hm⟩ := int_at hx
          obtain ⟨sm, hz⟩ := z
          have sp := same_new (o := .tup [V.int (j : Nat), V.int m]) np
          refine ⟨p, _, rfl, SqT.of upd_same, rfl, _, _, rfl, _, _, rfl, rfl, rfl, _, rfl, _, rfl, _, _, rfl, rfl, Int.natCast_nonneg _, _, _, rfl, rfl, rfl, _, rfl, ?_⟩
          have e := bit_is S j
          have hz2 := sp _ _ hz
          have eg := getD_get hm
          show if decide (V.int (Builtin.bitAnd ((S : Int) / 2 ^ ((j : Nat) : Int).toNat) 1) = V.int 1) = true then _ else _
          rw [e]
          cases eb2 : S.testBit j with
          | true =>
            refine iteT ⟨_, rfl, _, hz2, ?_, same_mut (sm.trans sp) nZ, ?_⟩
            · rw [List.length_map, subN_len]
              have := popN_le j S
              have := (List.getElem?_eq_some_iff.mp hm).1
              omega
            · rw [upd_same, subN, eb2, if_pos rfl, eg, List.map_append]
              rfl
          | false =>
            refine iteF ⟨sm.trans sp, ?_⟩
            rw [hz2, subN, eb2, if_neg Bool.false_ne_true, List.append_nil]
        · rw [List.length_map] at z
          exact k2 _ _ S (s04.trans z.1) (s04.free nZ) z.2 hlt hun
end

/-! ### the law's settings, and what it asks of one -/
def spSettings (K : PySem.W.Frag) : Sp := fun vs H Q _ => ∃ (a : Addr) (ms : List Int), vs = [.ref a] ∧ SqL K H a (ms.map V.int) ∧ ms.length ≤ 12 ∧
  ∀ (H' : Hp) (D : Addr) (qs : List Addr), Same H H' → H D = none → Ls H' D qs (allS ms ms.length) → Q (.ref D) H'
def spIsUn (K : PySem.W.Frag) : Sp := fun vs H Q _ => ∃ (a b e : Addr) (ms : List Int) (most : Nat) (qs : List Addr) (cs : List (List Int)) (so : List Int), vs = [.ref a, .int most, .ref b, .ref e] ∧ SqL K H a (ms.map V.int) ∧ ms.length ≤ 1000 ∧ Cs H b qs cs ∧ (∀ c ∈ cs, c.length ≤ 100000) ∧ SqL K H e (so.map V.int) ∧
  ∀ H', Same H H' → Q (.bl (unlL ms most cs so)) H'
theorem allS_len (ms : List Int) (i : Nat) : (allS ms i).length = 2 ^ i := by
  unfold allS
  rw [List.length_map, List.length_range]
theorem on_iff {ms so : List Int} {m : Int} : m ∈ ms.map (fun x => if x ∈ so then x else 0 - x) ↔ m ∈ ms ∧ m ∈ so ∨ -m ∈ ms ∧ ¬ -m ∈ so := by
  rw [List.mem_map]
  constructor
  · rintro ⟨x, hx, e⟩
    by_cases c : x ∈ so
    · rw [if_pos c] at e
      subst e
      exact .inl ⟨hx, c⟩
    · rw [if_neg c] at e
      have : x = -m := by omega
      subst this
      exact .inr ⟨hx, c⟩
  · rintro (⟨h1, h2⟩ | ⟨h1, h2⟩)
    · exact ⟨m, h1, if_pos h2⟩
    · exact ⟨-m, h1, by rw [if_neg h2]; omega⟩
theorem filt_any (f : Int → Bool) : ∀ l : List Int, (l.filter f).isEmpty = !(l.any f)
  | [] => rfl
  | x :: l => by
    rw [List.filter_cons, List.any_cons]
    cases h : f x with
    | true => rfl
    | false =>
      rw [if_neg Bool.false_ne_true, filt_any f l, Bool.false_or]
section
variable {P : Program} {w : World} {K : PySem.W.Frag} {mg : Str → Option Value} {base : Heap}
theorem has_settings (T : Top K mg) : Has P w K mg base 1 "_law_settings" ["_law_marks_here"] (spSettings K) := by
  refine has_of T.d__law_settings sc__law_settings bd__law_settings (fun vs H Q E h => ?_) (fun f cdv A outer s H vs Q E hr h => ?_)
  · obtain ⟨a, ms, rfl, _⟩ := h
    rfl
  · have hu := hu_of hr
    have nd := sc__law_settings.nd
    obtain ⟨a, ms, rfl, hS, few, k⟩ := h
    refine ⟨_, (pss_cons (ps_set (i := 1) nd rfl (.inl rfl) (pe_lst (pa_cons (pe_lst pa_nil) pa_nil)))
    (pss_cons (ps_for PassesOwn.never rfl (pi_list (pv 0)) (pg_name (i := 2) nd rfl (.inr rfl))
      (pss_one (ps_set (i := 1) nd rfl (.inl rfl) (pe_op op_cat (pv 1) (pe_lc (own := [("_law_some", 3)]) (by rfl) nd (pi_list (pv 1)) (blkOk_by (own := [("_law_some", 3)]) (N := nm__law_settings) (sc := defScope s__law_settings) (by decide +kernel)) (fun _ _ _ _ _ => pg_name (i := 3) nd rfl (.inl rfl)) (fun _ _ _ _ _ => pts_nil) (fun _ _ _ _ _ => (pe_op op_cat (pv 3) (pe_lst (pa_cons (pv 2) pa_nil)))))))))
    (pss_one (ps_ret (pv 1))))), ?_⟩
    have line : (200000 : Nat) < sizeLine := by decide
    refine ⟨by show 0 ≤ sizeLine; decide, fun p0 n0 => ⟨by show 1 ≤ sizeLine; decide, fun D0 m0 => ?_⟩⟩
    have s0 := (same_new (o := .lst []) n0).trans (same_new (o := .lst [V.ref p0]) m0)
    refine ⟨_, rfl, a, rfl, ⟨_, s0.seq hS⟩, for_list (xs := ms.map V.int) (fun i σ H' => ∃ (v2 : Option V) (D : Addr) (qs : List Addr), σ = [some (.ref a), some (.ref D), v2, none] ∧ Same H H' ∧ H D = none ∧ Ls H' D qs (allS ms i))
      ⟨none, D0, [p0], rfl, s0, (same_new n0).free m0, ⟨upd_same, rfl, fun i q l hq hl => ?_⟩⟩ ?_ ?_ ?_⟩
    · have e : allS ms 0 = [[]] := rfl
      rw [e] at hl
      cases i with
      | succ i => simp at hq
      | zero =>
        cases hq
        cases hl
        exact same_new m0 _ _ upd_same
    · rintro i σ H' _ ⟨v2, D, qs, _, s, _⟩
      exact s.seq hS
    · rintro i x σ H' hx ⟨v2, D, qs, rfl, s, nD, hL⟩
      obtain ⟨m, rfl, hm⟩ := int_at hx
      have hi := (List.getElem?_eq_some_iff.mp hm).1
      have em := getD_get hm
      have p2 := pow_le (show i ≤ 12 by omega)
      have ll := allS_len ms i
      have ln := hL.n
      refine ⟨_, rfl, _, rfl, D, rfl, ⟨_, SqL.of hL.l⟩, fun Z nZ => lc_relD (fun j y H'' => ∃ q l, y = .ref q ∧ q ≠ Z ∧ (allS ms i)[j]? = some l ∧ H'' q = some (.lst ((l ++ [m]).map V.int))) (fun j y H1 H2 ⟨q, l, e, ne, h1, h2⟩ s' => ⟨q, l, e, ne, h1, s' _ _ h2⟩) (fun j y H1 l' o hZ ⟨q, l, e, ne, h1, h2⟩ => ⟨q, l, e, ne, h1, by rw [upd_ne ne]; exact h2⟩) (SqL.of hL.l) nZ (by rw [List.length_map]; omega) (fun x => rfl) (fun j x hx H1 s1 hz1 R g => ?_) (fun H1 ys s1 hZ ly ry => ?_)⟩
      · obtain ⟨q, l, rfl, hq, hl, hql⟩ := hL.at hx
        have ll2 : l.length ≤ 12 := by
          unfold allS at hl
          rw [List.getElem?_map] at hl
          cases e : (List.range (2 ^ i))[j]? with
          | none => rw [e] at hl; cases hl
          | some s' =>
            rw [e] at hl
            cases hl
            rw [subN_len]
            have := popN_le i s'
            omega
        obtain ⟨lz, hz1⟩ := hz1
        refine ⟨_, rfl, _, rfl, by show 1 ≤ sizeLine; decide, fun L nL => ⟨q, L, _, [.int m], rfl, rfl, same_new nL _ _ (s1 _ _ hql), upd_same, by rw [List.length_map]; show _ + 1 ≤ _; omega, fun S nS => g _ _ ((same_new nL).trans (same_new nS)) ⟨S, l, rfl, (ne_of_none (same_new nL _ _ hz1) nS).symm, hl, by rw [upd_same, List.map_append]; rfl⟩⟩⟩
      · obtain ⟨ps, rfl, rs⟩ := refs_of (R := fun j p => ∃ l, (allS ms i)[j]? = some l ∧ H1 p = some (.lst ((l ++ [m]).map V.int))) (ys := ys) (k := 0) fun j y hy => by
          obtain ⟨q, l, e, _, h1, h2⟩ := ry j y hy
          exact ⟨q, e, l, by rw [Nat.zero_add]; exact h1, h2⟩
        rw [List.length_map, List.length_map] at ly
        refine ⟨D, Z, _, _, rfl, rfl, s1 _ _ hL.l, hZ, by rw [List.length_map, List.length_map]; omega, fun S nS => ?_⟩
        have sS := s1.trans (same_new (o := .lst (qs.map V.ref ++ ps.map V.ref)) nS)
        refine ⟨some (.int m), S, qs ++ ps, rfl, s.trans sS, (s.trans s1).free nS, ⟨by rw [upd_same, List.map_append], ?_, fun j q l hq hl => ?_⟩⟩
        · rw [allS_succ, List.length_append, List.length_append, List.length_map]
          omega
        · rw [allS_succ] at hl
          by_cases c : j < qs.length
          · rw [List.getElem?_append_left c] at hq
            rw [List.getElem?_append_left (by omega)] at hl
            exact sS _ _ (hL.t j q l hq hl)
          · rw [List.getElem?_append_right (by omega)] at hq
            rw [List.getElem?_append_right (by omega), ← ln, List.getElem?_map] at hl
            obtain ⟨l', h1, h2⟩ := rs _ q hq
            rw [Nat.zero_add] at h1
            rw [h1] at hl
            cases hl
            rw [em]
            exact same_new nS _ _ h2
    · rintro σ H' ⟨v2, D, qs, rfl, s, nD, hL⟩
      rw [List.length_map] at hL
      exact ⟨_, rfl, k _ _ _ s nD hL⟩
theorem has_isun (T : Top K mg) : Has P w K mg base 1 "_law_is_unlike" ["_law_marks_here", "_law_most", "_law_clauses", "_law_some"] (spIsUn K) := by
  refine has_of T.d__law_is_unlike sc__law_is_unlike bd__law_is_unlike (fun vs H Q E h => ?_) (fun f cdv A outer s H vs Q E hr h => ?_)
  · obtain ⟨a, b, e, ms, most, qs, cs, so, rfl, _⟩ := h
    rfl
  · have hu := hu_of hr
    have nd := sc__law_is_unlike.nd
    obtain ⟨a, b, e, ms, most, qs, cs, so, rfl, hS, few, hC, wide, hE, k⟩ := h
    refine ⟨_, (pss_cons (ps_set (i := 4) nd rfl (.inr rfl) (pe_callTy (call_dictP rfl) (by rfl) T.b_dict (by decide +kernel) (pa_cons (pe_lc (own := [("_law_mark", 6)]) (by rfl) nd (pi_list (pv 0)) (blkOk_by (own := [("_law_mark", 6)]) (N := nm__law_is_unlike) (sc := defScope s__law_is_unlike) (by decide +kernel)) (fun _ _ _ _ _ => pg_name (i := 6) nd rfl (.inl rfl)) (fun _ _ _ _ _ => pts_nil) (fun _ _ _ _ _ => (pe_tup (pa_cons (pe_ifExp (pt_cmpR (op_inK (K := K) rfl) (pv 6) (pv 3) (by rfl)) (pv 6) (pe_op op_sub pe_int (pv 6))) (pa_cons pe_bl pa_nil))))) pa_nil)))
    (pss_cons (ps_for PassesOwn.never rfl (pi_list (pv 2)) (pg_name (i := 5) nd rfl (.inl rfl))
      (pss_one (ps_if (pt_cmpR (op_eqNil hu) (pe_lc (own := [("_law_mark", 6)]) (by rfl) nd (pi_tup (pv 5)) (blkOk_by (own := [("_law_mark", 6)]) (N := nm__law_is_unlike) (sc := defScope s__law_is_unlike) (by decide +kernel)) (fun _ _ _ _ _ => pg_name (i := 6) nd rfl (.inl rfl)) (fun _ _ _ _ _ => pts_one (pt_cmp (pc_din hu (pv 6) (pv 4)))) (fun _ _ _ _ _ => (pv 6))) (pe_lst pa_nil) (nomark _)) (pss_one (ps_ret (pe_cmpR op_le (pe_callB call_len_seq (by rfl) T.b_len (by decide +kernel) (pa_cons (pv 3) pa_nil)) (pv 1) (nomark _)))) pss_nil)))
    (pss_one (ps_ret (pe_cmpR op_gt (pe_callB call_len_seq (by rfl) T.b_len (by decide +kernel) (pa_cons (pv 3) pa_nil)) (pv 1) (nomark _)))))), ?_⟩
    have line : (200000 : Nat) < sizeLine := by decide
    refine ⟨_, rfl, a, rfl, ⟨_, hS⟩, fun D nD => lc_relL (fun j y H'' => ∃ p m, y = .ref p ∧ ms[j]? = some m ∧ H'' p = some (.tup [.int (if m ∈ so then m else 0 - m), .bl true])) (fun j y H1 H2 ⟨q, l, e, h1, h2⟩ s' => ⟨q, l, e, h1, s' _ _ h2⟩) (fun j y H1 l' o hZ ⟨q, l, e, h1, h2⟩ => ⟨q, l, e, h1, by rw [upd_ne (ne_of h2 hZ (by intro z; cases z))]; exact h2⟩) hS nD (by rw [List.length_map]; omega) (fun x => rfl) (fun j x hx H1 s1 R g => ?_) (fun H1 ys s1 hD ly ry => ?_)⟩
    · obtain ⟨m, rfl, hm⟩ := int_at hx
      refine ⟨_, rfl, _, rfl, e, _, rfl, .inl (s1.seq hE), rfl, flat_l so, _, rfl, ?_⟩
      show if inV (V.int m) (so.map V.int) = true then _ else _
      rw [inV_l]
      by_cases c : m ∈ so
      · refine iteTd c ⟨_, rfl, by show 2 ≤ sizeLine; decide, fun p np => g _ _ (same_new np) ⟨p, m, rfl, hm, by rw [upd_same, if_pos c]⟩⟩
      · refine iteFd c ⟨_, rfl, _, _, rfl, rfl, by show 2 ≤ sizeLine; decide, fun p np => g _ _ (same_new np) ⟨p, m, rfl, hm, by rw [upd_same, if_neg c]⟩⟩
    · obtain ⟨ps, rfl, rs⟩ := refs_of (R := fun j p => ∃ m, ms[j]? = some m ∧ H1 p = some (.tup [.int (if m ∈ so then m else 0 - m), .bl true])) (ys := ys) (k := 0) fun j y hy => by
          obtain ⟨q, l, e, h1, h2⟩ := ry j y hy
          exact ⟨q, e, l, by rw [Nat.zero_add]; exact h1, h2⟩
      rw [List.length_map, List.length_map] at ly
      have pr : Prs H1 ps (ms.map (fun x => if x ∈ so then x else 0 - x)) := ⟨by rw [List.length_map, ly], fun i p m hp hm => by
        obtain ⟨m', h1, h2⟩ := rs i p hp
        rw [Nat.zero_add] at h1
        rw [List.getElem?_map, h1] at hm
        cases hm
        exact h2⟩
      have isin : ∀ x : Int, (valV (tru ((ms.map (fun x => if x ∈ so then x else 0 - x)).foldl ins [])) (Sum.inl x : Key)).isSome = onL ms so x := fun x => by
        rw [tru_some]
        unfold onL
        refine decide_eq_decide.mpr ⟨fun z => on_iff.mp (((mem_fold _ []).mp z).elim (fun q => by cases q) id), fun z => (mem_fold _ []).mpr (.inr (on_iff.mpr z))⟩
      refine ⟨D, ps, _, rfl, SqL.of hD, pr.paired, fun d hd => ?_⟩
      rw [show mergeK [] (tru (ms.map (fun x => if x ∈ so then x else 0 - x))) = _ from tru_merge _ []]
      generalize (ms.map (fun x => if x ∈ so then x else 0 - x)).foldl ins [] = on at isin ⊢
      have s2 := s1.trans (same_new hd (o := .dK (tru on)))
      have hd2 : (upd H1 d (.dK (tru on))) d = some (.dK (tru on)) := upd_same
      generalize upd H1 d (.dK (tru on)) = H2 at s2 hd2 ⊢
      refine ⟨_, rfl, b, rfl, ⟨_, SqL.of (s2 _ _ hC.l)⟩, for_list (xs := qs.map V.ref) (fun i σ H' => ∃ (v5 : Option V), σ = [some (.ref a), some (.int most), some (.ref b), some (.ref e), some (.ref d), v5, none] ∧ Same H2 H' ∧ heldL ms (cs.take i) so = true) ⟨none, rfl, Same.refl _, rfl⟩ ?_ ?_ ?_⟩
      · rintro i σ H' _ ⟨v5, _, s3, _⟩
        exact SqL.of ((s2.trans s3) _ _ hC.l)
      · rintro i x σ H' hx ⟨v5, rfl, s3, hh⟩
        have li := (List.getElem?_eq_some_iff.mp hx).1
        rw [List.length_map, hC.n] at li
        have hc := List.getElem?_eq_getElem li
        rw [List.getElem?_map] at hx
        cases eq : qs[i]? with
        | none => rw [eq] at hx; cases hx
        | some q =>
          rw [eq] at hx
          cases hx
          have hq := (s2.trans s3) _ _ (hC.t i q _ eq hc)
          have wc := wide _ (List.mem_of_getElem? hc)
          have hs := held_snoc ms cs i hc so
          have hmem := List.mem_of_getElem? hc
          generalize cs[i] = c at hc hq wc hs hmem
          refine ⟨_, rfl, q, rfl, ⟨_, SqT.of hq⟩, fun D2 nD2 => lc_sel_tup (fun x => match x with | .int m => onL ms so m | _ => false) (fun x => x) (SqT.of hq) nD2 (by rw [List.length_map]; omega) (fun x hm => ?_) fun H3 s4 h3 => ?_⟩
          · obtain ⟨m, _, rfl⟩ := List.mem_map.mp hm
            refine ⟨rfl, fun H'' s' R r => ⟨_, rfl, _, rfl, d, _, rfl, DGet.k (k := Sum.inl m) ((s3.trans s') _ _ hd2), _, rfl, ?_⟩, fun _ H'' s' R r => ⟨_, rfl, r H'' (Same.refl _)⟩⟩
            rw [isin]
            exact r H'' (Same.refl _)
          · have e3 : ((((c.map V.int).filter fun x => match x with | .int m => onL ms so m | _ => false).map fun x => x)).isEmpty = !(c.any (onL ms so)) := by
              rw [List.map_id', List.filter_map, List.isEmpty_map]
              exact filt_any (onL ms so) c
            refine ⟨by show 0 ≤ sizeLine; decide, fun N hN => ⟨D2, N, _, rfl, rfl, SqL.of (same_new hN _ _ h3), SqL.of upd_same, _, rfl, ?_⟩⟩
            have s5 := (s3.trans s4).trans (same_new hN (o := .lst []))
            generalize upd H3 N (.lst []) = H4 at s5 ⊢
            show (if (((c.map V.int).filter fun x => match x with | .int m => onL ms so m | _ => false).map fun x => x).isEmpty = true then _ else _)
            rw [e3]
            cases ea : c.any (onL ms so) with
            | true =>
              rw [hh, ea] at hs
              exact iteF ⟨some (.ref q), rfl, s5, hs⟩
            | false =>
              have hun : unlL ms most cs so = decide (so.length ≤ most) := by
                unfold unlL
                rw [if_neg]
                intro z
                have := List.all_eq_true.mp z c hmem
                rw [ea] at this
                cases this
              refine iteT ⟨_, rfl, e, _, rfl, .inl ((s2.trans s5).seq hE), _, rfl, _, _, rfl, rfl, ?_⟩
              have kk := k _ (s2.trans s5)
              rw [hun] at kk
              have e4 : decide (((so.map V.int).length : Nat) ≤ (most : Int)) = decide (so.length ≤ most) := decide_eq_decide.mpr (by rw [List.length_map]; omega)
              rw [← e4] at kk
              exact kk
      · rintro σ H' ⟨v5, rfl, s3, hh⟩
        rw [List.length_map, hC.n, List.take_length] at hh
        have hun : unlL ms most cs so = decide (most < so.length) := by
          unfold unlL
          rw [if_pos hh]
        refine ⟨_, rfl, e, _, rfl, .inl ((s2.trans s3).seq hE), _, rfl, _, _, rfl, rfl, ?_⟩
        have kk := k _ (s2.trans s3)
        rw [hun] at kk
        have e4 : decide (((so.map V.int).length : Nat) > (most : Int)) = decide (most < so.length) := decide_eq_decide.mpr (by rw [List.length_map]; omega)
        rw [← e4] at kk
        exact kk
end

/-! ### marks of unlike names, up to the ninth power -/
def nas (l : List Int) : List Nat := l.map Int.natAbs
structure Un (ms : List Int) : Prop where
  nd : (nas ms).Nodup
  nz : ∀ x ∈ ms, x ≠ 0
  lim : ∀ x ∈ ms, x.natAbs ≤ 10 ^ 12
theorem Un.nodup {ms : List Int} (h : Un ms) : ms.Nodup := by
  have := h.nd
  unfold nas at this
  exact (List.pairwise_map.mp this).imp fun h e => h (by rw [e])
theorem nas_one : ∀ {l : List Int}, (nas l).Nodup → ∀ x ∈ l, ∀ y ∈ l, x.natAbs = y.natAbs → x = y
  | a :: r, h, x, hx, y, hy, e => by
    have h' := List.nodup_cons.mp (show (a.natAbs :: nas r).Nodup from h)
    rcases List.mem_cons.mp hx with rfl | hx'
    · rcases List.mem_cons.mp hy with rfl | hy'
      · rfl
      · exact absurd (show x.natAbs ∈ nas r from List.mem_map.mpr ⟨y, hy', e.symm⟩) h'.1
    · rcases List.mem_cons.mp hy with rfl | hy'
      · exact absurd (show y.natAbs ∈ nas r from List.mem_map.mpr ⟨x, hx', e⟩) h'.1
      · exact nas_one h'.2 x hx' y hy' e
theorem Un.con {ms : List Int} (h : Un ms) {x : Int} (hx : x ∈ ms) : -x ∉ ms := fun z => by
  have e := nas_one h.nd x hx (-x) z (by omega)
  have := h.nz x hx
  omega
theorem Un.of_perm {ms ys : List Int} (h : Un ms) (p : (nas ys).Perm (nas ms)) : Un ys := by
  refine ⟨(p.nodup_iff).mpr h.nd, fun x hx z => ?_, fun x hx => ?_⟩
  · subst z
    have := p.mem_iff.mp (List.mem_map.mpr ⟨0, hx, rfl⟩)
    obtain ⟨y, hy, e⟩ := List.mem_map.mp this
    have := h.nz y hy
    omega
  · obtain ⟨y, hy, e⟩ := List.mem_map.mp (p.mem_iff.mp (List.mem_map.mpr ⟨x, hx, rfl⟩))
    have := h.lim y hy
    omega
/-- a clause of marks of these names -/
structure ClM (ms c : List Int) : Prop where
  nd : (nas c).Nodup
  sub : ∀ x ∈ c, ∃ y ∈ ms, x.natAbs = y.natAbs
theorem ClM.nodup {ms c : List Int} (h : ClM ms c) : c.Nodup := by
  have := h.nd
  unfold nas at this
  exact (List.pairwise_map.mp this).imp fun h e => h (by rw [e])
theorem ClM.nz {ms c : List Int} (h : ClM ms c) (u : Un ms) {x : Int} (hx : x ∈ c) : x ≠ 0 := by
  obtain ⟨y, hy, e⟩ := h.sub x hx
  have := u.nz y hy
  omega
theorem ClM.nil (ms : List Int) : ClM ms [] := ⟨List.nodup_nil, fun x hx => by cases hx⟩
theorem ClM.of_perm {ms ys ss : List Int} (h : Un ms) (p : (nas ys ++ nas ss).Perm (nas ms)) : ClM ms ys := by
  have n := (p.nodup_iff).mpr h.nd
  refine ⟨n.sublist (List.sublist_append_left _ _), fun x hx => ?_⟩
  obtain ⟨y, hy, e⟩ := List.mem_map.mp (p.mem_iff.mp (List.mem_append_left _ (List.mem_map.mpr ⟨x, hx, rfl⟩)))
  exact ⟨y, hy, e.symm⟩
theorem ClM.of_nas {ms c d : List Int} (h : ClM ms c) (e : nas d = nas c) : ClM ms d := by
  refine ⟨by rw [e]; exact h.nd, fun x hx => ?_⟩
  have : x.natAbs ∈ nas d := List.mem_map.mpr ⟨x, hx, rfl⟩
  rw [e] at this
  obtain ⟨y, hy, ey⟩ := List.mem_map.mp this
  obtain ⟨z, hz, ez⟩ := h.sub y hy
  exact ⟨z, hz, by omega⟩
theorem nas_snoc (l : List Int) (y : Int) : nas (l ++ [y]) = nas l ++ [y.natAbs] := by
  unfold nas
  rw [List.map_append]
  rfl
theorem erase_perm : ∀ (l : List Int) (r : Nat) (h : r < l.length), (l[r] :: l.eraseIdx r).Perm l
  | a :: t, 0, _ => List.Perm.refl _
  | a :: t, r + 1, h => (List.Perm.swap a _ _).trans ((List.perm_cons a).mpr (erase_perm t r (by simpa using h)))
theorem perm_move {ys ss : List Int} {r : Nat} (hr : r < ss.length) {y : Int} (e : y.natAbs = ss[r].natAbs) : (nas (ys ++ [y]) ++ nas (ss.eraseIdx r)).Perm (nas ys ++ nas ss) := by
  rw [nas_snoc, e, List.append_assoc]
  refine List.Perm.append_left _ ?_
  have p := (erase_perm ss r hr).map Int.natAbs
  exact p
theorem dec61 : ∀ b : Fin 61, ∀ d : Fin 61, 0 < b.val → 0 < d.val → b.val * d.val % 61 ≠ 0 := by decide +kernel
theorem inj61 {B : Int} {i j : Nat} (h0 : 1 ≤ B) (h1 : B ≤ 60) (hi : i < 61) (hij : j < i) : B * (i : Int) % 61 ≠ B * (j : Int) % 61 := fun e => by
  have d := dec61 ⟨B.toNat, by omega⟩ ⟨i - j, by omega⟩ (by show 0 < B.toNat; omega) (by show 0 < i - j; omega)
  have s : B * (i : Int) = B * (j : Int) + B * ((i - j : Nat) : Int) := by
    rw [← Int.mul_add]
    congr 1
    omega
  have eB : ((B.toNat : Nat) : Int) = B := by omega
  have m : B * ((i - j : Nat) : Int) % 61 = 0 := by
    rw [s] at e
    generalize B * (j : Int) = x at e
    generalize B * ((i - j : Nat) : Int) = y at e ⊢
    omega
  apply d
  have : ((B.toNat * (i - j) % 61 : Nat) : Int) = 0 := by
    rw [Int.natCast_emod, Int.natCast_mul, eB]
    exact m
  exact Int.ofNat.inj this
theorem names_nd {z4 z2 B : Int} {n : Nat} (hz4 : 1 ≤ z4) (hz2 : 1 ≤ z2) (h0 : 1 ≤ B) (h1 : B ≤ 60) (hn : n ≤ 61) : (nas ((List.range n).map fun (i : Nat) => z4 + z2 * (B * (0 + (i : Int)) % 61))).Nodup ∧
    ∀ x ∈ (List.range n).map (fun (i : Nat) => z4 + z2 * (B * (0 + (i : Int)) % 61)), x ≠ 0 := by
  have pos : ∀ i : Nat, 0 ≤ z2 * (B * (0 + (i : Int)) % 61) := fun i => Int.mul_nonneg (by omega) (Int.emod_nonneg _ (by decide))
  refine ⟨?_, fun x hx => ?_⟩
  · unfold nas
    rw [List.map_map]
    refine List.pairwise_map.mpr ((List.pairwise_lt_range (n := n)).imp_of_mem fun {a b} ha hb hab e => ?_)
    have hb' := List.mem_range.mp hb
    have e' : z4 + z2 * (B * (0 + (a : Int)) % 61) = z4 + z2 * (B * (0 + (b : Int)) % 61) := by
      have e : (z4 + z2 * (B * (0 + (a : Int)) % 61)).natAbs = (z4 + z2 * (B * (0 + (b : Int)) % 61)).natAbs := e
      have p1 := pos a
      have p2 := pos b
      omega
    have e2 : B * (0 + (a : Int)) % 61 = B * (0 + (b : Int)) % 61 := by
      have e3 : z2 * (B * (0 + (a : Int)) % 61) = z2 * (B * (0 + (b : Int)) % 61) := by omega
      exact Int.eq_of_mul_eq_mul_left (by omega) e3
    rw [Int.zero_add, Int.zero_add] at e2
    exact inj61 h0 h1 (by omega) hab e2.symm
  · obtain ⟨i, _, rfl⟩ := List.mem_map.mp hx
    have := pos i
    omega
theorem names_lim {z4 z2 B : Int} {n : Nat} (h4 : z4 + z2 * 60 ≤ 10 ^ 9) (hz4 : 1 ≤ z4) (hz2 : 1 ≤ z2) : ∀ x ∈ (List.range n).map (fun (i : Nat) => z4 + z2 * (B * (0 + (i : Int)) % 61)), x.natAbs ≤ 10 ^ 9 := fun x hx => by
  obtain ⟨i, _, rfl⟩ := List.mem_map.mp hx
  have a : 0 ≤ z2 * (B * (0 + (i : Int)) % 61) := Int.mul_nonneg (by omega) (Int.emod_nonneg _ (by decide))
  have b : z2 * (B * (0 + (i : Int)) % 61) ≤ z2 * 60 := Int.mul_le_mul_of_nonneg_left (Int.le_of_lt_add_one (Int.emod_lt_of_pos _ (by decide))) (by omega)
  generalize z2 * (B * (0 + (i : Int)) % 61) = y at a b
  omega
theorem Tape.cs {H H' : Hp} {t c a : Addr} {n : Nat} {qs : List Addr} {cs : List (List Int)} (h : Tape H t c n) (e : Cs H a qs cs) (k : Kp t H H') : Cs H' a qs cs := by
  obtain ⟨ns, spot, left, tc, _⟩ := h
  exact e.kp tc.d k
theorem Cs.snoc {H : Hp} {a q : Addr} {qs : List Addr} {cs : List (List Int)} {c : List Int} (h : Cs H a qs cs) (hq : H q = some (.tup (c.map V.int))) : Cs (upd H a (.lst (qs.map V.ref ++ [.ref q]))) a (qs ++ [q]) (cs ++ [c]) := by
  have hn := h.n
  refine ⟨by rw [upd_same, List.map_append]; rfl, by rw [List.length_append, List.length_append, hn]; rfl, fun i p d hp hd => ?_⟩
  have g : H p = some (.tup (d.map V.int)) := by
    rcases getElem_snoc hp with ⟨_, e⟩ | ⟨e1, rfl⟩
    · rcases getElem_snoc hd with ⟨_, e2⟩ | ⟨e2, _⟩
      · exact h.t i p d e e2
      · omega
    · rcases getElem_snoc hd with ⟨e2, _⟩ | ⟨_, rfl⟩
      · omega
      · exact hq
  rw [upd_ne (ne_of g h.l (by intro z; cases z))]
  exact g
theorem ins_at {α : Type} {xs : List α} {x y : α} {j i : Nat} (hj : j ≤ xs.length) (h : (xs.take j ++ [x] ++ xs.drop j)[i]? = some y) : (i < j ∧ xs[i]? = some y) ∨ (i = j ∧ x = y) ∨ (j < i ∧ xs[i - 1]? = some y) := by
  have lt : (xs.take j).length = j := by
    rw [List.length_take]
    omega
  rcases Nat.lt_trichotomy i j with c | c | c
  · rw [List.append_assoc, List.getElem?_append_left (by omega), List.getElem?_take, if_pos c] at h
    exact .inl ⟨c, h⟩
  · subst c
    rw [List.append_assoc, List.getElem?_append_right (by omega), lt, Nat.sub_self] at h
    exact .inr (.inl ⟨rfl, Option.some.inj h⟩)
  · rw [List.getElem?_append_right (by rw [List.length_append, lt]; exact c), List.length_append, lt, List.getElem?_drop] at h
    refine .inr (.inr ⟨c, ?_⟩)
    rw [← h]
    congr 1
    show i - 1 = j + (i - (j + 1))
    omega
theorem Cs.insert {H : Hp} {a q : Addr} {qs : List Addr} {cs : List (List Int)} {c : List Int} {j : Nat} (h : Cs H a qs cs) (hj : j ≤ cs.length) (hq : H q = some (.tup (c.map V.int))) :
    Cs (upd H a (.lst ((qs.map V.ref).take j ++ [.ref q] ++ (qs.map V.ref).drop j))) a (qs.take j ++ [q] ++ qs.drop j) (cs.take j ++ [c] ++ cs.drop j) := by
  have hn := h.n
  refine ⟨by rw [upd_same, List.map_append, List.map_append, List.map_take, List.map_drop]; rfl, by simp only [List.length_append, List.length_take, List.length_drop, hn]; rfl, fun i p d hp hd => ?_⟩
  have g : H p = some (.tup (d.map V.int)) := by
    rcases ins_at (by omega) hp with ⟨c1, e⟩ | ⟨c1, rfl⟩ | ⟨c1, e⟩
    · rcases ins_at hj hd with ⟨_, e2⟩ | ⟨e2, _⟩ | ⟨e2, _⟩
      · exact h.t i p d e e2
      · omega
      · omega
    · rcases ins_at hj hd with ⟨e2, _⟩ | ⟨_, rfl⟩ | ⟨e2, _⟩
      · omega
      · exact hq
      · omega
    · rcases ins_at hj hd with ⟨e2, _⟩ | ⟨e2, _⟩ | ⟨_, e2⟩
      · omega
      · omega
      · exact h.t (i - 1) p d e e2
  rw [upd_ne (ne_of g h.l (by intro z; cases z))]
  exact g
def spFar : Sp := fun vs H Q _ => ∃ (t c : Addr) (m : Int) (n : Nat), vs = [.ref t, .int m] ∧ Tape H t c n ∧ n < 1000000 ∧ 0 ≤ m ∧ m ≤ 61 ∧
  ∀ (H' : Hp) (p : Addr) (ms : List Int), H p = none → H' p = some (.lst (ms.map V.int)) → ms.length = m.toNat → Un ms → (∀ x ∈ ms, x.natAbs ≤ 10 ^ 9) → Tape H' t c (n + 110) → Kp t H H' → Q (.ref p) H'
section
variable {P : Program} {w : World} {K : PySem.W.Frag} {mg : Str → Option Value} {base : Heap}
theorem has_far (T : Top K mg) (h__law_draw : Has P w K mg base 1 "_law_draw" ["_law_tape", "_law_many"] spDraw) (h__law_pick : Has P w K mg base 2 "_law_pick" ["_law_tape", "_law_some"] (spPick K)) :
    Has P w K mg base 3 "_law_marks" ["_law_tape", "_law_many"] spFar := by
  refine has_of T.d__law_marks sc__law_marks bd__law_marks (fun vs H Q E h => ?_) (fun f cdv A outer s H vs Q E hr h => ?_)
  · obtain ⟨t, c, m, n, rfl, _⟩ := h
    rfl
  · have hu := hu_of hr
    have nd := sc__law_marks.nd
    obtain ⟨t, c, m, n, rfl, tp, hn, hm0, hm1, k⟩ := h
    refine ⟨_, (pss_cons (ps_asg (pe_tup (pa_cons (pe_op op_add pe_int (pe_has h__law_draw (hr.mono (by omega)) (by rfl) (pa_cons (pv 0) (pa_cons pe_int pa_nil)))) (pa_cons (pe_has h__law_pick (hr.mono (by omega)) (by rfl) (pa_cons (pv 0) (pa_cons (pe_lst (pa_cons pe_int (pa_cons pe_int (pa_cons pe_int (pa_cons pe_int pa_nil))))) pa_nil))) pa_nil))) (pg_tup (by rfl) (pgs_cons (pg_name (i := 2) nd rfl (.inr rfl)) (pgs_cons (pg_name (i := 3) nd rfl (.inr rfl)) pgs_nil))))
    (pss_cons (ps_set (i := 4) nd rfl (.inr rfl) (pe_has h__law_pick (hr.mono (by omega)) (by rfl) (pa_cons (pv 0) (pa_cons (pe_lst (pa_cons pe_int (pa_cons pe_int (pa_cons pe_int (pa_cons (pe_op op_add pe_int (pe_has h__law_draw (hr.mono (by omega)) (by rfl) (pa_cons (pv 0) (pa_cons pe_int pa_nil)))) (pa_cons (pe_op op_sub (pe_op op_pow pe_int pe_int) (pe_op op_mul pe_int (pv 3))) pa_nil)))))) pa_nil))))
    (pss_cons (ps_asg (pe_tup (pa_cons (pe_lc (own := [("_law_k", 8)]) (by rfl) nd (pi_range1 (by rfl) T.b_range (pa_cons (pv 1) pa_nil)) (blkOk_by (own := [("_law_k", 8)]) (N := nm__law_marks) (sc := defScope s__law_marks) (by decide +kernel)) (fun _ _ _ _ _ => pg_name (i := 8) nd rfl (.inl rfl)) (fun _ _ _ _ _ => pts_nil) (fun _ _ _ _ _ => (pe_op op_add (pv 4) (pe_op op_mul (pv 3) (pe_op op_mod (pe_op op_mul (pv 2) (pv 8)) pe_int))))) (pa_cons (pe_has h__law_pick (hr.mono (by omega)) (by rfl) (pa_cons (pv 0) (pa_cons (pe_lst (pa_cons pe_int (pa_cons pe_int (pa_cons pe_int (pa_cons pe_int pa_nil))))) pa_nil))) pa_nil))) (pg_tup (by rfl) (pgs_cons (pg_name (i := 5) nd rfl (.inl rfl)) (pgs_cons (pg_name (i := 6) nd rfl (.inr rfl)) pgs_nil))))
    (pss_one (ps_ret (pe_lc (own := [("_law_name", 7)]) (by rfl) nd (pi_list (pv 5)) (blkOk_by (own := [("_law_name", 7)]) (N := nm__law_marks) (sc := defScope s__law_marks) (by decide +kernel)) (fun _ _ _ _ _ => pg_name (i := 7) nd rfl (.inl rfl)) (fun _ _ _ _ _ => pts_nil) (fun _ _ _ _ _ => (pe_ifExp (pt_cmpR op_lt (pe_has h__law_draw (hr.mono (by omega)) (by rfl) (pa_cons (pv 0) (pa_cons (pv 6) pa_nil))) (pe_op op_sub pe_int (pe_op op_fdivW (pv 6) pe_int)) (nomark _)) (pv 7) (pe_op op_sub pe_int (pv 7)))))))))), ?_⟩
    have cp : ∀ z : Int, 0 ≤ z → z ≤ 1000000 → CPow 10 z := fun z h0 h1 => ⟨h0, h1, by decide⟩
    refine ⟨_, rfl, t, c, _, n, rfl, tp, by omega, by decide, by decide +kernel, fun H1 r1 a1 b1 tp1 kp1 => ⟨_, _, rfl, rfl, _, rfl, by show 4 ≤ sizeLine; decide, fun d1 h1 => ?_⟩⟩
    refine ⟨t, c, d1, _, n + 1, rfl, tp1.new h1, by omega, fun H' kp => .inl (SqL.of (kp d1 _ upd_same (tp1.fresh h1))), by show 0 < 4; decide, by show 4 ≤ 1000000; decide, fun H2 i2 v2 g2 tp2 kp2 => ?_⟩
    obtain ⟨z2, rfl, m2⟩ := pick_int (zs := [1, 1, 7, 16000000]) g2
    have z2b : 1 ≤ z2 ∧ z2 ≤ 16000000 := by
      simp only [List.mem_cons, List.not_mem_nil, or_false] at m2
      omega
    refine ⟨by show 2 ≤ sizeLine; decide, fun q2 hq2 => ⟨q2, _, rfl, SqT.of upd_same, rfl, _, _, rfl, _, _, rfl, rfl, ?_⟩⟩
    have t2 := tp2.new (o := .tup [V.int (1 + r1), V.int z2]) hq2
    -- first
    refine ⟨_, rfl, _, rfl, t, c, _, n + 2, rfl, t2, by omega, by decide, by decide +kernel, fun H3 r3 a3 b3 tp3 kp3 => ⟨_, _, rfl, rfl, _, _, rfl, rfl, cp _ (by decide) (by decide), _, rfl, _, _, rfl, rfl, .inl ⟨by decide, by decide⟩, _, _, rfl, rfl, by show 5 ≤ sizeLine; decide, fun d3 h3 => ?_⟩⟩
    refine ⟨t, c, d3, _, n + 3, rfl, tp3.new h3, by omega, fun H' kp => .inl (SqL.of (kp d3 _ upd_same (tp3.fresh h3))), by show 0 < 5; decide, by show 5 ≤ 1000000; decide, fun H4 i4 v4 g4 tp4 kp4 => ?_⟩
    obtain ⟨z4, rfl, m4⟩ := pick_int (zs := [1, 5, 95, 1 + r3, 10 ^ (9 : Int).toNat - 60 * z2]) g4
    -- names
    refine ⟨_, rfl, m, rfl, by omega, by omega, fun D hD => lc_sel_range (lo := 0) (fun _ => true) (fun i => .int (z4 + z2 * ((1 + r1) * (0 + (i : Int)) % 61))) hD (by omega) (fun i hi => ?_) fun H5 s5 h5 => ?_⟩
    · exact ⟨rfl, fun H' s' R g => g H' (Same.refl _), fun _ H' s' R g => ⟨_, rfl, _, rfl, _, rfl, _, rfl, _, _, rfl, rfl, .inl ⟨by omega, by omega⟩, _, _, rfl, rfl, by show (0 : Int) < 61; decide, _, _, rfl, rfl, .inl ⟨by omega, by omega⟩, _, _, rfl, rfl, g H' (Same.refl _)⟩⟩
    rw [filter_all] at h5
    have h5 : H5 D = some (.lst (((List.range m.toNat).map fun (i : Nat) => z4 + z2 * ((1 + r1) * (0 + (i : Int)) % 61)).map V.int)) := by
      rw [h5, List.map_map]
      rfl
    have l5 : ((List.range m.toNat).map fun (i : Nat) => z4 + z2 * ((1 + r1) * (0 + (i : Int)) % 61)).length = m.toNat := by rw [List.length_map, List.length_range]
    have z4b : 1 ≤ z4 := by
      simp only [List.mem_cons, List.not_mem_nil, or_false] at m4
      have p12 : (10 : Int) ^ (9 : Int).toNat = 1000000000 := by decide
      omega
    have z4c : z4 + z2 * 60 ≤ 10 ^ 9 := by
      simp only [List.mem_cons, List.not_mem_nil, or_false] at m4
      have p12 : (10 : Int) ^ (9 : Int).toNat = 1000000000 := by decide
      omega
    have nnm := names_nd (z4 := z4) (z2 := z2) (B := 1 + r1) (n := m.toNat) z4b (by omega) (by omega) (by omega) (by omega)
    have nnl := names_lim (z4 := z4) (z2 := z2) (B := 1 + r1) (n := m.toNat) z4c z4b (by omega)
    generalize ((List.range m.toNat).map fun (i : Nat) => z4 + z2 * ((1 + r1) * (0 + (i : Int)) % 61)) = nm at h5 l5 nnm nnl
    have t5 := tp4.same s5
    refine ⟨_, rfl, by show 4 ≤ sizeLine; decide, fun d6 h6 => ?_⟩
    refine ⟨t, c, d6, _, n + 4, rfl, t5.new h6, by omega, fun H' kp => .inl (SqL.of (kp d6 _ upd_same (t5.fresh h6))), by show 0 < 4; decide, by show 4 ≤ 1000000; decide, fun H6 i6 v6 g6 tp6 kp6 => ?_⟩
    obtain ⟨z6, rfl, m6⟩ := pick_int (zs := [1, 2, 2, 3]) g6
    have z6b : 1 ≤ z6 ∧ z6 ≤ 3 := by
      simp only [List.mem_cons, List.not_mem_nil, or_false] at m6
      omega
    have k56 : Kp t H5 H6 := (Kp.new h6).trans kp6
    refine ⟨by show 2 ≤ sizeLine; decide, fun q7 hq7 => ⟨q7, _, rfl, SqT.of upd_same, rfl, _, _, rfl, _, _, rfl, rfl, ?_⟩⟩
    have t7 := tp6.new (o := .tup [V.ref D, V.int z6]) hq7
    have h7 := same_new (o := .tup [V.ref D, V.int z6]) hq7 _ _ (t5.sq h5 k56)
    have k07 : Kp t H (upd H6 q7 (.tup [V.ref D, V.int z6])) := kp1.trans ((Kp.new h1).trans (kp2.trans ((Kp.new hq2).trans (kp3.trans ((Kp.new h3).trans (kp4.trans ((Kp.same s5).trans (k56.trans (Kp.new hq7)))))))))
    generalize upd H6 q7 (.tup [V.ref D, V.int z6]) = H7 at t7 h7 k07
    -- signs
    refine ⟨_, rfl, D, rfl, ⟨_, SqL.of h7⟩, fun Z hZ => lc_list (xs := nm.map V.int) (fun i H' => Kp t H7 H' ∧ Tape H' t c (n + 5 + i) ∧ ∃ is : List Int, is.length = i ∧ nas is = nas (nm.take i) ∧ H' Z = some (.lst (is.map V.int))) ⟨Kp.new hZ, t7.new hZ, [], rfl, rfl, upd_same⟩ ?_ ?_ ?_⟩
    · rintro i H' _ ⟨kp, _, _⟩
      exact SqL.of (t7.sq h7 kp)
    · rintro i x H8 hi ⟨k8, t8, is, el, en, h8⟩
      obtain ⟨y, rfl, hy⟩ := int_at hi
      have li : i < nm.length := (List.getElem?_eq_some_iff.mp hy).1
      have nZt : Z ≠ t := t7.fresh hZ
      have nZc : Z ≠ c := t7.fresh_c hZ
      refine ⟨rfl, yes_go ⟨_, rfl, _, rfl, t, c, z6, n + 5 + i, rfl, t8, by omega, by omega, pow8000 (by omega), fun H9 r9 a9 b9 tp9 kp9 => ⟨_, rfl, _, _, rfl, rfl, ⟨by decide, by decide⟩, _, _, rfl, rfl, _, _, rfl, rfl, _, rfl, ?_⟩⟩⟩
      have h9 := kp9 Z _ h8 nZt
      have fin : ∀ y' : Int, y'.natAbs = y.natAbs → ∃ acc, H9 Z = some (.lst acc) ∧ acc.length < sizeLine ∧ Kp t H7 (upd H9 Z (.lst (acc ++ [V.int y']))) ∧ Tape (upd H9 Z (.lst (acc ++ [V.int y']))) t c (n + 5 + (i + 1)) ∧ ∃ is : List Int, is.length = i + 1 ∧ nas is = nas (nm.take (i + 1)) ∧ (upd H9 Z (.lst (acc ++ [V.int y']))) Z = some (.lst (is.map V.int)) := fun y' ey => by
        refine ⟨is.map V.int, h9, ?_, (k8.trans kp9).mut hZ, tp9.mut nZt nZc, is ++ [y'], by rw [List.length_append, el]; rfl, by rw [nas_snoc, en, take_snoc hy, nas_snoc, ey], ?_⟩
        · have line : 1000000 < sizeLine := by decide
          rw [List.length_map, el]
          omega
        · rw [upd_same, List.map_append]
          rfl
      refine ite2 (fun _ => ?_) (fun _ => ?_)
      · exact ⟨_, rfl, fin y rfl⟩
      · exact ⟨_, rfl, _, _, rfl, rfl, fin (0 - y) (by omega)⟩
    · rintro H8 ⟨k8, t8, is, el, en, h8⟩
      rw [List.length_map] at el t8
      rw [List.length_map, List.take_length] at en
      have un : Un is := Un.of_perm (ms := nm) ⟨nnm.1, nnm.2, fun x hx => Nat.le_trans (nnl x hx) (by decide)⟩ (by rw [en])
      have lim9 : ∀ x ∈ is, x.natAbs ≤ 10 ^ 9 := fun x hx => by
        have m : x.natAbs ∈ nas nm := by
          rw [← en]
          exact List.mem_map.mpr ⟨x, hx, rfl⟩
        obtain ⟨y, hy, e⟩ := List.mem_map.mp m
        rw [← e]
        exact nnl y hy
      exact k H8 Z is (k07.free hZ (t7.fresh hZ)) h8 (by omega) un lim9 (t8.le (by omega)) (k07.trans k8)
end

/-! ### t[::-1] of a tuple -/
theorem rev_places (n : Nat) : Builtin.Slice.sliceAdjust none none (-1) (n : Int) = ((n : Int) - 1, -1) ∧ Builtin.Slice.slicePlaces ((n : Int) - 1) (-1) (-1) = n := by
  refine ⟨rfl, ?_⟩
  unfold Builtin.Slice.slicePlaces
  rw [if_neg (by decide)]
  by_cases h : (n : Int) - 1 > -1
  · rw [if_pos h, show (-(-1) : Int) = 1 from rfl, Int.ediv_one]
    omega
  · rw [if_neg h]
    omega
theorem rev_pick (xs : Array Value) : ((List.range xs.size).filterMap fun (m : Nat) => xs[(((xs.size : Int) - 1) + (m : Int) * (-1)).toNat]?).toArray = xs.toList.reverse.toArray := by
  congr 1
  have e : ∀ k, k ≤ xs.size → ((List.range k).filterMap fun (m : Nat) => xs[(((xs.size : Int) - 1) + (m : Int) * (-1)).toNat]?) = (xs.toList.drop (xs.size - k)).reverse := by
    intro k
    induction k with
    | zero =>
      intro _
      rw [Nat.sub_zero, List.drop_eq_nil_of_le (by rw [Array.length_toList]; exact Nat.le_refl _)]
      rfl
    | succ k ih =>
      intro hk
      have z : (((xs.size : Int) - 1) + (k : Int) * (-1)).toNat = xs.size - (k + 1) := by omega
      have l : xs.size - (k + 1) < xs.toList.length := by rw [Array.length_toList]; omega
      rw [List.range_succ, List.filterMap_append, ih (by omega), List.drop_eq_getElem_cons l, List.reverse_cons, show xs.size - (k + 1) + 1 = xs.size - k by omega]
      congr 1
      show ([k].filterMap fun (m : Nat) => xs[(((xs.size : Int) - 1) + (m : Int) * (-1)).toNat]?) = _
      rw [List.filterMap_cons, z]
      have g : xs[xs.size - (k + 1)]? = some xs.toList[xs.size - (k + 1)] := by
        rw [← Array.getElem?_toList, List.getElem?_eq_getElem l]
      rw [g]
      rfl
  rw [e _ (Nat.le_refl _), Nat.sub_self, List.drop_zero]
section
variable {prog : Program} {w : World} {A : Around} {E : Value → Shared → Prop} {s : Shared}
theorem getItem_tuple_rev {t sl : Addr} {items : Array Value} {vs : Value} {Q : Value → Shared → Prop} (ht : IsTup s.heap t items) (hs : s.heap.IsSliceOf sl .none .none vs) (ps : IsPart vs (some (-1)))
    (h : Q (.ref s.heap.objs.size) { s with heap := s.heap.push { cls := .type "tuple", data := .seq items.toList.reverse.toArray } }) (hsz : items.size ≤ sizeLine) : wpAny (model prog w) A (getItem (.ref t) (.ref sl)) Q E s := by
  have fits : sizeOk (.seq items.toList.reverse.toArray) := by
    show items.toList.reverse.toArray.size ≤ sizeLine
    rw [List.size_toArray, List.length_reverse, Array.length_toList]
    exact hsz
  obtain ⟨os, hos, hcs, hds⟩ := id hs
  have kind : s.TypeIs (.ref sl) "slice" := ⟨os, hos, hcs⟩
  unfold getItem
  try with_reducible refine wpAny_holding ?_
  first
    | refine wpAny_bind (wpAny_pure ?_)
    | skip
  refine wpAny_bind (wpAny_sequenceKey ht.typeIs (by decide) ?_)
  refine wpAny_bind (wpAny_callSpecial?_slot (name := Str.ofString "__getitem__") ht.typeIs PyProof.Rows.slot_tuple_getitem (wpAny_call_entry PyProof.Rows.slot_tuple_getitem ht.typeIs entry_tuple_getitem ?_ (args_tuple_getitem _ _)))
  show wpAny _ _ (Builtin.Tuple.tupleItemsOf (.ref t) >>= _) _ _ s
  refine wpAny_bind (tupleItemsOf_ ht ?_)
  refine wpAny_bind (wpAny_typeOf kind ?_)
  rw [if_pos (by decide)]
  refine wpAny_bind ?_
  unfold Builtin.Slice.sliceApplied Builtin.Slice.sliceFields
  refine wpAny_bind (wpAny_bind (wpAny_field hos hds (x := .none) rfl (wpAny_bind (wpAny_field hos hds (x := .none) rfl (wpAny_bind (wpAny_field hos hds (x := vs) rfl (wpAny_pure ?_)))))))
  refine wpAny_bind (HT.slicePart_ ps ?_)
  show wpAny _ _ (if ((-1 : Int) == 0) = true then _ else _) _ _ s
  rw [if_neg (by decide)]
  refine wpAny_bind (HT.slicePart_ .none (wpAny_bind (HT.slicePart_ .none (wpAny_bind (wpAny_pure ?_)))))
  obtain ⟨r1, r2⟩ := rev_places items.size
  show wpAny _ _ (match Builtin.Slice.sliceAdjust none none (-1) (items.size : Int) with | (lo, hi) => pure (lo, (-1 : Int), Builtin.Slice.slicePlaces lo hi (-1))) _ _ s
  rw [r1]
  show wpAny _ _ (pure (((items.size : Int) - 1), (-1 : Int), Builtin.Slice.slicePlaces ((items.size : Int) - 1) (-1) (-1))) _ _ s
  rw [r2]
  refine wpAny_pure ?_
  have hno : ¬ ((((items.size : Int) - 1) == 0 && (-1 : Int) == 1 && items.size == items.size) = true) := by
    rw [show ((-1 : Int) == 1) = false from rfl, Bool.and_false, Bool.false_and]
    exact Bool.false_ne_true
  show wpAny _ _ (if ((((items.size : Int) - 1) == 0 && (-1 : Int) == 1 && items.size == items.size) = true) then _ else _) _ _ s
  rw [if_neg hno, rev_pick]
  first
    | exact wpAny_bind (m := Builtin.Tuple.tupleExact _) (wpAny_newObj_type (wpAny_pure ⟨_, rfl, wpAny_pure h⟩) fits)
    | exact wpAny_bind (m := Builtin.Tuple.tupleExact _) (wpAny_newObj_type (wpAny_bind (wpAny_pure (wpAny_pure ⟨_, rfl, wpAny_pure h⟩))) fits)
    | exact wpAny_bind (wpAny_bind (m := Builtin.Tuple.tupleExact _) (wpAny_newObj_type (wpAny_pure (wpAny_pure ⟨_, rfl, wpAny_pure h⟩)) fits))
    | exact wpAny_bind (wpAny_bind (m := Builtin.Tuple.tupleExact _) (wpAny_newObj_type (wpAny_pure ⟨_, rfl, wpAny_pure h⟩) fits))
end
def tRevT (K : PySem.W.Frag) (te : TE) : TE := fun σ H Q => te σ H fun x H1 => ∃ a xs, x = .ref a ∧ SqT K H1 a xs ∧ ∀ p, H1 p = none → Q (.ref p) (upd H1 p (.tup xs.reverse))
section
variable {X : Cx}
theorem pe_revT {e : Expr} {te : TE} {k : Nat} {p1 p2 p3 pos : Pos} (he : PE X e te) : PE X (.Subscript e (.Slice none none (some (.UnaryOp .USub (.Constant (.int 1) k p1) p2)) p3) pos) (tRevT X.K te) := by
  refine ⟨fun pins s σ H Q I h => ?_⟩
  refine Subscript_ (thn (he.run pins s σ H _ I h) fun v s1 ⟨x, H1, I1, r1, q1⟩ => ?_)
  obtain ⟨a, xs, ex, hx, q⟩ := q1
  subst ex
  cases r1
  have minus : PO X (some (.UnaryOp .USub (.Constant (.int 1) k p1) p2)) (tPart (tUn (rU fun i => .int (-i)) (tC (.int 1)))) := po_some (pe_un un_neg pe_int)
  refine wpAny_Slice (thn (po_none.run pins s1 σ H1 (fun o H2 => o = none ∧ H2 = H1) I1 ⟨rfl, rfl⟩) fun vl s2 ⟨l, H2, I2, pl, el, e2⟩ => ?_)
  subst el e2
  refine thn (po_none.run pins s2 σ H2 (fun o H3 => o = none ∧ H3 = H2) I2 ⟨rfl, rfl⟩) fun vu s3 ⟨u, H3, I3, pu, eu, e3⟩ => ?_
  subst eu e3
  refine thn (minus.run pins s3 σ H3 (fun o H4 => o = some (-1) ∧ H4 = H3) I3 ⟨1, rfl, -1, rfl, rfl, rfl⟩) fun vs s4 ⟨o, H4, I4, ps, eo, e4⟩ => ?_
  subst eo e4
  cases pl
  cases pu
  have I5 : Inv X pins σ H4 { s4 with heap := s4.heap.push { cls := .type "slice", data := .fields #[.none, .none, vs] } } := I4.kept (t' := s4.toks) fun b ob z => Heap.get?_push_of_some _ z
  obtain ⟨its, r, ht, hz⟩ := I5.tuple hx
  have hlen := r.length
  show wpAny (model X.prog X.w) X.A (subscriptTail e (.Slice none none (some (.UnaryOp .USub (.Constant (.int 1) k p1) p2)) p3) (.ref a) (.ref s4.heap.objs.size)) (EP X pins σ Q) X.xe { s4 with heap := s4.heap.push { cls := .type "slice", data := .fields #[.none, .none, vs] } }
  refine tail_any (ops := [.ref a, .ref s4.heap.objs.size]) ht.typeIs (PyProof.Rows.slot_tuple_getitem.lookup) ?_ (by with_unfolding_all rfl)
  refine getItem_tuple_rev ht (Heap.IsSliceOf.new _ .none .none vs) ps ?_ (by rw [List.size_toArray]; omega)
  exact ⟨.ref _, _, I5.laid (t' := s4.toks) (o := .tup xs.reverse) (fun b ob z => Heap.get?_push_of_some _ z) (Nat.le_refl _) ⟨by rw [List.length_reverse]; exact hz, _, r.reverse, IsTup.new _ _⟩, rfl, q _ (I5.hok.fresh (Nat.le_refl _))⟩
theorem pe_revTK {K : PySem.W.Frag} {e : Expr} {te : TE} {k : Nat} {p1 p2 p3 pos : Pos} (hK : X.K = K) (he : PE X e te) : PE X (.Subscript e (.Slice none none (some (.UnaryOp .USub (.Constant (.int 1) k p1) p2)) p3) pos) (tRevT K te) := hK ▸ pe_revT he
end

/-! ### xs[::k] of a list, k 1 or -1 -/
theorem pick_one (items : Array Value) : slicePick items none none (some 1) = items := by
  have b : sliceBounds none none (some 1) items.size = (0, ((items.size : Nat) : Int), 1) := rfl
  unfold slicePick
  rw [b]
  unfold sliceRange
  dsimp only
  rw [List.filterMap_map]
  have e : (if (1 : Int) > 0 then (if (0 : Int) < (items.size : Int) then (((items.size : Nat) : Int) - 0 + 1 - 1) / 1 else 0) else (if (0 : Int) > (items.size : Int) then ((0 : Int) - ((items.size : Nat) : Int) - 1 - 1) / -1 else 0)).toNat = items.size := by
    rw [if_pos (by decide)]
    split <;> omega
  rw [e]
  have f : ((fun i => items[i]?) ∘ fun m : Nat => ((0 : Int) + 1 * (m : Int)).toNat) = fun m : Nat => items[m]? := by
    funext m
    show items[((0 : Int) + 1 * (m : Int)).toNat]? = _
    congr 1
    omega
  have g : ((List.range items.size).filterMap fun m : Nat => items[m]?) = items.toList := by
    have h : ∀ l : List Value, ((List.range l.length).filterMap fun m : Nat => l[m]?) = l := by
      intro l
      induction l with
      | nil => rfl
      | cons x r ih =>
        rw [List.length_cons, List.range_succ_eq_map, List.filterMap_cons]
        show x :: _ = _
        rw [List.filterMap_map]
        congr 1
    have z := h items.toList
    rw [Array.length_toList] at z
    rw [← z]
    congr 1
    funext m
    rw [Array.getElem?_toList]
  first
    | (rw [f, g])
    | (rw [show ((List.range items.size).filterMap _) = items.toList from g])
def stpV {α : Type} (xs : List α) (k : Int) : List α := if k = 1 then xs else xs.reverse
def tStV (K : PySem.W.Frag) (te ts : TE) : TE := fun σ H Q => te σ H fun x H1 => tPart ts σ H1 fun o H2 => ∃ (a : Addr) (xs : List V) (k : Int), x = .ref a ∧ o = some k ∧ (k = 1 ∨ k = -1) ∧ SqL K H2 a xs ∧ ∀ p, H2 p = none → Q (.ref p) (upd H2 p (.lst (stpV xs k)))
section
variable {X : Cx}
theorem pe_stV {e es : Expr} {te ts : TE} {p3 pos : Pos} (he : PE X e te) (hs : PE X es ts) : PE X (.Subscript e (.Slice none none (some es) p3) pos) (tStV X.K te ts) := by
  refine ⟨fun pins s σ H Q I h => ?_⟩
  refine Subscript_ (thn (he.run pins s σ H _ I h) fun v s1 ⟨x, H1, I1, r1, q1⟩ => ?_)
  have hst : PO X (some es) (tPart ts) := po_some hs
  refine wpAny_Slice (thn (po_none.run pins s1 σ H1 (fun o H2 => o = none ∧ H2 = H1) I1 ⟨rfl, rfl⟩) fun vl s2 ⟨l, H2, I2, pl, el, e2⟩ => ?_)
  subst el e2
  refine thn (po_none.run pins s2 σ H2 (fun o H3 => o = none ∧ H3 = H2) I2 ⟨rfl, rfl⟩) fun vu s3 ⟨u, H3, I3, pu, eu, e3⟩ => ?_
  subst eu e3
  refine thn (hst.run pins s3 σ H3 (fun o H4 => ∃ (a : Addr) (xs : List V) (k : Int), x = .ref a ∧ o = some k ∧ (k = 1 ∨ k = -1) ∧ SqL X.K H4 a xs ∧ ∀ p, H4 p = none → Q (.ref p) (upd H4 p (.lst (stpV xs k)))) I3 q1) fun vs s4 ⟨o, H4, I4, ps, a, xs, k, ex, eo, hk, hx, q⟩ => ?_
  subst ex eo
  cases r1
  have I5 : Inv X pins σ H4 { s4 with heap := s4.heap.push { cls := .type "slice", data := .fields #[vl, vu, vs] } } := I4.kept (t' := s4.toks) fun b ob q => Heap.get?_push_of_some _ q
  obtain ⟨its, r, ht, hz⟩ := I5.list hx
  have hlen := r.length
  show wpAny (model X.prog X.w) X.A (subscriptTail e (.Slice none none (some es) p3) (.ref a) (.ref s4.heap.objs.size)) (EP X pins σ Q) X.xe { s4 with heap := s4.heap.push { cls := .type "slice", data := .fields #[vl, vu, vs] } }
  refine tail_any (ops := [.ref a, .ref s4.heap.objs.size]) ht.isList.typeIs (PySem.slot_list_getitem.lookup) ?_ (by with_unfolding_all rfl)
  refine wpAny_getItem_list_slice ht.isList (Heap.IsSliceOf.new _ vl vu vs) pl pu ps (by rcases hk with rfl | rfl <;> decide) ?_ (by rw [List.size_toArray]; omega)
  rcases hk with rfl | rfl
  · rw [pick_one]
    refine ⟨.ref _, _, I5.laid (t' := s4.toks) (o := .lst (stpV xs 1)) (fun b ob q => Heap.get?_push_of_some _ q) (Nat.le_refl _) ?_, rfl, q _ (I5.hok.fresh (Nat.le_refl _))⟩
    exact ⟨hz, _, 0, r, Heap.get?_push_size _ rfl⟩
  · rw [PySem.W.krv_pick]
    refine ⟨.ref _, _, I5.laid (t' := s4.toks) (o := .lst xs.reverse) (fun b ob q => Heap.get?_push_of_some _ q) (Nat.le_refl _) ?_, rfl, q _ (I5.hok.fresh (Nat.le_refl _))⟩
    exact ⟨by rw [List.length_reverse]; exact hz, _, 0, r.reverse, Heap.get?_push_size _ rfl⟩
theorem pe_stVK {K : PySem.W.Frag} {e es : Expr} {te ts : TE} {p3 pos : Pos} (hK : X.K = K) (he : PE X e te) (hs : PE X es ts) : PE X (.Subscript e (.Slice none none (some es) p3) pos) (tStV K te ts) := hK ▸ pe_stV he hs
end

/-! ### clauses that the law draws and bends -/
theorem erase_map : ∀ (l : List Int) (k : Nat), (l.map V.int).eraseIdx k = (l.eraseIdx k).map V.int
  | [], _ => rfl
  | x :: r, 0 => rfl
  | x :: r, k + 1 => by
    show V.int x :: (r.map V.int).eraseIdx k = V.int x :: (r.eraseIdx k).map V.int
    rw [erase_map r k]
def Cl (H : Hp) (ms : List Int) (B : Nat) (v : V) : Prop := ∃ (q : Addr) (c : List Int), v = .ref q ∧ H q = some (.tup (c.map V.int)) ∧ (∀ m ∈ c, m ∈ ms ∨ -m ∈ ms) ∧ c.length ≤ B
theorem Cl.kt {H H' : Hp} {ms : List Int} {B : Nat} {v : V} (s : KT H H') (h : Cl H ms B v) : Cl H' ms B v := by
  obtain ⟨q, c, e, hq, a, b⟩ := h
  exact ⟨q, c, e, s _ _ hq, a, b⟩
theorem Cl.up {H : Hp} {ms : List Int} {B B' : Nat} {v : V} (h : Cl H ms B v) (l : B ≤ B') : Cl H ms B' v := by
  obtain ⟨q, c, e, hq, a, b⟩ := h
  exact ⟨q, c, e, hq, a, by omega⟩
def ClA (H : Hp) (ms : List Int) (B : Nat) (vs : List V) : Prop := ∀ v ∈ vs, Cl H ms B v
theorem ClA.kt {H H' : Hp} {ms : List Int} {B : Nat} {vs : List V} (s : KT H H') (h : ClA H ms B vs) : ClA H' ms B vs := fun v hv => (h v hv).kt s
theorem ClA.up {H : Hp} {ms : List Int} {B B' : Nat} {vs : List V} (h : ClA H ms B vs) (l : B ≤ B') : ClA H ms B' vs := fun v hv => (h v hv).up l
theorem ClA.app {H : Hp} {ms : List Int} {B : Nat} {vs ws : List V} (a : ClA H ms B vs) (b : ClA H ms B ws) : ClA H ms B (vs ++ ws) := fun v hv => (List.mem_append.mp hv).elim (a v) (b v)
theorem ClA.one {H : Hp} {ms : List Int} {B : Nat} {v : V} (a : Cl H ms B v) : ClA H ms B [v] := fun x hx => by
  rw [List.mem_singleton.mp hx]
  exact a
theorem ClA.nil {H : Hp} {ms : List Int} {B : Nat} : ClA H ms B [] := fun x hx => by cases hx
theorem ClA.cs {H : Hp} {ms : List Int} {B : Nat} {b : Addr} : ∀ {vs : List V}, ClA H ms B vs → H b = some (.lst vs) → ∃ qs cs, Cs H b qs cs ∧ InL ms cs ∧ (∀ c ∈ cs, c.length ≤ B) ∧ vs = qs.map V.ref := by
  intro vs h hb
  have key : ∀ ws : List V, ClA H ms B ws → ∃ (qs : List Addr) (cs : List (List Int)), ws = qs.map V.ref ∧ qs.length = cs.length ∧ (∀ (i : Nat) q c, qs[i]? = some q → cs[i]? = some c → H q = some (.tup (c.map V.int))) ∧ InL ms cs ∧ ∀ c ∈ cs, c.length ≤ B := by
    intro ws
    induction ws with
    | nil => exact fun _ => ⟨[], [], rfl, rfl, fun i q c hq => (by simp at hq), fun c hc => (by cases hc), fun c hc => (by cases hc)⟩
    | cons w ws ih =>
      intro h
      obtain ⟨qs, cs, rfl, n, t, i, l⟩ := ih fun v hv => h v (List.mem_cons_of_mem _ hv)
      obtain ⟨q, c, rfl, hq, a, b⟩ := h w List.mem_cons_self
      refine ⟨q :: qs, c :: cs, rfl, by rw [List.length_cons, List.length_cons, n], fun i q' c' hq' hc' => ?_, fun c' hc' => ?_, fun c' hc' => ?_⟩
      · cases i with
        | zero =>
          cases hq'
          cases hc'
          exact hq
        | succ i => exact t i q' c' hq' hc'
      · rcases List.mem_cons.mp hc' with e | e
        · rw [e]
          exact a
        · exact i c' e
      · rcases List.mem_cons.mp hc' with e | e
        · rw [e]
          exact b
        · exact l c' e
  obtain ⟨qs, cs, rfl, n, t, i, l⟩ := key vs h
  exact ⟨qs, cs, ⟨hb, n, t⟩, i, l, rfl⟩
def LC (H : Hp) (ms : List Int) (B k : Nat) (F : Addr) : Prop := ∃ vs, H F = some (.lst vs) ∧ vs.length = k ∧ ∀ v ∈ vs, ∃ (l : Addr) (ws : List V), v = .ref l ∧ H l = some (.lst ws) ∧ ws.length ≤ 2 ∧ ClA H ms B ws
def zV : V → V
  | .int m => .int (0 - m)
  | v => v
def iAbs (m : Int) : Int := if m < 0 then -m else m
def uHere (ms : List Int) (B : Nat) : TE := fun σ H Q => ∃ (b : Addr) (vs : List V) (i : Nat), σ[2]? = some (some (.ref b)) ∧ σ[4]? = some (some (.int (i : Int))) ∧ H b = some (.lst vs) ∧ ClA H ms B vs ∧ ∀ H' v, Same H H' → Cl H' ms B v → Q v H'
theorem pe_wk {X : Cx} {e : Expr} {t : TE} (u : TE) (h : PE X e t) (hw : ∀ σ H R, u σ H R → t σ H R) : PE X e u := ⟨fun pins s σ H Q I hq => h.run pins s σ H Q I (hw σ H Q hq)⟩
def spDrawn : Sp := fun vs H Q _ => ∃ (t c a : Addr) (ms : List Int) (n : Nat), vs = [.ref t, .ref a] ∧ Tape H t c n ∧ n < 1000000 ∧ H a = some (.lst (ms.map V.int)) ∧ ms.length ≤ 12 ∧
  ∀ (H' : Hp) (D : Addr) (ws : List V), Tape H' t c (n + 130) → Kp t H H' → H' D = some (.lst ws) → ws.length ≤ 12 → ClA H' ms 12 ws → Q (.ref D) H'
def spBent : Sp := fun vs H Q _ => ∃ (t c a b : Addr) (ms : List Int) (B n : Nat) (vs' : List V), vs = [.ref t, .ref a, .ref b] ∧ Tape H t c n ∧ n < 1000000 ∧ H a = some (.lst (ms.map V.int)) ∧ 1 ≤ ms.length ∧ ms.length ≤ 12 ∧ B ≤ 1000 ∧ H b = some (.lst vs') ∧ vs'.length ≤ 100000 ∧ ClA H ms B vs' ∧
  ∀ (H' : Hp) (D : Addr) (ws : List V), Tape H' t c (n + 5) → Kp t H H' → H' D = some (.lst ws) → ws.length ≤ vs'.length + 2 → ClA H' ms (B + 1) ws → Q (.ref D) H'
section
variable {P : Program} {w : World} {K : PySem.W.Frag} {mg : Str → Option Value} {base : Heap}
theorem has_drawn (T : Top K mg) (h__law_draw : Has P w K mg base 1 "_law_draw" ["_law_tape", "_law_many"] spDraw) (h__law_pick : Has P w K mg base 2 "_law_pick" ["_law_tape", "_law_some"] (spPick K)) :
    Has P w K mg base 3 "_law_drawn" ["_law_tape", "_law_marks_here"] spDrawn := by
  refine has_of T.d__law_drawn sc__law_drawn bd__law_drawn (fun vs H Q E h => ?_) (fun f cdv A outer s H vs Q E hr h => ?_)
  · obtain ⟨t, c, a, ms, n, rfl, _⟩ := h
    rfl
  · have hu := hu_of hr
    have nd := sc__law_drawn.nd
    obtain ⟨t, c, a, ms, n, rfl, tp, lim, ha, few, k⟩ := h
    refine ⟨_, (pss_cons (ps_set (i := 2) nd rfl (.inl rfl) (pe_lst pa_nil))
    (pss_cons (ps_for PassesOwn.never rfl (pi_range1 (by rfl) T.b_range (pa_cons (pe_has h__law_draw (hr.mono (by omega)) (by rfl) (pa_cons (pv 0) (pa_cons pe_int pa_nil))) pa_nil)) (pg_name (i := 3) nd rfl (.inl rfl))
      (pss_cons (ps_par (i := 4) (j := 5) (by rfl) nd rfl rfl (by decide) rfl rfl (pa_cons (pe_callTy call_list_of (by rfl) T.b_list (by decide +kernel) (pa_cons (pv 1) pa_nil)) (pa_cons (pe_lst pa_nil) pa_nil)) (by rfl))
    (pss_cons (ps_for PassesOwn.never rfl (pi_range1 (by rfl) T.b_range (pa_cons (pe_callB (call_min2 rfl) (by rfl) T.b_min (by decide +kernel) (pa_cons (pe_callB call_len_seq (by rfl) T.b_len (by decide +kernel) (pa_cons (pv 1) pa_nil)) (pa_cons (pe_has h__law_draw (hr.mono (by omega)) (by rfl) (pa_cons (pv 0) (pa_cons pe_int pa_nil))) pa_nil))) pa_nil)) (pg_name (i := 6) nd rfl (.inl rfl))
      (pss_one (ps_expr (pe_bm PySem.F.plainAttrs_list PySem.F.slot_list_append PySem.F.type_list_append mt_append (pv 5) (pa_cons (pe_op op_mul (pe_bm PySem.F.plainAttrs_list PySem.F.slot_list_pop PySem.F.type_list_pop mt_popAt (pv 4) (pa_cons (pe_has h__law_draw (hr.mono (by omega)) (by rfl) (pa_cons (pv 0) (pa_cons (pe_callB call_len_seq (by rfl) T.b_len (by decide +kernel) (pa_cons (pv 4) pa_nil)) pa_nil))) pa_nil)) (pe_has h__law_pick (hr.mono (by omega)) (by rfl) (pa_cons (pv 0) (pa_cons (pe_lst (pa_cons (pe_un un_neg pe_int) (pa_cons (pe_un un_neg pe_int) (pa_cons (pe_un un_neg pe_int) (pa_cons pe_int pa_nil))))) pa_nil)))) pa_nil)))))
    (pss_one (ps_expr (pe_bm PySem.F.plainAttrs_list PySem.F.slot_list_append PySem.F.type_list_append mt_append (pv 2) (pa_cons (pe_callTy call_tuple_of (by rfl) T.b_tuple (by decide +kernel) (pa_cons (pv 5) pa_nil)) pa_nil)))))))
    (pss_one (ps_ret (pv 2))))), ?_⟩
    have line : (200000 : Nat) < sizeLine := by decide
    refine ⟨by show 0 ≤ sizeLine; decide, fun F nF => ⟨_, rfl, t, c, 13, n, rfl, tp.new nF, by omega, by decide, pow8000 (by decide), fun H1 r1 a1 b1 tp1 kp1 => ?_⟩⟩
    have hF1 := (tp.new nF).sq upd_same kp1
    have nFt := tp.fresh nF
    have nFc := tp.fresh_c nF
    have k01 : Kp t H H1 := (Kp.new nF).trans kp1
    refine ⟨r1, rfl, by omega, by omega, for_range (lo := 0) (fun i σ H' => ∃ v3 v4 v5 v6 vs, σ = [some (.ref t), some (.ref a), some (.ref F), v3, v4, v5, v6] ∧ Kp t H H' ∧ Tape H' t c (n + 1 + 9 * i) ∧ H' F = some (.lst vs) ∧ vs.length = i ∧ ClA H' ms 12 vs) ⟨none, none, none, none, [], rfl, k01, tp1.le (by omega), hF1, rfl, ClA.nil⟩ ?_ ?_⟩
    · rintro i σ H2 hi ⟨v3, v4, v5, v6, vs, rfl, k2, t2, hF2, lv, cl⟩
      have hi2 : i < r1.toNat := hi
      have ha2 := tp.sq ha k2
      refine ⟨_, rfl, a, _, rfl, .inl (SqL.of ha2), fun S hS => ⟨by show 0 ≤ sizeLine; decide, fun C hC => ⟨_, _, rfl, ?_⟩⟩⟩
      have nSC : S ≠ C := fun e => by
        rw [← e, upd_same] at hC
        cases hC
      have hC2 : H2 C = none := by
        rw [← hC, upd_ne nSC.symm]
      have t3 := (t2.new (o := .lst (ms.map V.int)) hS).new (o := .lst []) hC
      have k3 : Kp t H2 (upd (upd H2 S (.lst (ms.map V.int))) C (.lst [])) := (Kp.new hS).trans (Kp.new hC)
      have nSt : S ≠ t := t2.fresh hS
      have nSc : S ≠ c := t2.fresh_c hS
      have nCt : C ≠ t := t2.fresh hC2
      have nCc : C ≠ c := t2.fresh_c hC2
      have h3S : (upd (upd H2 S (.lst (ms.map V.int))) C (.lst [])) S = some (.lst (ms.map V.int)) := by
        rw [upd_ne nSC, upd_same]
      have h3C : (upd (upd H2 S (.lst (ms.map V.int))) C (.lst [])) C = some (.lst (([] : List Int).map V.int)) := upd_same
      generalize upd (upd H2 S (.lst (ms.map V.int))) C (.lst []) = H3 at t3 k3 h3S h3C
      have ha3 := t2.sq ha2 k3
      refine ⟨_, rfl, a, _, rfl, .inl (SqL.of ha3), _, rfl, t, c, 5, _, rfl, t3, by omega, by decide, pow8000 (by decide), fun H4 r4 a4 b4 tp4 kp4 => ?_⟩
      rw [List.length_map]
      refine ⟨_, _, rfl, _, rfl, by split <;> omega, by split <;> omega, for_range (lo := 0) (fun j σ H' => ∃ v6 ss ys, σ = [some (.ref t), some (.ref a), some (.ref F), some (.int (0 + i)), some (.ref S), some (.ref C), v6] ∧ Kp t H2 H' ∧ Tape H' t c (n + 2 + 9 * i + 2 * j) ∧
        H' S = some (.lst ((ss : List Int).map V.int)) ∧ ss.length + j = ms.length ∧ (∀ x ∈ ss, x ∈ ms) ∧ H' C = some (.lst ((ys : List Int).map V.int)) ∧ ys.length = j ∧ ∀ y ∈ ys, y ∈ ms ∨ -y ∈ ms) ⟨v6, ms, [], rfl, k3.trans kp4, tp4.le (by omega), t3.sq h3S kp4, by omega, fun x hx => hx, t3.sq h3C kp4, rfl, fun y hy => by cases hy⟩ ?_ ?_⟩
      · rintro j σ H5 hj ⟨w6, ss, ys, rfl, k5, t5, h5S, l5, i5, h5C, m5, y5⟩
        have hj2 : j < ms.length ∧ j < 5 := by
          split at hj <;> omega
        have ps : 0 < ss.length := by omega
        refine ⟨_, rfl, .inl ⟨rfl, _, SqL.of h5C⟩, _, rfl, .inl ⟨rfl, _, SqL.of h5S⟩, _, rfl, _, rfl, S, _, rfl, .inl (SqL.of h5S), t, c, _, _, rfl, t5, by omega, by rw [List.length_map]; omega, pow8000 (by rw [List.length_map]; omega), fun H6 r6 a6 b6 tp6 kp6 => ?_⟩
        rw [List.length_map] at b6
        have l6 : r6.toNat < ss.length := by omega
        refine ⟨S, _, r6, r6.toNat, .int ss[r6.toNat], rfl, rfl, t5.sq h5S kp6, by omega, by omega, seq_in a6 (by rw [List.length_map]; exact b6), by rw [List.getElem?_map, List.getElem?_eq_getElem l6]; rfl, ?_⟩
        rw [erase_map]
        have imk := i5 _ (List.getElem_mem l6)
        generalize ss[r6.toNat] = mk at imk
        have h6C := t5.sq h5C kp6
        have k6 := (k5.trans kp6).mut (o := .lst ((ss.eraseIdx r6.toNat).map V.int)) hS
        have t6 := tp6.mut (o := .lst ((ss.eraseIdx r6.toNat).map V.int)) nSt nSc
        have h6S : (upd H6 S (.lst ((ss.eraseIdx r6.toNat).map V.int))) S = some (.lst ((ss.eraseIdx r6.toNat).map V.int)) := upd_same
        have h6C : (upd H6 S (.lst ((ss.eraseIdx r6.toNat).map V.int))) C = some (.lst (ys.map V.int)) := by
          rw [upd_ne nSC.symm]
          exact h6C
        generalize upd H6 S (.lst ((ss.eraseIdx r6.toNat).map V.int)) = H7 at k6 t6 h6S h6C
        refine ⟨_, rfl, _, rfl, _, rfl, _, rfl, by show 4 ≤ sizeLine; decide, fun e8 g8 => ?_⟩
        refine ⟨t, c, e8, _, _, rfl, t6.new g8, by omega, fun H' kp => .inl (SqL.of (kp e8 _ upd_same (t6.fresh g8))), by show 0 < 4; decide, by show 4 ≤ 1000000; decide, fun H8 i8 v8' g8' tp8 kp8 => ?_⟩
        have k78 : Kp t H7 H8 := (Kp.new g8).trans kp8
        obtain ⟨y8, rfl, m8⟩ := pick_int (zs := [-1, -1, -1, 1]) g8'
        have y8b : y8 = -1 ∨ y8 = 1 := by
          simp only [List.mem_cons, List.not_mem_nil, or_false] at m8
          omega
        have h8C := t6.sq h6C k78
        refine ⟨_, _, rfl, rfl, .inr (by omega), C, _, _, rfl, rfl, h8C, by rw [List.length_map]; omega, _, ss.eraseIdx r6.toNat, ys ++ [mk * y8], rfl, (k6.trans k78).mut hC2, (tp8.mut nCt nCc).le (by omega), ?_, ?_, fun x hx => i5 x (List.mem_of_mem_eraseIdx hx), ?_, ?_, fun y hy => ?_⟩
        · rw [upd_ne nSC]
          exact t6.sq h6S k78
        · rw [List.length_eraseIdx, if_pos l6]
          omega
        · rw [upd_same, List.map_append]
          rfl
        · rw [List.length_append, m5]
          rfl
        · rcases List.mem_append.mp hy with z | z
          · exact y5 y z
          · rw [List.mem_singleton.mp z]
            rcases y8b with e | e
            · exact .inr (by rw [e, show -(mk * -1) = mk by omega]; exact imk)
            · exact .inl (by rw [e, Int.mul_one]; exact imk)
      · rintro σ H5 ⟨w6, ss, ys, rfl, k5, t5, h5S, l5, i5, h5C, m5, y5⟩
        have m6 : ys.length ≤ 12 ∧ ys.length ≤ 4 := by
          rw [m5]
          split <;> omega
        have hF5 := t2.sq hF2 k5
        refine ⟨_, rfl, .inl ⟨rfl, _, SqL.of hF5⟩, _, rfl, C, _, rfl, .inl ⟨SqL.of h5C, fun q nq => ?_⟩⟩
        have hF6 := same_new nq (o := .tup (ys.map V.int)) _ _ hF5
        refine ⟨F, _, _, rfl, rfl, hF6, by omega, _, _, _, _, vs ++ [.ref q], rfl, ((k2.trans k5).trans (Kp.new nq)).mut nF, (((t5.new nq).mut nFt nFc).le (by split <;> omega)), upd_same, by rw [List.length_append, lv]; rfl, ?_⟩
        have ktl := KT.lst (o := .lst (vs ++ [.ref q])) hF6
        refine ClA.app ((cl.kt (KT.kp t2 k5)).kt ((KT.new nq).trans ktl)) (ClA.one ⟨q, ys, rfl, ktl _ _ upd_same, y5, m6.1⟩)
    · rintro σ H2 ⟨v3, v4, v5, v6, vs, rfl, k2, t2, hF2, lv, cl⟩
      exact ⟨_, rfl, k _ _ _ (t2.le (by omega)) k2 hF2 (by omega) cl⟩
theorem has_bent (T : Top K mg) (h__law_draw : Has P w K mg base 1 "_law_draw" ["_law_tape", "_law_many"] spDraw) (h__law_pick : Has P w K mg base 2 "_law_pick" ["_law_tape", "_law_some"] (spPick K)) :
    Has P w K mg base 3 "_law_bent" ["_law_tape", "_law_marks_here", "_law_clauses"] spBent := by
  refine has_of T.d__law_bent sc__law_bent bd__law_bent (fun vs H Q E h => ?_) (fun f cdv A outer s H vs Q E hr h => ?_)
  · obtain ⟨t, c, a, b, ms, B, n, vs', rfl, _⟩ := h
    rfl
  · have hu := hu_of hr
    have nd := sc__law_bent.nd
    obtain ⟨t, c, a, b, ms, B, n, vs, rfl, tp, lim, ha, few1, few, hB, hb, lv, cl, k⟩ := h
    refine ⟨_, (pss_cons (ps_par (i := 3) (j := 4) (by rfl) nd rfl rfl (by decide) rfl rfl (pa_cons (pe_has h__law_draw (hr.mono (by omega)) (by rfl) (pa_cons (pv 0) (pa_cons pe_int pa_nil))) (pa_cons (pe_has h__law_draw (hr.mono (by omega)) (by rfl) (pa_cons (pv 0) (pa_cons (pe_callB (call_max2 rfl) (by rfl) T.b_max (by decide +kernel) (pa_cons pe_int (pa_cons (pe_callB call_len_seq (by rfl) T.b_len (by decide +kernel) (pa_cons (pv 2) pa_nil)) pa_nil))) pa_nil))) pa_nil)) (by rfl))
    (C8.pss_cut (ps_asg (pe_tup (pa_cons (pe_wk (uHere ms B) (pe_ix ix_list (pe_orT (pe_slice sl_list (pv 2) (po_some (pv 4)) (po_some (pe_op op_add (pv 4) pe_int))) (pe_one (pe_lst (pa_cons (pe_tup pa_nil) pa_nil)))) pe_int (fun _ _ => rfl)) ?here) (pa_cons (pe_op op_mul (pe_has h__law_pick (hr.mono (by omega)) (by rfl) (pa_cons (pv 0) (pa_cons (pv 1) pa_nil))) (pe_has h__law_pick (hr.mono (by omega)) (by rfl) (pa_cons (pv 0) (pa_cons (pe_lst (pa_cons pe_int (pa_cons (pe_un un_neg pe_int) pa_nil))) pa_nil)))) pa_nil))) (pg_tup (by rfl) (pgs_cons (pg_name (i := 5) nd rfl (.inl rfl)) (pgs_cons (pg_name (i := 6) nd rfl (.inr rfl)) pgs_nil))))
    (pss_cons (ps_set (i := 7) nd rfl (.inl rfl) (pe_has h__law_draw (hr.mono (by omega)) (by rfl) (pa_cons (pv 0) (pa_cons (pe_callB (call_max2 rfl) (by rfl) T.b_max (by decide +kernel) (pa_cons pe_int (pa_cons (pe_callB call_len_seq (by rfl) T.b_len (by decide +kernel) (pa_cons (pv 5) pa_nil)) pa_nil))) pa_nil))))
    (pss_cons (ps_set (i := 8) nd rfl (.inl rfl) (pe_callTy call_tuple_of (by rfl) T.b_tuple (by decide +kernel) (pa_cons (pe_lc (own := [("_law_one", 10)]) (by rfl) nd (pi_tup (pv 5)) (blkOk_by (own := [("_law_one", 10)]) (N := nm__law_bent) (sc := defScope s__law_bent) (by decide +kernel)) (fun _ _ _ _ _ => pg_name (i := 10) nd rfl (.inl rfl)) (fun _ _ _ _ _ => pts_one (pt_cmpR op_ne (pe_callB call_abs (by rfl) T.b_abs (by decide +kernel) (pa_cons (pv 10) pa_nil)) (pe_callB call_abs (by rfl) T.b_abs (by decide +kernel) (pa_cons (pv 6) pa_nil)) (nomark _))) (fun _ _ _ _ _ => (pv 10))) pa_nil)))
    (C8.pss_cut (ps_set (i := 9) nd rfl (.inl rfl) (pe_lst (pa_cons (pe_lst pa_nil) (pa_cons (pe_lst (pa_cons (pv 5) (pa_cons (pv 5) pa_nil))) (pa_cons (pe_lst (pa_cons (pe_op op_catA (pe_slice sl_tupA (pv 5) po_none (po_some (pv 7))) (pe_slice sl_tupA (pv 5) (po_some (pe_op op_add (pv 7) pe_int)) po_none)) pa_nil)) (pa_cons (pe_lst (pa_cons (pe_op op_catA (pe_slice sl_tupA (pv 5) po_none (po_some (pv 7))) (pe_callTy call_tuple_of (by rfl) T.b_tuple (by decide +kernel) (pa_cons (pe_lc (own := [("_law_one", 10)]) (by rfl) nd (pi_tup (pe_slice sl_tupA (pv 5) (po_some (pv 7)) po_none)) (blkOk_by (own := [("_law_one", 10)]) (N := nm__law_bent) (sc := defScope s__law_bent) (by decide +kernel)) (fun _ _ _ _ _ => pg_name (i := 10) nd rfl (.inl rfl)) (fun _ _ _ _ _ => pts_nil) (fun _ _ _ _ _ => (pe_op op_sub pe_int (pv 10)))) pa_nil))) pa_nil)) pa_nil))))))
    (C8.pss_cut (ps_set (i := 9) nd rfl (.inl rfl) (pe_op op_cat (pv 9) (pe_lst (pa_cons (pe_lst (pa_cons (pe_op op_catA (pv 8) (pe_tup (pa_cons (pv 6) pa_nil))) pa_nil)) (pa_cons (pe_lst (pa_cons (pe_op op_catA (pv 8) (pe_tup (pa_cons (pv 6) pa_nil))) (pa_cons (pv 5) pa_nil))) (pa_cons (pe_lst (pa_cons (pe_revT (pv 5)) pa_nil)) (pa_cons (pe_lst (pa_cons (pv 5) (pa_cons (pe_tup (pa_cons (pv 6) pa_nil)) pa_nil))) pa_nil)))))))
    (pss_one (ps_ret (pe_op op_cat (pe_op op_cat (pe_slice sl_list (pv 2) po_none (po_some (pv 4))) (pe_ix ix_list (pv 9) (pv 3) (fun _ _ => rfl))) (pe_slice sl_list (pv 2) (po_some (pe_op op_add (pv 4) pe_int)) po_none)))))))))), ?_⟩
    case here =>
      rintro σ H R ⟨b, vs, i, e1, e2, hb, cl, r⟩
      refine ⟨_, e1, _, e2, (i : Int), rfl, _, e2, _, _, rfl, rfl, _, rfl, b, vs, rfl, SqL.of hb, fun q nq => ?_⟩
      have ec : cutV vs (some (i : Int)) (some ((i : Int) + 1)) = (vs.drop i).take 1 := by rw [show (i : Int) + 1 = ((i + 1 : Nat) : Int) from rfl, cut_ij, show i + 1 - i = 1 by omega]
      rw [ec]
      cases hd : vs.drop i with
      | nil =>
        refine ⟨false, .inl ⟨_, SqL.of upd_same, rfl⟩, iteF ⟨by show 0 ≤ sizeLine; decide, fun p0 n0 => ⟨by show 1 ≤ sizeLine; decide, fun p1 n1 => ⟨p1, _, _, .ref p0, rfl, rfl, SqL.of upd_same, at_of (j := 0) rfl rfl, ?_⟩⟩⟩⟩
        refine r _ _ (((same_new nq).trans (same_new n0)).trans (same_new n1)) ⟨p0, [], rfl, same_new n1 _ _ upd_same, fun m hm => (by cases hm), Nat.zero_le _⟩
      | cons v rest =>
        refine ⟨true, .inl ⟨_, SqL.of upd_same, rfl⟩, iteT ⟨q, _, _, v, rfl, rfl, SqL.of upd_same, at_of (j := 0) rfl rfl, ?_⟩⟩
        refine r _ _ (same_new nq) ((cl v ?_).kt (KT.new nq))
        exact List.mem_of_mem_drop (by rw [hd]; exact List.mem_cons_self)
    have line : (200000 : Nat) < sizeLine := by decide
    obtain ⟨m, em, m0, mb, mv⟩ : ∃ m : Int, (if ((vs.length : Nat) : Int) > 1 then ((vs.length : Nat) : Int) else 1) = m ∧ 0 < m ∧ m ≤ 100000 ∧ m ≤ vs.length + 1 := ⟨_, rfl, by split <;> omega, by split <;> omega, by split <;> omega⟩
    refine ⟨_, rfl, t, c, 8, n, rfl, tp, by omega, by decide, pow8000 (by decide), fun H1 r1 a1 b1 tp1 kp1 => ?_⟩
    have hb1 := tp.sq hb kp1
    refine ⟨_, rfl, _, rfl, b, _, rfl, .inl (SqL.of hb1), _, _, rfl, t, c, m, n + 1, congrArg (fun z => [V.ref t, V.int z]) em, tp1, by omega, m0, pow8000 (by omega), fun H2 r2 a2 b2 tp2 kp2 => ⟨_, _, rfl, ?_⟩⟩
    obtain ⟨i, rfl⟩ : ∃ i : Nat, r2 = (i : Int) := ⟨r2.toNat, by omega⟩
    have k2 := kp1.trans kp2
    have ha2 := tp.sq ha k2
    have hb2 := tp.sq hb k2
    have cl2 := cl.kt (KT.kp tp k2)
    -- the clause and the mark
    refine ⟨fun σ' H' => ∃ (q : Addr) (mk : Int), σ' = [some (.ref t), some (.ref a), some (.ref b), some (.int r1), some (.int (i : Int)), some (.ref q), some (.int mk), none, none, none, none] ∧ Tape H' t c (n + 4) ∧ Kp t H H' ∧ Cl H' ms B (.ref q) ∧ (mk ∈ ms ∨ -mk ∈ ms), ?_, ?_⟩
    · refine ⟨b, vs, i, rfl, rfl, hb2, cl2, fun H3 v s3 clv => ?_⟩
      obtain ⟨q, c', rfl, hq, ic, lc⟩ := clv
      have tp3 := tp2.same s3
      refine ⟨_, rfl, _, rfl, t, c, a, _, _, rfl, tp3, by omega, fun H' kp => .inl (SqL.of (tp3.sq (s3 _ _ ha2) kp)), by rw [List.length_map]; omega, by rw [List.length_map]; omega, fun H4 i4 v4 g4 tp4 kp4 => ?_⟩
      obtain ⟨m4, rfl, hm4⟩ := pick_int g4
      refine ⟨_, rfl, _, rfl, by show 2 ≤ sizeLine; decide, fun L nL => ⟨t, c, L, _, _, rfl, tp4.new nL, by omega, fun H' kp => .inl (SqL.of (kp L _ upd_same (tp4.fresh nL))), by show 0 < 2; decide, by show 2 ≤ 1000000; decide, fun H5 i5 v5 g5 tp5 kp5 => ?_⟩⟩
      obtain ⟨y5, rfl, m5⟩ := pick_int (zs := [1, -1]) g5
      have y5b : y5 = -1 ∨ y5 = 1 := by
        simp only [List.mem_cons, List.not_mem_nil, or_false] at m5
        omega
      refine ⟨_, _, rfl, rfl, .inr (by omega), by show 2 ≤ sizeLine; decide, fun p np => ⟨p, _, rfl, SqT.of upd_same, rfl, _, _, rfl, _, _, rfl, rfl, ?_⟩⟩
      have kt45 := (KT.kp tp3 kp4).trans ((KT.new nL).trans ((KT.kp (tp4.new nL) kp5).trans (KT.new (o := .tup [V.ref q, .int (m4 * y5)]) np)))
      refine ⟨q, m4 * y5, rfl, (tp5.new np).le (by omega), (k2.trans (Kp.same s3)).trans (kp4.trans ((Kp.new nL).trans (kp5.trans (Kp.new np)))), ⟨q, c', rfl, kt45 _ _ hq, ic, lc⟩, ?_⟩
      rcases y5b with e | e
      · exact .inr (by rw [e, show -(m4 * -1) = m4 by omega]; exact hm4)
      · exact .inl (by rw [e, Int.mul_one]; exact hm4)
    rintro σ H3 ⟨q, mk, rfl, tp3, k3, ⟨q', c', eq', hq, ic, lc⟩, hmk⟩
    cases eq'
    obtain ⟨m2, em2, m20, m2b⟩ : ∃ m : Int, (if ((c'.length : Nat) : Int) > 1 then ((c'.length : Nat) : Int) else 1) = m ∧ 0 < m ∧ m ≤ 100000 := ⟨_, rfl, by split <;> omega, by split <;> omega⟩
    refine ⟨_, rfl, _, rfl, q, _, rfl, .inr (SqT.of hq), _, _, rfl, t, c, m2, n + 4, ?_, tp3, by omega, m20, pow8000 (by omega), fun H4 r4 a4 b4 tp4 kp4 => ?_⟩
    · rw [List.length_map]
      exact congrArg (fun z => [V.ref t, V.int z]) em2
    obtain ⟨pt, rfl⟩ : ∃ pt : Nat, r4 = (pt : Int) := ⟨r4.toNat, by omega⟩
    have k4 := k3.trans kp4
    have hq4 := KT.kp tp3 kp4 _ _ hq
    have hb4 := tp.sq hb k4
    have cl4 := cl.kt (KT.kp tp k4)
    -- without the mark's name
    refine ⟨_, rfl, q, rfl, ⟨_, SqT.of hq4⟩, fun D nD => lc_sel_tup (fun x => match x with | .int m => !decide (V.int (iAbs m) = V.int (iAbs mk)) | _ => false) (fun x => x) (SqT.of hq4) nD (by rw [List.length_map]; omega) (fun x hm => ?_) fun H5 s5 h5 => ⟨D, _, rfl, .inl ⟨SqL.of h5, fun r nr => ?_⟩⟩⟩
    · obtain ⟨m', _, rfl⟩ := List.mem_map.mp hm
      exact ⟨rfl, fun H' s' R g => ⟨_, rfl, m', rfl, _, rfl, mk, rfl, rfl, _, rfl, g H' (Same.refl _)⟩, fun _ H' s' R g => ⟨_, rfl, g H' (Same.refl _)⟩⟩
    have e5 : (((c'.map V.int).filter fun x => match x with | .int m => !decide (V.int (iAbs m) = V.int (iAbs mk)) | _ => false).map fun x => x) = (c'.filter fun m => !decide (V.int (iAbs m) = V.int (iAbs mk))).map V.int := by
      rw [List.map_id', List.filter_map]
      rfl
    rw [e5]
    have ib : ∀ x ∈ c'.filter fun m => !decide (V.int (iAbs m) = V.int (iAbs mk)), x ∈ ms ∨ -x ∈ ms := fun x hx => ic x (List.mem_filter.mp hx).1
    have lb : (c'.filter fun m => !decide (V.int (iAbs m) = V.int (iAbs mk))).length ≤ B := Nat.le_trans (List.length_filter_le _ _) lc
    generalize (c'.filter fun m => !decide (V.int (iAbs m) = V.int (iAbs mk))) = bare at ib lb ⊢
    have s6 := s5.trans (same_new nr (o := .tup (bare.map V.int)))
    have hr6 : (upd H5 r (.tup (bare.map V.int))) r = some (.tup (bare.map V.int)) := upd_same
    have tp6 := tp4.same s6
    have hq6 := s6 _ _ hq4
    have hb6 := s6 _ _ hb4
    have cl6 := cl4.kt (KT.same s6)
    have k6 := k4.trans (Kp.same s6)
    generalize upd H5 r (.tup (bare.map V.int)) = H6 at hr6 tp6 hq6 hb6 cl6 k6 ⊢
    clear em em2 m2b m20 mv mb m0 tp1 tp2 tp3 tp4 s6 s5 nr h5 nD e5 hb1 hb2 hb4 cl2 cl4 ha2 kp1 kp2 k2 k3 kp4 k4
    -- some ways
    refine ⟨fun σ' H' => ∃ (F : Addr), σ' = [some (.ref t), some (.ref a), some (.ref b), some (.int r1), some (.int (i : Int)), some (.ref q), some (.int mk), some (.int (pt : Int)), some (.ref r), some (.ref F), none] ∧ Same H6 H' ∧ LC H' ms (B + 1) 4 F, ?_, ?_⟩
    · refine ⟨by show 0 ≤ sizeLine; decide, fun l0 n0 => ⟨_, rfl, _, rfl, by show 2 ≤ sizeLine; decide, fun l1 n1 => ?_⟩⟩
      have sa := (same_new n0 (o := .lst [])).trans (same_new n1 (o := .lst [V.ref q, .ref q]))
      have h0 := same_new n1 (o := .lst [V.ref q, .ref q]) _ _ (upd_same : (upd H6 l0 (.lst [])) l0 = some (.lst []))
      have h1 : (upd (upd H6 l0 (.lst [])) l1 (.lst [V.ref q, .ref q])) l1 = some (.lst [V.ref q, .ref q]) := upd_same
      generalize upd (upd H6 l0 (.lst [])) l1 (.lst [V.ref q, .ref q]) = Ha at sa h0 h1 ⊢
      refine ⟨_, rfl, _, rfl, (pt : Int), rfl, piece_take rfl (sa _ _ hq6) fun Hb ra sb hra => ⟨_, rfl, _, rfl, _, _, rfl, rfl, ((pt + 1 : Nat) : Int), rfl, piece_dropC (i := pt + 1) rfl (sb _ _ (sa _ _ hq6)) fun Hc rb sc hrb => tup_cat (sc _ _ hra) hrb ?_ fun Hd rc sd hrc => ⟨by show 1 ≤ sizeLine; decide, fun l2 n2 => ?_⟩⟩⟩
      · rw [List.length_take, List.length_drop, List.length_map]
        omega
      have sd2 := sa.trans (sb.trans (sc.trans (sd.trans (same_new n2 (o := .lst [V.ref rc])))))
      have sd1 := sb.trans (sc.trans (sd.trans (same_new n2 (o := .lst [V.ref rc]))))
      have h2 : (upd Hd l2 (.lst [V.ref rc])) l2 = some (.lst [V.ref rc]) := upd_same
      have c2 : Cl (upd Hd l2 (.lst [V.ref rc])) ms B (.ref rc) := by
        refine ⟨rc, c'.take pt ++ c'.drop (pt + 1), rfl, ?_, fun m hm => ?_, ?_⟩
        · rw [List.map_append, List.map_take, List.map_drop]
          exact same_new n2 _ _ hrc
        · rcases List.mem_append.mp hm with z | z
          · exact ic m (List.mem_of_mem_take z)
          · exact ic m (List.mem_of_mem_drop z)
        · rw [List.length_append, List.length_take, List.length_drop]
          omega
      generalize upd Hd l2 (.lst [V.ref rc]) = He at sd1 sd2 h2 c2 ⊢
      clear hra hrb hrc n2 sb sc sd
      refine ⟨_, rfl, _, rfl, (pt : Int), rfl, piece_take rfl (sd2 _ _ hq6) fun Hf rd sf hrd => ⟨_, rfl, _, rfl, (pt : Int), rfl, piece_dropC (i := pt) rfl (sf _ _ (sd2 _ _ hq6)) fun Hg re sg hre => ⟨re, rfl, ⟨_, SqT.of hre⟩, fun D nD => lc_sel_tup (fun _ => true) zV (SqT.of hre) nD ?_ (fun x hm => ?_) fun Hh sh hh => ⟨D, _, rfl, .inl ⟨SqL.of hh, fun rf nf => tup_cat (same_new nf _ _ (sh _ _ (sg _ _ hrd))) upd_same ?_ fun Hi rg si hrg => ⟨by show 1 ≤ sizeLine; decide, fun l3 n3 => ⟨by show 4 ≤ sizeLine; decide, fun F nF => ?_⟩⟩⟩⟩⟩⟩⟩
      · rw [List.length_drop, List.length_map]
        omega
      · have hm := List.mem_of_mem_drop hm
        obtain ⟨m', _, rfl⟩ := List.mem_map.mp hm
        exact ⟨rfl, fun H' s' R g => g H' (Same.refl _), fun _ H' s' R g => ⟨_, rfl, _, _, rfl, rfl, g H' (Same.refl _)⟩⟩
      · rw [List.length_take, List.length_map, filter_all, List.length_map, List.length_drop, List.length_map]
        omega
      have sz := sf.trans (sg.trans (sh.trans ((same_new nf (o := .tup (((c'.map V.int).drop pt |>.filter fun _ => true).map zV))).trans (si.trans ((same_new n3 (o := .lst [V.ref rg])).trans (same_new nF (o := .lst [V.ref l0, .ref l1, .ref l2, .ref l3])))))))
      refine ⟨F, rfl, sd2.trans sz, _, upd_same, rfl, fun v hv => ?_⟩
      simp only [List.mem_cons, List.not_mem_nil, or_false] at hv
      have cq : Cl He ms B (.ref q) := ⟨q, c', rfl, sd2 _ _ hq6, ic, lc⟩
      rcases hv with e | e | e | e
      · exact ⟨l0, [], e, sz _ _ (sd1 _ _ h0), Nat.zero_le _, ClA.nil⟩
      · refine ⟨l1, _, e, sz _ _ (sd1 _ _ h1), Nat.le_refl _, ?_⟩
        exact ClA.up ((ClA.app (ClA.one cq) (ClA.one cq)).kt (KT.same sz)) (by omega)
      · exact ⟨l2, _, e, sz _ _ h2, by show 1 ≤ 2; decide, ClA.up ((ClA.one c2).kt (KT.same sz)) (by omega)⟩
      · refine ⟨l3, _, e, same_new nF _ _ upd_same, by show 1 ≤ 2; decide, ClA.one ⟨rg, c'.take pt ++ (c'.drop pt).map (fun m => 0 - m), rfl, ?_, fun m hm => ?_, ?_⟩⟩
        · have hz := same_new nF (o := .lst [V.ref l0, .ref l1, .ref l2, .ref l3]) _ _ (same_new n3 (o := .lst [V.ref rg]) _ _ hrg)
          rw [hz, List.map_append, List.map_take, filter_all, List.map_map, ← List.map_drop, List.map_map]
          rfl
        · rcases List.mem_append.mp hm with z | z
          · exact ic m (List.mem_of_mem_take z)
          · obtain ⟨m', hm', rfl⟩ := List.mem_map.mp z
            rcases ic m' (List.mem_of_mem_drop hm') with y | y
            · exact .inr (by rw [show -(0 - m') = m' by omega]; exact y)
            · exact .inl (by rw [show 0 - m' = -m' by omega]; exact y)
        · rw [List.length_append, List.length_take, List.length_map, List.length_drop]
          omega
    rintro σ H7 ⟨F, rfl, s7, vs4, hF, l4', c4⟩
    have tp7 := tp6.same s7
    have hq7 := s7 _ _ hq6
    have hr7 := s7 _ _ hr6
    have hb7 := s7 _ _ hb6
    have cl7 := cl6.kt (KT.same s7)
    have k7 := k6.trans (Kp.same s7)
    clear tp6 hq6 hr6 hb6 cl6 k6 s7
    have cB : ∀ {H' : Hp} {r' : Addr}, H' r' = some (.tup (bare.map V.int ++ [V.int mk])) → Cl H' ms (B + 1) (.ref r') := fun {H' r'} hz => by
      refine ⟨r', bare ++ [mk], rfl, by rw [hz, List.map_append]; rfl, fun m hm => ?_, by rw [List.length_append, List.length_singleton]; omega⟩
      rcases List.mem_append.mp hm with z | z
      · exact ib m z
      · rw [List.mem_singleton.mp z]
        exact hmk
    refine ⟨fun σ' H' => ∃ (F : Addr), σ' = [some (.ref t), some (.ref a), some (.ref b), some (.int r1), some (.int (i : Int)), some (.ref q), some (.int mk), some (.int (pt : Int)), some (.ref r), some (.ref F), none] ∧ Same H7 H' ∧ LC H' ms (B + 1) 8 F, ?_, ?_⟩
    · refine ⟨_, rfl, _, rfl, _, rfl, by show 1 ≤ sizeLine; decide, fun p1 m1 => tup_cat (same_new m1 _ _ hr7) upd_same ?_ fun Ha ra sa hra => ⟨by show 1 ≤ sizeLine; decide, fun l4 n4 => ?_⟩⟩
      · rw [List.length_map, List.length_singleton]
        omega
      have s1 := (same_new m1 (o := .tup [V.int mk])).trans (sa.trans (same_new n4 (o := .lst [V.ref ra])))
      have h4 : (upd Ha l4 (.lst [V.ref ra])) l4 = some (.lst [V.ref ra]) := upd_same
      have ca := cB (same_new n4 (o := .lst [V.ref ra]) _ _ hra)
      generalize upd Ha l4 (.lst [V.ref ra]) = Hb at s1 h4 ca ⊢
      refine ⟨_, rfl, _, rfl, by show 1 ≤ sizeLine; decide, fun p2 m2 => tup_cat (same_new m2 _ _ (s1 _ _ hr7)) upd_same ?_ fun Hc rc sc hrc => ⟨_, rfl, by show 2 ≤ sizeLine; decide, fun l5 n5 => ?_⟩⟩
      · rw [List.length_map, List.length_singleton]
        omega
      have s2 := (same_new m2 (o := .tup [V.int mk])).trans (sc.trans (same_new n5 (o := .lst [V.ref rc, .ref q])))
      have h5 : (upd Hc l5 (.lst [V.ref rc, .ref q])) l5 = some (.lst [V.ref rc, .ref q]) := upd_same
      have cc := cB (same_new n5 (o := .lst [V.ref rc, .ref q]) _ _ hrc)
      have s12 := s1.trans s2
      generalize upd Hc l5 (.lst [V.ref rc, .ref q]) = Hd at s2 s12 h5 cc ⊢
      refine ⟨_, rfl, q, _, rfl, SqT.of (s12 _ _ hq7), fun p3 m3 => ⟨by show 1 ≤ sizeLine; decide, fun l6 n6 => ⟨_, rfl, _, rfl, by show 1 ≤ sizeLine; decide, fun p4 m4 => ⟨by show 2 ≤ sizeLine; decide, fun l7 n7 => ⟨by show 4 ≤ sizeLine; decide, fun L nL => ?_⟩⟩⟩⟩⟩
      have s3 := (same_new m3 (o := .tup (c'.map V.int).reverse)).trans ((same_new n6 (o := .lst [V.ref p3])).trans ((same_new m4 (o := .tup [V.int mk])).trans ((same_new n7 (o := .lst [V.ref q, .ref p4])).trans (same_new nL (o := .lst [V.ref l4, .ref l5, .ref l6, .ref l7])))))
      have hL : (upd (upd (upd (upd (upd Hd p3 (.tup (c'.map V.int).reverse)) l6 (.lst [V.ref p3])) p4 (.tup [V.int mk])) l7 (.lst [V.ref q, .ref p4])) L (.lst [V.ref l4, .ref l5, .ref l6, .ref l7])) L = some (.lst [V.ref l4, .ref l5, .ref l6, .ref l7]) := upd_same
      have h7 := same_new nL (o := .lst [V.ref l4, .ref l5, .ref l6, .ref l7]) _ _ (upd_same : (upd (upd (upd (upd Hd p3 (.tup (c'.map V.int).reverse)) l6 (.lst [V.ref p3])) p4 (.tup [V.int mk])) l7 (.lst [V.ref q, .ref p4])) l7 = some (.lst [V.ref q, .ref p4]))
      have hp4 := same_new nL (o := .lst [V.ref l4, .ref l5, .ref l6, .ref l7]) _ _ (same_new n7 (o := .lst [V.ref q, .ref p4]) _ _ (upd_same : (upd (upd (upd Hd p3 (.tup (c'.map V.int).reverse)) l6 (.lst [V.ref p3])) p4 (.tup [V.int mk])) p4 = some (.tup [V.int mk])))
      have h6 := same_new nL (o := .lst [V.ref l4, .ref l5, .ref l6, .ref l7]) _ _ (same_new n7 (o := .lst [V.ref q, .ref p4]) _ _ (same_new m4 (o := .tup [V.int mk]) _ _ (upd_same : (upd (upd Hd p3 (.tup (c'.map V.int).reverse)) l6 (.lst [V.ref p3])) l6 = some (.lst [V.ref p3]))))
      have hp3 := same_new nL (o := .lst [V.ref l4, .ref l5, .ref l6, .ref l7]) _ _ (same_new n7 (o := .lst [V.ref q, .ref p4]) _ _ (same_new m4 (o := .tup [V.int mk]) _ _ (same_new n6 (o := .lst [V.ref p3]) _ _ (upd_same : (upd Hd p3 (.tup (c'.map V.int).reverse)) p3 = some (.tup (c'.map V.int).reverse)))))
      generalize upd (upd (upd (upd (upd Hd p3 (.tup (c'.map V.int).reverse)) l6 (.lst [V.ref p3])) p4 (.tup [V.int mk])) l7 (.lst [V.ref q, .ref p4])) L (.lst [V.ref l4, .ref l5, .ref l6, .ref l7]) = He at s3 hL h7 hp4 h6 hp3 ⊢
      have s13 := s12.trans s3
      refine ⟨F, L, vs4, _, rfl, rfl, s13 _ _ hF, hL, by rw [l4']; show 4 + 4 ≤ sizeLine; decide, fun G nG => ?_⟩
      have sG := same_new nG (o := .lst (vs4 ++ [V.ref l4, .ref l5, .ref l6, .ref l7]))
      refine ⟨G, rfl, s13.trans sG, _, upd_same, by rw [List.length_append, l4']; rfl, fun v hv => ?_⟩
      have cq : Cl He ms (B + 1) (.ref q) := ⟨q, c', rfl, s13 _ _ hq7, ic, by omega⟩
      rcases List.mem_append.mp hv with z | z
      · obtain ⟨l, ws, e, hl, lw, cw⟩ := c4 v z
        exact ⟨l, ws, e, sG _ _ (s13 _ _ hl), lw, cw.kt (KT.same (s13.trans sG))⟩
      · simp only [List.mem_cons, List.not_mem_nil, or_false] at z
        rcases z with e | e | e | e
        · exact ⟨l4, _, e, sG _ _ (s3 _ _ (s2 _ _ h4)), by show 1 ≤ 2; decide, (ClA.one ca).kt (KT.same (s2.trans (s3.trans sG)))⟩
        · exact ⟨l5, _, e, sG _ _ (s3 _ _ h5), Nat.le_refl _, (ClA.app (ClA.one (cc.kt (KT.same s3))) (ClA.one cq)).kt (KT.same sG)⟩
        · refine ⟨l6, _, e, sG _ _ h6, by show 1 ≤ 2; decide, ClA.one ⟨p3, c'.reverse, rfl, ?_, fun m hm => ic m (List.mem_reverse.mp hm), by rw [List.length_reverse]; omega⟩⟩
          rw [sG _ _ hp3, List.map_reverse]
        · refine ⟨l7, _, e, sG _ _ h7, Nat.le_refl _, (ClA.app (ClA.one cq) (ClA.one ⟨p4, [mk], rfl, hp4, fun m hm => ?_, by show 1 ≤ B + 1; omega⟩)).kt (KT.same sG)⟩
          rw [List.mem_singleton.mp hm]
          exact hmk
    clear hF l4' c4 vs4 F
    rintro σ H8 ⟨F, rfl, s8, vs8, hF, l8, c8⟩
    have hi8 : r1.toNat < vs8.length := by omega
    obtain ⟨l, ws, el, hl, lw, cw⟩ := c8 _ (List.getElem_mem hi8)
    have hat : atI vs8 r1 = some (.ref l) := at_of (j := r1.toNat) (by omega) (by rw [List.getElem?_eq_getElem hi8, el])
    have hb8 := s8 _ _ hb7
    have cl8 := cl7.kt (KT.same s8)
    refine ⟨_, rfl, _, rfl, (i : Int), rfl, b, vs, rfl, SqL.of hb8, fun p1 m1 => ⟨_, rfl, _, rfl, F, _, _, _, rfl, rfl, SqL.of (same_new m1 _ _ hF), hat, p1, l, _, ws, rfl, rfl, upd_same, same_new m1 _ _ hl, ?_, fun p2 m2 => ⟨_, rfl, _, rfl, _, _, rfl, rfl, ((i + 1 : Nat) : Int), rfl, b, vs, rfl, SqL.of (same_new m2 _ _ (same_new m1 _ _ hb8)), fun p3 m3 => ⟨p2, p3, _, _, rfl, rfl, same_new m3 _ _ upd_same, upd_same, ?_, fun p4 m4 => ?_⟩⟩⟩⟩
    · rw [cut_0j, List.length_take]
      omega
    · rw [cut_0j, cut_iE, List.length_append, List.length_take, List.length_drop]
      omega
    · have sz := ((same_new m1 (o := .lst (cutV vs none (some (i : Int))))).trans (same_new m2 (o := .lst (cutV vs none (some (i : Int)) ++ ws)))).trans ((same_new m3 (o := .lst (cutV vs (some ((i + 1 : Nat) : Int)) none))).trans (same_new m4 (o := .lst (cutV vs none (some (i : Int)) ++ ws ++ cutV vs (some ((i + 1 : Nat) : Int)) none))))
      refine k _ p4 _ (((tp7.same s8).same sz).le (by omega)) (k7.trans (Kp.same (s8.trans sz))) upd_same ?_ ?_
      · rw [cut_0j, cut_iE, List.length_append, List.length_append, List.length_take, List.length_drop]
        omega
      · rw [cut_0j, cut_iE] at sz ⊢
        exact (ClA.app (ClA.app (fun v hv => (cl8 v (List.mem_of_mem_take hv)).up (by omega)) cw) (fun v hv => (cl8 v (List.mem_of_mem_drop hv)).up (by omega))).kt (KT.same sz)
end

/-! ### {e for x in ..} whose items are whole numbers -/
/-- the reading: the new set stands at Z; a turn adds one whole number -/
def tScI (w : World) (wi : TI) (g : TG) (te : TE) (own : List Nat) : TE := fun σ H0 Q => wi σ H0 fun J Hb => ∀ Z, Hb Z = none →
  ∃ W : Nat → Nat → Hp → Prop, (∃ m, W 0 m (upd Hb Z (SetO w Z (fun _ => false) 0))) ∧ ∀ i m Hc, W i m Hc →
    (J.stop i Hc ∧ Q (.ref Z) Hc) ∨ (J.go i Hc ∧ ∃ Next : Hp → Prop, (∀ Hd, Next Hd → ∃ m', m' < m ∧ W (i + 1) m' Hd) ∧
      ∀ x Hd, J.yld i Hc x Hd → g x (wipe σ own) Hd fun σ' He => wipe σ' own = wipe σ own ∧ te σ' He fun y Hf =>
        ∃ (k : Int) (S : Int → Bool) (n : Nat), y = .int k ∧ Hf Z = some (SetO w Z S n) ∧ n + 1 < scanBound ∧ Next (upd Hf Z (SetO w Z (fun j => S j || decide (j = k)) (if S k = true then n else n + 1))))
section
variable {X : Cx}
theorem add_at_set {pins : List (Addr × Obj)} {σ : L2.St} {H : Hp} {s : Shared} {E : Value → Shared → Prop} {Z : Addr} {S : Int → Bool} {n : Nat} {k : Int} {u : Value} {Q : Value → Shared → Prop} (I : Inv X pins σ H s)
    (hZ : H Z = some (SetO X.w Z S n)) (few : n + 1 < scanBound) (ru : RelV (.int k) u) (q : ∀ s', Inv X pins σ (upd H Z (SetO X.w Z (fun j => S j || decide (j = k)) (if S k = true then n else n + 1))) s' → Q .none s') :
    wpAny (model X.prog X.w) X.A (call (.builtin "set.add") [.ref Z, u]) Q E s := by
  obtain ⟨t, rfl⟩ := ru
  refine setR_add (setO_get I hZ) few fun h2 same now => ?_
  have there : ∃ o, h2.get? Z = some o := by
    obtain ⟨o, _, _, _, ho, _⟩ := id now
    exact ⟨o, ho⟩
  exact q { s with heap := h2, toks := s.toks + 1 } (I.write (t' := s.toks + 1) (by rw [hZ]; trivial) (.inl rfl) (fun b o hb e => (same.2 b hb).trans e) there (setO_new now))
theorem pe_scI {elt tg iter : Expr} {scope : Scope} {own : List (PySem.Str × Nat)} {pos : Pos} {wi : TI} {g : TG} {te : TE} (hc : X.calm = true) (hN : X.N.Nodup) (hi : PI X tg iter wi) (ok : BlkOk X.N X.env.scope scope own)
    (hg : ∀ (s : Shared) (H : Hp) (C : Addr) (cl : List (PySem.Str × Addr)) (fp : List Addr), PG (X.blk s H scope (compEnvC scope cl C X.env) fp) tg g)
    (he : ∀ (s : Shared) (H : Hp) (C : Addr) (cl : List (PySem.Str × Addr)) (fp : List Addr), PE (X.blk s H scope (compEnvC scope cl C X.env) fp) elt te) (hs : ∀ x, foldedSetIterable iter X.env x = pure x := by intro _; rfl) :
    PE X (.SetComp elt [⟨tg, iter, [], 0⟩] scope pos) (tScI X.w wi g te (own.map (·.2))) := by
  refine ⟨fun pins s σ H Q I rd => ?_⟩
  have caught : ∀ p ∈ scope.names, p.2 = .free → ∃ c, X.env.cells.lookup p.1 = some c := by
    intro p hp e
    exact I.ok.has _ ((ok.free p hp e).elim .inl .inr)
  rw [PpSet.eval_SetComp]
  refine wpAny_comprehension_free (use := none) rfl hs (closure_ok caught) ok.kind (fun p hp e => (ok.uniq p hp).trans (congrArg some e)) ?_
  refine thn (hi.run pins s σ H _ I rd) fun xv sa ha => thn ha fun iv sb hb => ?_
  obtain ⟨it, fp, tn, J, Hb, rfl, Ib, T, tn0, free, q⟩ := hb
  refine PpSet.newSet_ok (newEnv_comp ?_)
  -- the new set's place
  generalize eZ : sb.heap.objs.size = Z
  have noZ : Hb Z = none := Ib.hok.fresh (Nat.le_of_eq eZ)
  obtain ⟨W, ⟨m0, W0⟩, turn⟩ := q Z noZ
  generalize eB : upd Hb Z (SetO X.w Z (fun _ => false) 0) = Hs at W0
  generalize ec : ({ sb with heap := sb.heap.push { cls := .type "set", dict := none, data := .set #[] 0 (.fresh 0 0 (!X.w.params.followText "set-order")) } } : Shared) = sc
  have hsc : sc.heap = sb.heap.push { cls := .type "set", dict := none, data := .set #[] 0 (.fresh 0 0 (!X.w.params.followText "set-order")) } := by
    rw [← ec]
  have Ic : Inv X pins σ Hs sc := by
    rw [← ec, ← eB]
    refine Ib.laid (t' := sb.toks) (fun _ _ e => Heap.get?_push_of_some _ e) (Nat.le_of_eq eZ) ?_
    rw [← eZ]
    exact setO_new (setR_fresh X.w)
  have older : ∀ b ∈ fp, b < Z := by
    intro b hb
    obtain ⟨o, e, _⟩ := T.obj 0 _ tn0 b hb
    exact eZ ▸ Heap.lt_size e
  have free2 : ∀ b ∈ fp, FpOk X pins Hs b ∧ b < sc.heap.objs.size := by
    intro b hb
    have l := older b hb
    refine ⟨⟨?_, (free b hb).2⟩, ?_⟩
    · rw [← eB, upd_ne (Nat.ne_of_lt l)]
      exact (free b hb).1
    · rw [hsc, Heap.size_push, eZ]
      exact Nat.lt_succ_of_lt l
  have tnc : tn 0 sc.heap := T.keep 0 _ _ tn0 fun b _ o e => by
    rw [hsc]
    exact Heap.get?_push_of_some _ e
  have Ie := block_start Ic ok hN free2
  show codeAny _ _ (.compStart (.SetComp elt [⟨tg, iter, [], 0⟩] scope pos) 0 (.ref it) (.ref Z) (compEnvC scope (cellsFrom (sc.heap.objs.size + 1) scope.names (cloFrom X.env.cells scope.names [])) sc.heap.objs.size X.env)) (compPost (model X.prog X.w) X.A X.xe none (EP X pins σ Q) (.ref Z) sc.heap.objs.size) _
  generalize ecl : cellsFrom (sc.heap.objs.size + 1) scope.names (cloFrom X.env.cells scope.names []) = cl at Ie
  have rg := hg sc Hs sc.heap.objs.size cl fp
  have re := he sc Hs sc.heap.objs.size cl fp
  generalize eE : compEnvC scope cl sc.heap.objs.size X.env = env at Ie rg re
  generalize ef : ({ sc with heap := pushCells (sc.heap.push { cls := .type "dict", data := .dict #[] }) scope.names } : Shared) = sf at Ie
  have tnf : tn 0 sf.heap := T.keep 0 _ _ tnc fun b _ o e => by
    rw [← ef]
    exact pushCells_keeps _ _ _ _ (Heap.get?_push_of_some _ e)
  have locE : env.locals = sc.heap.objs.size := by
    rw [← eE]
    rfl
  have held : ∀ {τ : L2.St} {G : Hp} {s' : Shared}, Inv (X.blk sc Hs scope env fp) [] τ G s' → (∀ b ∈ fp, G b = none) → ∀ b ∈ fp, FpOk (X.blk sc Hs scope env fp) [] G b := by
    intro τ G s' J' no b hb
    have x := J'.ok.exf b hb
    exact ⟨no b hb, x.1, J'.ok.exfs b hb, .inl hb, x.2, fun p hp => by cases hp⟩
  refine PpSet.codeAny_compStart_set ?_ (T.self X.A 0 _ _ _ tnf ?_)
  all_goals
    refine PpSet.compLoopS_any (fun m s' => ∃ i G, Inv (X.blk sc Hs scope env fp) [] (wipe σ (own.map (·.2))) G s' ∧ tn i s'.heap ∧ (∀ b ∈ fp, G b = none) ∧ W i m G) ?_ m0 ⟨0, Hs, Ie, tnf, fun b hb => (free2 b hb).1.1, W0⟩
    rintro m s1 ⟨i, G, I1, tn1, no1, w1⟩
    rcases turn i m G w1 with ⟨stop, fin⟩ | ⟨go, Next, less, step⟩
    · refine thnF (T.done (X.blk sc Hs scope env fp) rfl rfl rfl hc i [] s1 _ G (fun _ _ => False) I1 (held I1 no1) tn1 stop) fun r s2 ⟨er, I2⟩ => ?_
      subst er
      have out : Inv X pins σ G s2 := Ic.call' (ch := fp) I2.os I2.base I2.hok I2.bare fun b hb => by
        have z := (free2 b hb).1
        exact ⟨z.2.2.2.1, z.2.1, z.2.2.2.2.1, z.2.2.2.2.2⟩
      have nl : G env.locals = none := I2.free
      obtain ⟨mp, ns, _⟩ := I2.loc
      have ns : s2.heap.Ns env.locals mp := ns
      rw [locE] at nl ns
      have fo := Ic.fpOk (Nat.le_refl _) nl
      exact ⟨mp, ns, fun h3 sb3 => ⟨.ref Z, G, out.turned (t' := s2.toks) (fun b o hb e => (sb3.2 b hb).trans e) fo.1 fo.2.1 fo.2.2.2.1 fo.2.2.2.2.1 fo.2.2.2.2.2, rfl, fin⟩⟩
    · refine thnF (T.item (X.blk sc Hs scope env fp) rfl rfl rfl hc i [] s1 _ G (fun _ _ => False) I1 (held I1 no1) tn1 go) fun r s2 ⟨u, er, h2⟩ => ?_
      subst er
      refine thnF h2 fun _ s3 ⟨x, G3, I3, rx, y3, tn3, no3⟩ => ?_
      refine thnF (rg.run _ s3 _ G3 x u _ (I3.pinned (held I3 no3) (T.obj _ _ tn3)) rx (step x G3 y3)) fun _ s4 ⟨τ, G4, I4, ew, r4⟩ => ?_
      show wpAny _ _ (pure true) _ _ _
      refine wpAny_pure ?_
      show (if true = true then _ else _)
      rw [if_pos rfl]
      refine thnF (re.run _ s4 τ G4 _ I4 r4) fun z s5 ⟨y, G5, I5, rz, k, S, n, ey, hZ, few, nx⟩ => ?_
      subst ey
      refine add_at_set (X := X.blk sc Hs scope env fp) I5 hZ few rz fun s6 I6 => ?_
      obtain ⟨m', lt, w'⟩ := less _ nx
      have kept : ∀ b ∈ fp, ∀ o, s3.heap.get? b = some o → s6.heap.get? b = some o ∧ (upd G5 Z (SetO X.w Z (fun j => S j || decide (j = k)) (if S k = true then n else n + 1))) b = none := by
        intro b hb o e
        have p := I6.pin (b, o) (List.mem_append_right _ (List.mem_append_right _ (mem_pinsAt hb e)))
        exact ⟨p.1, p.2.1⟩
      refine ⟨m', lt, i + 1, _, (I6.unpinned (pins := [])).weak (by rw [← ew, wipe_length]) (fun j v e => ?_), T.keep _ _ _ tn3 fun b hb o e => (kept b hb o e).1, fun b hb => ?_, w'⟩
      · rw [← ew] at e
        exact (wipe_some e).1
      · obtain ⟨o, e, _⟩ := T.obj _ _ tn3 b hb
        exact (kept b hb o e).2
end
/-! ### how many there are in a set -/
theorem call_lenS {X : Cx} : CallR X (.builtin "len") (fun xs H Q => ∃ a S n, xs = [.ref a] ∧ H a = some (SetO X.w a S n) ∧ Q (.int (n : Nat)) H) := by
  intro pins s σ H xs us Q I r h
  obtain ⟨a, S, n, rfl, ha, q⟩ := h
  obtain ⟨u, rfl, ru⟩ := vals1 r
  cases ru
  obtain ⟨o, es, ep, t, ho, hex, hd, _, _, _, hb, hf, hn, _⟩ := setO_get I ha
  have line : scanBound = 4096 := rfl
  exact call_len_set ho hex hd hf (by omega) ⟨.int (n : Nat), H, I.tok _, ⟨_, by rw [hn]⟩, q⟩
def dist (acc : List Int) : List Int → List Int := List.foldl step_dedup acc
theorem dist_le : ∀ (ns acc : List Int), (dist acc ns).length ≤ acc.length + ns.length
  | [], acc => Nat.le_refl _
  | n :: r, acc => by
    show (dist (step_dedup acc n) r).length ≤ acc.length + (r.length + 1)
    have h := dist_le r (step_dedup acc n)
    have h2 : (step_dedup acc n).length ≤ acc.length + 1 := by
      unfold step_dedup
      split
      · omega
      · rw [List.length_append]
        exact Nat.le_refl _
    omega
theorem dist_nodup : ∀ (ns acc : List Int), (dist acc ns).length = acc.length + ns.length ↔ ns.Nodup ∧ ∀ k ∈ ns, k ∉ acc
  | [], acc => by
    constructor
    · intro _
      exact ⟨List.nodup_nil, fun k h => by cases h⟩
    · intro _
      rfl
  | n :: r, acc => by
    show (dist (step_dedup acc n) r).length = acc.length + (r.length + 1) ↔ _
    by_cases hm : n ∈ acc
    · have e : step_dedup acc n = acc := by
        unfold step_dedup
        rw [if_pos (List.any_eq_true.mpr ⟨n, hm, by simp⟩)]
      rw [e]
      have l := dist_le r acc
      constructor
      · intro z
        omega
      · intro z
        exact absurd hm (z.2 n List.mem_cons_self)
    · have e : step_dedup acc n = acc ++ [n] := by
        unfold step_dedup
        rw [if_neg]
        intro z
        obtain ⟨y, hy, ey⟩ := List.any_eq_true.mp z
        exact hm ((beq_iff_eq.mp ey) ▸ hy)
      rw [e]
      have ih := dist_nodup r (acc ++ [n])
      rw [List.length_append] at ih
      have e2 : acc.length + (r.length + 1) = acc.length + [n].length + r.length := by
        show _ = acc.length + 1 + r.length
        omega
      rw [e2, ih, List.nodup_cons]
      constructor
      · rintro ⟨nd, no⟩
        refine ⟨⟨fun z => no n z (List.mem_append_right _ (List.mem_singleton.mpr rfl)), nd⟩, fun k hk => ?_⟩
        rcases List.mem_cons.mp hk with rfl | hk
        · exact hm
        · exact fun z => no k hk (List.mem_append_left _ z)
      · rintro ⟨⟨nm, nd⟩, no⟩
        refine ⟨nd, fun k hk z => ?_⟩
        rcases List.mem_append.mp z with z | z
        · exact no k (List.mem_cons_of_mem _ hk) z
        · exact nm ((List.mem_singleton.mp z) ▸ hk)
/-- how many unlike ones there are -/
def many (ns : List Int) : Nat := (dist [] ns).length
theorem many_nodup (ns : List Int) : many ns = ns.length ↔ ns.Nodup := by
  have h := dist_nodup ns []
  simp only [List.length_nil, Nat.zero_add, List.not_mem_nil, not_false_eq_true, implies_true, and_true] at h
  exact h
theorem first_dist (ns : List Int) : firstMet (fun i => ns.getD i 0) ns.length = dist [] ns := by
  unfold firstMet
  have e : (List.range ns.length).map (fun i => ns.getD i 0) = ns := by
    apply List.ext_getElem?
    intro i
    rw [List.getElem?_map]
    by_cases h : i < ns.length
    · rw [List.getElem?_range h, List.getElem?_eq_getElem h]
      show some (ns.getD i 0) = _
      rw [List.getD_eq_getElem?_getD, List.getElem?_eq_getElem h]
      rfl
    · rw [List.getElem?_eq_none (by rw [List.length_range]; omega), List.getElem?_eq_none (by omega)]
      rfl
  rw [e]
  rfl
theorem ints_are : ∀ {ns : List Int} {us : List Value}, Vals (ns.map V.int) us → IntsAre us ns
  | [], us, h => by
    cases h
    exact .nil
  | n :: r, us, h => by
    cases h with
    | cons a b =>
      obtain ⟨t, rfl⟩ := a
      exact .cons _ _ (ints_are b)
/-- len(set(xs)), xs a list of whole numbers -/
def tLenOf (K : PySem.W.Frag) (ta : TE) : TE := fun σ H Q => ta σ H fun x H1 => ∃ (l : Addr) (ns : List Int), x = .ref l ∧ SqL K H1 l (ns.map V.int) ∧ ns.length ≤ 4000 ∧ Q (.int (many ns : Nat)) H1
theorem pe_lenOf {X : Cx} {a : Expr} {ta : TE} {p p2 q pos : Pos} (hg : Gl X "len") (hm : X.mg "len" = none) (hg2 : Gl X "set") (hm2 : X.mg "set" = none) (ha : PE X a ta) (hc : X.calm = true := by rfl)
    (na : starEach [a] X.env = (false, eval a X.env) :: starEach [] X.env := by rfl) : PE X (.Call (.Name "len" p) [.Call (.Name "set" p2) [a] [] q] [] pos) (tLenOf X.K ta) := by
  refine ⟨fun pins s σ H Q I rd => Call_ (ld_blt I hg hm boot_len (callWith_builtin1 (args_cons ?_ rfl) rfl rfl))⟩
  refine Call_ (ld_blt I hg2 hm2 boot_set (callWith_type1 (args_cons (thn (ha.run pins s σ H _ I rd) fun v sa ⟨x, Ha, Ia, rx, rest⟩ => args_nil ?_) na) na rfl))
  obtain ⟨l, ns, rfl, at_l, few, rest⟩ := rest
  cases rx
  obtain ⟨its, vs, pl, _⟩ := Ia.list at_l
  have size : its.toArray.size = ns.length := by
    rw [List.size_toArray, ← vs.length, List.length_map]
  have line : scanBound = 4096 := rfl
  refine call_set_list (Ia.ok.hd hc) pl.isList (by simpa using ints_are vs) (by omega) fun h2 tk made kept => args_nil ?_
  rw [size, first_dist] at made
  obtain ⟨o, es, ep, t, ho, hex, hd, _, _, _, hf, hn⟩ := made
  have Ib : Inv X pins σ Ha { sa with heap := h2, toks := tk } := Ia.kept fun b o e => kept b o (Heap.lt_size e) e
  have le := dist_le ns []
  exact call_len_set ho hex hd hf (by rw [hn]; simp only [List.length_nil] at le; omega) ⟨.int (many ns : Nat), Ha, Ib.tok _, ⟨_, by rw [hn]; rfl⟩, rest⟩
/-- the set of f's numbers over a tuple: how many there are is told, whether as many as items -/
theorem scI_tup {w : World} {K : PySem.W.Frag} {a : Addr} {xs : List V} {te : TE} {vs : List Nat} {σ : L2.St} {H : Hp} {Z : Addr} {Qd : Hp → Prop} {j : Nat} (f : V → Int) (hx : SqT K H a xs) (hZ : H Z = none) (hz : xs.length ≤ 4000)
    (hs : ∀ x ∈ xs, SelT H σ vs j tYes te x true (.int (f x))) (k : ∀ H' S n, Same H H' → H' Z = some (SetO w Z S n) → (n = xs.length ↔ (xs.map f).Nodup) → (∀ i, S i = true ↔ i ∈ xs.map f) → Qd H') :
    ∃ W : Nat → Nat → Hp → Prop, (∃ m, W 0 m (upd H Z (SetO w Z (fun _ => false) 0))) ∧ ∀ i m Hc, W i m Hc →
    ((Itt K a).stop i Hc ∧ Qd Hc) ∨ ((Itt K a).go i Hc ∧ ∃ Next : Hp → Prop, (∀ Hd, Next Hd → ∃ m', m' < m ∧ W (i + 1) m' Hd) ∧
      ∀ x Hd, (Itt K a).yld i Hc x Hd → gName j x (wipe σ vs) Hd fun σ' He => wipe σ' vs = wipe σ vs ∧ te σ' He fun y Hf =>
        ∃ (k : Int) (S : Int → Bool) (n : Nat), y = .int k ∧ Hf Z = some (SetO w Z S n) ∧ n + 1 < scanBound ∧ Next (upd Hf Z (SetO w Z (fun j => S j || decide (j = k)) (if S k = true then n else n + 1)))) := by
  have line : scanBound = 4096 := rfl
  refine ⟨fun i m Hc => m = xs.length - i ∧ i ≤ xs.length ∧ Same H Hc ∧ ∃ S n, Hc Z = some (SetO w Z S n) ∧ n ≤ i ∧ (n = i ↔ ((xs.take i).map f).Nodup) ∧ ∀ v, S v = true ↔ v ∈ (xs.take i).map f,
    ⟨xs.length, rfl, Nat.zero_le _, same_new hZ, _, 0, upd_same, Nat.le_refl _, by simp, by simp⟩, ?_⟩
  rintro i m Hc ⟨rfl, hi, sm, S, n, hS, le, iff, mem⟩
  have at_a := Same.seqT sm hx
  by_cases lt : i < xs.length
  · refine .inr ⟨⟨xs, xs[i], at_a, List.getElem?_eq_getElem lt⟩, fun Hd => Same H Hd ∧ ∃ S n, Hd Z = some (SetO w Z S n) ∧ n ≤ i + 1 ∧ (n = i + 1 ↔ ((xs.take (i + 1)).map f).Nodup) ∧ ∀ v, S v = true ↔ v ∈ (xs.take (i + 1)).map f,
      fun Hd h => ⟨xs.length - (i + 1), by omega, rfl, lt, h⟩, ?_⟩
    rintro x Hd ⟨rfl, hy⟩
    have gx := hy xs at_a
    have ex := Option.some.inj ((List.getElem?_eq_getElem lt).symm.trans gx)
    have s := hs x (List.mem_of_getElem? gx)
    refine ⟨s.wip, s.elt rfl Hd sm _ fun He se => ⟨f x, S, n, rfl, se Z _ hS, by omega, fun b o e => ?_, _, _, upd_same, ?_, ?_, fun v => ?_⟩⟩
    · rw [upd_ne (ne_of_none e hZ)]
      exact se b o (sm b o e)
    · split <;> omega
    · have et : xs.take (i + 1) = xs.take i ++ [x] := by
        rw [List.take_add_one, gx]
        rfl
      rw [et, List.map_append, List.nodup_append]
      have hm := mem (f x)
      constructor
      · intro h
        by_cases c : S (f x) = true
        · rw [if_pos c] at h
          omega
        · rw [if_neg c] at h
          refine ⟨iff.mp (by omega), by simp, fun p hp q hq => ?_⟩
          have eq : q = f x := by simpa using hq
          rw [eq]
          intro e
          rw [e] at hp
          exact c (hm.mpr hp)
      · rintro ⟨h1, _, h3⟩
        have c : ¬ S (f x) = true := fun c => h3 _ (hm.mp c) _ (by simp) rfl
        rw [if_neg c, iff.mpr h1]
    · have et : xs.take (i + 1) = xs.take i ++ [x] := by
        rw [List.take_add_one, gx]
        rfl
      rw [et, List.map_append, List.mem_append, Bool.or_eq_true, decide_eq_true_eq, mem v]
      simp
  · have e : i = xs.length := by omega
    subst e
    rw [List.take_length] at iff mem
    exact .inl ⟨⟨xs, at_a, Nat.le_refl _⟩, k Hc S n sm hS iff mem⟩

/-! ### a comprehension that picks some of a list -/
section
variable {K : PySem.W.Frag} {a : Addr} {xs : List V} {tt : TT} {te : TE} {vs : List Nat} {σ : L2.St} {H : Hp} {D : Addr} {Qd : Hp → Prop} {j : Nat}
theorem lc_subL (hx : SqL K H a xs) (hD : H D = none) (hz : xs.length ≤ 1000000) (wip : ∀ x, wipe ((wipe σ vs).set j (some x)) vs = wipe σ vs)
    (ht : ∀ (i : Nat) x, xs[i]? = some x → ∀ H', Same H H' → ∀ R : Bool → Hp → Prop, (∀ b, R b H') → tt ((wipe σ vs).set j (some x)) H' R) (he : ∀ x H' (R : VK), R x H' → te ((wipe σ vs).set j (some x)) H' R)
    (k : ∀ H' ys, Same H H' → H' D = some (.lst ys) → (∀ y ∈ ys, y ∈ xs) → ys.length ≤ xs.length → Qd H') :
    ∃ W : Nat → Nat → Hp → Prop, (∃ m, W 0 m (upd H D (.lst []))) ∧ ∀ i m H, W i m H →
      ((Itl K a).stop i H ∧ Qd H) ∨ ((Itl K a).go i H ∧ ∃ Nx : Hp → Prop, (∀ H', Nx H' → ∃ m', m' < m ∧ W (i + 1) m' H') ∧ ∀ x H', (Itl K a).yld i H x H' → gName j x (wipe σ vs) H' fun σ2 H2 => wipe σ2 vs = wipe σ vs ∧ tt σ2 H2 fun b H3 =>
        if b = true then te σ2 H3 fun y H4 => ∃ acc, H4 D = some (.lst acc) ∧ acc.length < sizeLine ∧ Nx (upd H4 D (.lst (acc ++ [y]))) else Nx H3) := by
  have line : 1000000 < sizeLine := by decide
  refine lc_list (xs := xs) (fun i H' => Same H H' ∧ ∃ ys, H' D = some (.lst ys) ∧ (∀ y ∈ ys, y ∈ xs) ∧ ys.length ≤ i) ⟨same_new hD, [], upd_same, fun y hy => (by cases hy), Nat.le_refl _⟩ (fun i H' _ p => p.1.seq hx) (fun i x H' hi p => ?_) fun H' p => ?_
  · obtain ⟨sm, ys, hd, hin, hl⟩ := p
    have li := (List.getElem?_eq_some_iff.mp hi).1
    refine ⟨wip x, ht i x hi H' sm _ fun b => ?_⟩
    cases b with
    | true =>
      refine iteT (he _ _ _ ⟨ys, hd, by omega, same_mut sm hD, _, upd_same, fun y hy => ?_, by rw [List.length_append]; show _ + 1 ≤ _; omega⟩)
      rcases List.mem_append.mp hy with z | z
      · exact hin y z
      · rw [List.mem_singleton.mp z]
        exact List.mem_of_getElem? hi
    | false => exact iteF ⟨sm, ys, hd, hin, by omega⟩
  · obtain ⟨sm, ys, hd, hin, hl⟩ := p
    exact k H' ys sm hd hin hl
/-- over a range, items by a relation -/
theorem lc_relR {lo : Int} {n : Nat} (Rel : Nat → V → Hp → Prop) (keep : ∀ i y H1 H2, Rel i y H1 → Same H1 H2 → Rel i y H2) (mu : ∀ i y H1 l o, H1 D = some (.lst l) → Rel i y H1 → Rel i y (upd H1 D o)) (hD : H D = none) (hz : n ≤ 1000000)
    (wip : ∀ x, wipe ((wipe σ vs).set j (some x)) vs = wipe σ vs) (he : ∀ i, i < n → ∀ H', Same H H' → ∀ R : VK, (∀ y H'', Same H' H'' → Rel i y H'' → R y H'') → te ((wipe σ vs).set j (some (.int (lo + (i : Nat))))) H' R)
    (k : ∀ H' ys, Same H H' → H' D = some (.lst ys) → ys.length = n → (∀ (i : Nat) y, ys[i]? = some y → Rel i y H') → Qd H') :
    ∃ W : Nat → Nat → Hp → Prop, (∃ m, W 0 m (upd H D (.lst []))) ∧ ∀ i m H, W i m H →
      ((Itr lo n).stop i H ∧ Qd H) ∨ ((Itr lo n).go i H ∧ ∃ Nx : Hp → Prop, (∀ H', Nx H' → ∃ m', m' < m ∧ W (i + 1) m' H') ∧ ∀ x H', (Itr lo n).yld i H x H' → gName j x (wipe σ vs) H' fun σ2 H2 => wipe σ2 vs = wipe σ vs ∧ tYes σ2 H2 fun b H3 =>
        if b = true then te σ2 H3 fun y H4 => ∃ acc, H4 D = some (.lst acc) ∧ acc.length < sizeLine ∧ Nx (upd H4 D (.lst (acc ++ [y]))) else Nx H3) := by
  refine lc_range (RelAt Rel D · H) (rel_zero hD) (fun i H' hi p => ?_) fun H' p => ?_
  · exact rel_turn keep mu hD (wip _) p (by omega) (he i hi H' p.sm) fun H'' q => q
  · obtain ⟨sm, ys, hd, hl, hr⟩ := p
    exact k H' ys sm hd hl hr
end

/-! ### the law itself -/
theorem kt_list {K : PySem.W.Frag} : PySem.W.kitOne K (.type "list") (.type "list") = some true := kit_ty (by show kitB "list" "list" = some true; decide +kernel)
def lstT (cs : List (List Int)) : PyData := .list (cs.map tupD)
theorem lay_two (ms : List Int) (cs : List (List Int)) : (PyData.list [lstD ms, lstT cs]).canLay0 = true := by
  rw [PyData.canLay0, PyData.canLayAll0, PyData.canLayAll0, PyData.canLayAll0, lay_lst]
  unfold lstT
  rw [PyData.canLay0, lay_tups]
  rfl
theorem shape_two (ms : List Int) (cs : List (List Int)) : SeqAt.shaped (PyData.list [lstD ms, lstT cs]) = true := by
  have d1 := dep_lst ms
  have d2 := dep_tups cs
  have dp : (PyData.list [lstD ms, lstT cs]).depth ≤ 3 := by
    rw [PyData.depth, PyData.depthAll, PyData.depthAll, PyData.depthAll]
    unfold lstT
    rw [PyData.depth]
    omega
  unfold SeqAt.shaped
  rw [lay_two, decide_eq_true (Nat.le_trans dp (by decide))]
  rfl
theorem un_n {ms : List Int} (u : Un ms) : UnN ms := by
  have nd := u.nd
  intro p q hp hq
  have gp : ms.getD p 0 = ms[p] := getD_get (List.getElem?_eq_getElem hp)
  have gq : ms.getD q 0 = ms[q] := getD_get (List.getElem?_eq_getElem hq)
  have nz := u.nz _ (List.getElem_mem hp)
  have key : (ms[p]).natAbs = (ms[q]).natAbs → p = q := fun e => by
    have lp : p < (nas ms).length := by
      unfold nas
      rw [List.length_map]
      exact hp
    refine (List.getElem?_inj lp nd).mp ?_
    unfold nas
    rw [List.getElem?_map, List.getElem?_map, List.getElem?_eq_getElem hp, List.getElem?_eq_getElem hq]
    exact congrArg some e
  rw [gp, gq]
  refine ⟨fun e => key (by rw [e]), fun e => ?_⟩
  have pq := key (by rw [e]; exact Int.natAbs_neg _)
  subst pq
  omega
theorem subN_nodup {ms : List Int} (u : UnN ms) : ∀ (i s : Nat), i ≤ ms.length → (subN ms i s).Nodup
  | 0, _, _ => List.nodup_nil
  | i + 1, s, h => by
    rw [subN]
    refine List.nodup_append.mpr ⟨subN_nodup u i s (by omega), by cases s.testBit i <;> simp, fun a ha b hb e => ?_⟩
    cases hs : s.testBit i with
    | false =>
      rw [hs] at hb
      exact absurd hb (by simp)
    | true =>
      rw [hs, if_pos rfl] at hb
      rw [e, List.mem_singleton.mp hb] at ha
      obtain ⟨p, hp, _, e2⟩ := (subN_mem ms _ i s).mp ha
      have := (u p i (by omega) (by omega)).1 e2
      omega
theorem subN_in {ms : List Int} {i s : Nat} (h : i ≤ ms.length) {m : Int} (hm : m ∈ subN ms i s) : m ∈ ms := by
  obtain ⟨p, hp, _, e⟩ := (subN_mem ms m i s).mp hm
  rw [← e]
  exact getD_mem (by omega)
theorem cut_sub (l : List Int) (i j : Option Int) : ∃ l' : List Int, cutV (l.map V.int) i j = l'.map V.int ∧ ∀ x ∈ l', x ∈ l := by
  unfold cutV
  rw [← List.map_drop, ← List.map_take]
  exact ⟨_, rfl, fun x hx => List.mem_of_mem_drop (List.mem_of_mem_take hx)⟩
def spLaw (K : PySem.W.Frag) : Sp := fun vs H Q _ => ∃ (a : Addr) (ns : List Int), vs = [.ref a] ∧ SqL K H a (ns.map V.int) ∧ ns.length ≤ 63 ∧ ∀ H', Q (.bl true) H'
def P1 (a t c : Addr) (e : Nat) (σ : L2.St) (H : Hp) : Prop := ∃ (i wy : Int) (bn mn mo : Nat) (v7 v8 v9 v10 v11 v12 v13 v14 : Option V), σ = [some (.ref a), some (.ref t), some (.int i), some (.int wy), some (.int bn), some (.int mn), some (.int mo), v7, v8, v9, v10, v11, v12, v13, v14, none, none, none, none] ∧
  Tape H t c e ∧ bn ≤ 3 ∧ 1 ≤ mn ∧ mn ≤ 12 ∧ mo ≤ 61
def P2 (a t c : Addr) (e B N : Nat) (σ : L2.St) (H : Hp) : Prop := ∃ (i wy : Int) (bn mo : Nat) (ms : List Int) (M L : Addr) (vs : List V) (v8 v10 v11 v12 v13 v14 : Option V), σ = [some (.ref a), some (.ref t), some (.int i), some (.int wy), some (.int bn), some (.int ms.length), some (.int mo), some (.ref M), v8, some (.ref L), v10, v11, v12, v13, v14, none, none, none, none] ∧
  Tape H t c e ∧ bn ≤ 3 ∧ 1 ≤ ms.length ∧ ms.length ≤ 12 ∧ mo ≤ 61 ∧ UnN ms ∧ H M = some (.lst (ms.map V.int)) ∧ H L = some (.lst vs) ∧ vs.length ≤ N ∧ ClA H ms B vs
section
variable {P : Program} {w : World} {K : PySem.W.Frag} {mg : Str → Option Value} {base : Heap}
theorem ok_law {f : Addr} {fd : FuncData} (F : Fun K "law" "law" s_law f fd) (T : Top K mg) (h__law_begun : Has P w K mg base 1 "_law_begun" ["_law_script"] (spBegun K)) (h__law_draw : Has P w K mg base 1 "_law_draw" ["_law_tape", "_law_many"] spDraw)
    (h__law_pick : Has P w K mg base 2 "_law_pick" ["_law_tape", "_law_some"] (spPick K)) (h__law_marks : Has P w K mg base 3 "_law_marks" ["_law_tape", "_law_many"] spFar) (h__law_settings : Has P w K mg base 1 "_law_settings" ["_law_marks_here"] (spSettings K))
    (h__law_is_unlike : Has P w K mg base 1 "_law_is_unlike" ["_law_marks_here", "_law_most", "_law_clauses", "_law_some"] (spIsUn K)) (h__law_drawn : Has P w K mg base 3 "_law_drawn" ["_law_tape", "_law_marks_here"] spDrawn)
    (h__law_bent : Has P w K mg base 3 "_law_bent" ["_law_tape", "_law_marks_here", "_law_clauses"] spBent) (h_first_unlike : Has P w K mg base 2 "first_unlike" ["marks", "most", "clauses"] (spUnlike K)) :
    FnG P w K mg base 6 f fd ["_law_script"] (spLaw K) := by
  refine fnG F sc_law (fun vs H Q E h => ?_) (fun cdv Ar outer s H vs Q E hr hgd h => ?_)
  · obtain ⟨a, ns, rfl, _⟩ := h
    rfl
  · have hu := hu_of hr
    have nd := sc_law.nd
    obtain ⟨a, ns, rfl, hS, hl, k⟩ := h
    refine ⟨_, (pss_cons (ps_set (i := 1) nd rfl (.inl rfl) (pe_has h__law_begun (hr.mono (by omega)) (by rfl) (pa_cons (pv 0) pa_nil)))
    (pss_cons (ps_for PassesOwn.never rfl (pi_range1 (by rfl) T.b_range (pa_cons (pe_op op_add pe_int (pe_callB (call_min2 rfl) (by rfl) T.b_min (by decide +kernel) (pa_cons pe_int (pa_cons (pe_callB call_len_seq (by rfl) T.b_len (by decide +kernel) (pa_cons (pv 0) pa_nil)) pa_nil)))) pa_nil)) (pg_name (i := 2) nd rfl (.inl rfl))
      (pss_cons (ps_par3 (i := 3) (j := 4) (l := 5) (by rfl) nd rfl rfl rfl (by decide) (by decide) (by decide) rfl rfl rfl (pa_cons (pe_has h__law_draw (hr.mono (by omega)) (by rfl) (pa_cons (pv 1) (pa_cons pe_int pa_nil))) (pa_cons (pe_has h__law_draw (hr.mono (by omega)) (by rfl) (pa_cons (pv 1) (pa_cons pe_int pa_nil))) (pa_cons (pe_has h__law_pick (hr.mono (by omega)) (by rfl) (pa_cons (pv 1) (pa_cons (pe_lst (pa_cons pe_int (pa_cons pe_int (pa_cons pe_int (pa_cons pe_int (pa_cons pe_int (pa_cons pe_int (pa_cons pe_int (pa_cons pe_int pa_nil))))))))) pa_nil))) pa_nil))) (by rfl))
    (pss_cons (ps_set (i := 6) nd rfl (.inr rfl) (pe_has h__law_draw (hr.mono (by omega)) (by rfl) (pa_cons (pv 1) (pa_cons (pe_op op_add (pv 5) pe_int) pa_nil))))
    (C8.pss_cut (ps_if (PW.pt (pw_and (pt_cmpR op_eq (pv 2) pe_int (nomark _)) (pw_and1 (pt_cmpR op_eq (pv 3) pe_int (nomark _))))) (pss_one (ps_asg (pe_tup (pa_cons pe_int (pa_cons (pe_has h__law_pick (hr.mono (by omega)) (by rfl) (pa_cons (pv 1) (pa_cons (pe_lst (pa_cons pe_int (pa_cons pe_int (pa_cons pe_int (pa_cons pe_int pa_nil))))) pa_nil))) pa_nil))) (pg_tup (by rfl) (pgs_cons (pg_name (i := 5) nd rfl (.inl rfl)) (pgs_cons (pg_name (i := 6) nd rfl (.inr rfl)) pgs_nil))))) pss_nil)
    (pss_cons (ps_set (i := 7) nd rfl (.inr rfl) (pe_has h__law_marks (hr.mono (by omega)) (by rfl) (pa_cons (pv 1) (pa_cons (pv 5) pa_nil))))
    (pss_cons (ps_setLc (i := 8) (own := [("_law_some", 15)]) (by rfl) nd rfl rfl (sw_true rfl rfl rfl (by decide +kernel)) (pi_list (pe_has h__law_settings (hr.mono (by omega)) (by rfl) (pa_cons (pv 7) pa_nil))) (blkOk_by (own := [("_law_some", 15)]) (N := nm_law) (sc := defScope s_law) (by decide +kernel)) (fun _ _ _ _ _ => pg_name (i := 15) nd rfl (.inl rfl)) (fun _ _ _ _ _ => pts_one (pt_cmpR op_eq (pe_callB (len_seqK (K := K) rfl) (by rfl) T.b_len (by decide +kernel) (pa_cons (pv 15) pa_nil)) (pe_op op_add (pv 6) pe_int) (nomark _))) (fun _ _ _ _ _ => (pv 15)))
    (pss_cons (ps_set (i := 9) nd rfl (.inr rfl) (pe_stV (pe_lc (own := [("_law_some", 15)]) (by rfl) nd (pi_list (pv 8)) (blkOk_by (own := [("_law_some", 15)]) (N := nm_law) (sc := defScope s_law) (by decide +kernel)) (fun _ _ _ _ _ => pg_name (i := 15) nd rfl (.inl rfl)) (fun _ _ _ _ _ => pts_nil) (fun _ _ _ _ _ => (pe_callTy (call_tuple_ofK (K := K) rfl) (by rfl) T.b_tuple (by decide +kernel) (pa_cons (pe_lc (own := [("_law_mark", 18)]) (by rfl) nd (pi_listK (K := K) rfl (pv 15)) (blkOk_by (own := [("_law_mark", 18)]) (N := nm_law) (sc := relS { kind := .function, names := [(".0", .local), ("_law_some", .local), ("tuple", .globalImplicit)], isGenerator := false, isCoroutine := false, more := [] } (defScope s_law)) (by decide +kernel)) (fun _ _ _ _ _ => pg_name (i := 18) nd rfl (.inl rfl)) (fun _ _ _ _ _ => pts_nil) (fun _ _ _ _ _ => (pe_op op_sub pe_int (pv 18)))) pa_nil)))) (pe_has h__law_pick (hr.mono (by omega)) (by rfl) (pa_cons (pv 1) (pa_cons (pe_lst (pa_cons pe_int (pa_cons (pe_un un_neg pe_int) pa_nil))) pa_nil)))))
    (C8.pss_cut (ps_if (pt_cmpR op_eq (pv 3) pe_int (nomark _)) (pss_one (ps_set (i := 9) nd rfl (.inr rfl) (pe_has h__law_drawn (hr.mono (by omega)) (by rfl) (pa_cons (pv 1) (pa_cons (pv 7) pa_nil))))) pss_nil)
    (C8.pss_cut (ps_if (PW.pt (pw_and (pt_cmpR op_eq (pv 3) pe_int (nomark _)) (pw_and1 (pt_cmpR op_lt (pv 6) (pv 5) (nomark _))))) (pss_cons (ps_set (i := 10) nd rfl (.inr rfl) (pe_lc (own := [("_law_clause", 16)]) (by rfl) nd (pi_list (pv 9)) (blkOk_by (own := [("_law_clause", 16)]) (N := nm_law) (sc := defScope s_law) (by decide +kernel)) (fun _ _ _ _ _ => pg_name (i := 16) nd rfl (.inr rfl)) (fun _ _ _ _ _ => pts_nil) (fun _ _ _ _ _ => (pe_lc (own := [("_law_mark", 18)]) (by rfl) nd (pi_listK (K := K) rfl (pv 7)) (blkOk_by (own := [("_law_mark", 18)]) (N := nm_law) (sc := relS { kind := .function, names := [(".0", .local), ("_law_clause", .cell), ("_law_marks_here", .free)], isGenerator := false, isCoroutine := false, more := [] } (defScope s_law)) (by decide +kernel)) (fun _ _ _ _ _ => pg_name (i := 18) nd rfl (.inl rfl)) (fun _ _ _ _ _ => pts_one (pt_cmpR (op_notInK (K := K) rfl) (pe_op op_sub pe_int (pv 18)) (pv 16) (by rfl))) (fun _ _ _ _ _ => (pv 18))))))
    (pss_cons (ps_set (i := 11) nd rfl (.inr rfl) (pe_has h__law_draw (hr.mono (by omega)) (by rfl) (pa_cons (pv 1) (pa_cons (pv 5) pa_nil))))
    (pss_one (ps_set (i := 9) nd rfl (.inr rfl) (pe_lc (own := [("_law_k", 17)]) (by rfl) nd (pi_range1 (by rfl) T.b_range (pa_cons (pe_callB call_len_seq (by rfl) T.b_len (by decide +kernel) (pa_cons (pv 9) pa_nil)) pa_nil)) (blkOk_by (own := [("_law_k", 17)]) (N := nm_law) (sc := defScope s_law) (by decide +kernel)) (fun _ _ _ _ _ => pg_name (i := 17) nd rfl (.inl rfl)) (fun _ _ _ _ _ => pts_nil) (fun _ _ _ _ _ => (pe_op (op_catAK (K := K) rfl) (pe_ix (ix_listK (K := K) rfl) (pv 9) (pv 17) (fun _ _ => rfl)) (pe_callTy (call_tuple_ofK (K := K) rfl) (by rfl) T.b_tuple (by decide +kernel) (pa_cons (pe_slice (sl_listK (K := K) rfl) (pe_slice (sl_listK (K := K) rfl) (pe_ix (ix_listK (K := K) rfl) (pv 10) (pv 17) (fun _ _ => rfl)) (po_some (pe_op op_mod (pv 11) (pe_callB (call_max2 rfl) (by rfl) T.b_max (by decide +kernel) (pa_cons pe_int (pa_cons (pe_callB (len_seqK (K := K) rfl) (by rfl) T.b_len (by decide +kernel) (pa_cons (pe_ix (ix_listK (K := K) rfl) (pv 10) (pv 17) (fun _ _ => rfl)) pa_nil)) pa_nil))))) po_none) po_none (po_some pe_int)) pa_nil))))))))) pss_nil)
    (pss_cons (ps_for PassesOwn.never rfl (pi_range1 (by rfl) T.b_range (pa_cons (pv 4) pa_nil)) (pg_name (i := 12) nd rfl (.inl rfl))
      (pss_one (ps_set (i := 9) nd rfl (.inr rfl) (pe_has h__law_bent (hr.mono (by omega)) (by rfl) (pa_cons (pv 1) (pa_cons (pv 7) (pa_cons (pv 9) pa_nil)))))))
    (pss_cons (ps_set (i := 13) nd rfl (.inl rfl) (pe_lst (pa_cons (pe_callTy call_list_of (by rfl) T.b_list (by decide +kernel) (pa_cons (pv 7) pa_nil)) (pa_cons (pe_callTy call_list_of (by rfl) T.b_list (by decide +kernel) (pa_cons (pv 9) pa_nil)) pa_nil))))
    (C8.pss_cut (ps_set (i := 14) nd rfl (.inl rfl) (pe_has h_first_unlike (hr.mono (by omega)) (by rfl) (pa_cons (pe_ix ix_list (pv 13) pe_int (fun _ _ => rfl)) (pa_cons (pv 6) (pa_cons (pe_ix ix_list (pv 13) pe_int (fun _ _ => rfl)) pa_nil)))))
    (pss_cons (ps_if (pt_cmpR (op_neD hr.units) (pv 13) (pe_lst (pa_cons (pv 7) (pa_cons (pv 9) pa_nil))) (nomark _)) (pss_one (ps_ret pe_bl)) pss_nil)
    (pss_one (ps_if (pt_cmpR op_isN (pv 14) pe_non (nomark _)) (pss_one (ps_if (pt_cmpR (op_neNil hu) (pe_lc (own := [("_law_some", 15)]) (by rfl) nd (pi_list (pe_has h__law_settings (hr.mono (by omega)) (by rfl) (pa_cons (pv 7) pa_nil))) (blkOk_by (own := [("_law_some", 15)]) (N := nm_law) (sc := defScope s_law) (by decide +kernel)) (fun _ _ _ _ _ => pg_name (i := 15) nd rfl (.inl rfl)) (fun _ _ _ _ _ => pts_one (pt_val (pe_has h__law_is_unlike (hr.mono (by omega)) (by rfl) (pa_cons (pv 7) (pa_cons (pv 6) (pa_cons (pv 9) (pa_cons (pv 15) pa_nil))))))) (fun _ _ _ _ _ => (pv 15))) (pe_lst pa_nil) (nomark _)) (pss_one (ps_ret pe_bl)) pss_nil)) (pss_one (ps_if (PW.pt (pw_or (pt_not (pt_val (pe_callB call_isi (by rfl) T.b_isinstance (by decide +kernel) (pa_cons (pv 14) (pa_cons (pe_bltn (v := .ty "list") (u := .type "list") (by rfl) T.b_list (by decide +kernel) (by rfl)) pa_nil))))) (pw_or1 (pt_cmpR (op_neNil hu) (pe_lc (own := [("_law_mark", 18)]) (by rfl) nd (pi_list (pv 14)) (blkOk_by (own := [("_law_mark", 18)]) (N := nm_law) (sc := defScope s_law) (by decide +kernel)) (fun _ _ _ _ _ => pg_name (i := 18) nd rfl (.inl rfl)) (fun _ _ _ _ _ => pts_one (pt_cmpR (op_notInK (K := K) rfl) (pv 18) (pv 7) (by rfl))) (fun _ _ _ _ _ => (pv 18))) (pe_lst pa_nil) (nomark _))))) (pss_one (ps_ret pe_bl)) (pss_one (ps_if (PW.pt (pw_or (pt_cmpR op_ne (pe_lenOf (by rfl) T.b_len (by rfl) T.b_set (pv 14)) (pe_callB call_len_seq (by rfl) T.b_len (by decide +kernel) (pa_cons (pv 14) pa_nil)) (nomark _)) (pw_or1 (pt_not (pt_val (pe_has h__law_is_unlike (hr.mono (by omega)) (by rfl) (pa_cons (pv 7) (pa_cons (pv 6) (pa_cons (pv 9) (pa_cons (pv 14) pa_nil)))))))))) (pss_one (ps_ret pe_bl)) pss_nil)))))))))))))))))))
    (pss_one (ps_ret pe_bl)))), ?_⟩
    have line : (5000000 : Nat) < sizeLine := by decide
    refine ⟨_, rfl, a, ns, rfl, hS, hl, fun H1 t c ht hc sm tp => ?_⟩
    refine ⟨_, rfl, a, _, rfl, .inl (sm.seq hS), _, _, rfl, _, _, rfl, rfl, _, rfl, ?_, ?_, for_range (lo := 0) (fun i σ H2 => ∃ v2 v3 v4 v5 v6 v7 v8 v9 v10 v11 v12 v13 v14, σ = [some (.ref a), some (.ref t), v2, v3, v4, v5, v6, v7, v8, v9, v10, v11, v12, v13, v14, none, none, none, none] ∧ Tape H2 t c (2000 * i)) ⟨none, none, none, none, none, none, none, none, none, none, none, none, none, rfl, tp⟩ ?_ ?_⟩
    · split <;> omega
    · split <;> omega
    rotate_left
    · rintro σ H' _
      exact k H'
    rintro i σ H2 hi ⟨v2, v3, v4, v5, v6, v7, v8, v9, v10, v11, v12, v13, v14, rfl, tp2⟩
    have hi2 : i < 8 := by split at hi <;> omega
    refine ⟨_, rfl, t, c, 6, _, rfl, tp2, by omega, by decide, pow8000 (by decide), fun H3 r3 a3 b3 tp3 kp3 => ⟨_, rfl, t, c, 4, _, rfl, tp3, by omega, by decide, pow8000 (by decide), fun H4 r4 a4 b4 tp4 kp4 => ⟨_, rfl, by show 8 ≤ sizeLine; decide, fun L nL => ⟨t, c, L, _, _, rfl, tp4.new nL, by omega, fun H' kp => .inl (SqL.of (kp L _ upd_same (tp4.fresh nL))), by show 0 < 8; decide, by show 8 ≤ 1000000; decide, fun H5 i5 v5' g5 tp5 kp5 => ?_⟩⟩⟩⟩
    obtain ⟨z5, rfl, m5⟩ := pick_int (zs := [1, 2, 3, 4, 5, 6, 6, 8]) g5
    have zb : 1 ≤ z5 ∧ z5 ≤ 8 := by
      simp only [List.mem_cons, List.not_mem_nil, or_false] at m5
      omega
    obtain ⟨mn, rfl⟩ : ∃ mn : Nat, z5 = (mn : Int) := ⟨z5.toNat, by omega⟩
    obtain ⟨bn, rfl⟩ : ∃ bn : Nat, r4 = (bn : Int) := ⟨r4.toNat, by omega⟩
    refine ⟨_, _, _, rfl, ?_⟩
    refine ⟨_, rfl, _, rfl, _, _, rfl, rfl, t, c, _, _, rfl, tp5, by omega, by omega, pow8000 (by omega), fun H6 r6 a6 b6 tp6 kp6 => ?_⟩
    obtain ⟨mo, rfl⟩ : ∃ mo : Nat, r6 = (mo : Int) := ⟨r6.toNat, by omega⟩
    clear kp3 kp4 kp5 kp6 tp3 tp4 tp5 g5 m5 nL
    -- twelve marks
    refine ⟨P1 a t c (2000 * i + 10), ?_, ?_⟩
    · refine ⟨_, rfl, rfl, _, rfl, ite2 (fun _ => ⟨_, rfl, rfl, _, rfl, ite2 (fun _ => ?_) (fun _ => ?_)⟩) (fun _ => iteF ?_)⟩
      · refine ⟨_, rfl, by show 4 ≤ sizeLine; decide, fun L nL => ⟨t, c, L, _, _, rfl, tp6.new nL, by omega, fun H' kp => .inl (SqL.of (kp L _ upd_same (tp6.fresh nL))), by show 0 < 4; decide, by show 4 ≤ 1000000; decide, fun H7 i7 v7' g7 tp7 kp7 => ?_⟩⟩
        obtain ⟨z7, rfl, m7⟩ := pick_int (zs := [0, 1, 11, 12]) g7
        have zb7 : 0 ≤ z7 ∧ z7 ≤ 12 := by
          simp only [List.mem_cons, List.not_mem_nil, or_false] at m7
          omega
        obtain ⟨mo', rfl⟩ : ∃ mo : Nat, z7 = (mo : Int) := ⟨z7.toNat, by omega⟩
        refine ⟨by show 2 ≤ sizeLine; decide, fun p np => ⟨p, _, rfl, SqT.of upd_same, rfl, _, _, rfl, _, _, rfl, rfl, ?_⟩⟩
        exact ⟨_, _, bn, 12, mo', _, _, _, _, _, _, _, _, rfl, (tp7.new np).le (by omega), by omega, by decide, by decide, by omega⟩
      · exact ⟨_, _, bn, mn, mo, _, _, _, _, _, _, _, _, rfl, tp6.le (by omega), by omega, by omega, by omega, by omega⟩
      · exact ⟨_, _, bn, mn, mo, _, _, _, _, _, _, _, _, rfl, tp6.le (by omega), by omega, by omega, by omega, by omega⟩
    clear tp6 a6 b6 zb a4 b4 tp2
    rintro σ H3 ⟨i', wy, bn, mn, mo, v7, v8, v9, v10, v11, v12, v13, v14, rfl, tp3, hb, m1, m12, hmo⟩
    refine ⟨_, rfl, _, rfl, t, c, (mn : Int), _, rfl, tp3, by omega, by omega, by omega, fun H4 M ms nM hM lm un lim tp4 kp4 => ?_⟩
    have lm2 : ms.length = mn := by omega
    subst lm2
    have un := un_n un
    have tp4 := tp4.le (show 2000 * i + 10 + 110 ≤ 2000 * i + 120 by omega)
    clear kp4 tp3 nM
    -- all on
    refine ⟨_, rfl, M, ms, rfl, SqL.of hM, m12, fun H5 D qs s5 nD hLs => ⟨D, rfl, ⟨_, SqL.of hLs.l⟩, fun Z nZ => lc_subL (SqL.of hLs.l) nZ ?_ (fun x => rfl) (fun j x hx H' s' R g => ?_) (fun x H' R g => ⟨_, rfl, g⟩) (fun H6 ys s6 hZ iy ly => ?_)⟩⟩
    · rw [List.length_map, hLs.n, allS_len]
      have := pow_le m12
      omega
    · obtain ⟨q, l, rfl, hq, hl2, hql⟩ := hLs.at hx
      exact ⟨_, rfl, q, _, rfl, .inl (SqL.of (s' _ _ hql)), _, rfl, _, _, rfl, rfl, rfl, _, rfl, g _⟩
    have hM6 := s6 _ _ (s5 _ _ hM)
    have tp6 := (tp4.same s5).same s6
    have ly2 : ys.length ≤ 4096 := by
      rw [List.length_map, hLs.n, allS_len] at ly
      have := pow_le m12
      omega
    have inys : ∀ y ∈ ys, ∃ q l, y = .ref q ∧ H6 q = some (.lst ((l : List Int).map V.int)) ∧ l.length ≤ 12 ∧ ∀ m ∈ l, m ∈ ms := fun y hy => by
      obtain ⟨j, hj, e⟩ := List.getElem_of_mem (iy y hy)
      obtain ⟨q, l, e1, hq, hl2, hql⟩ := hLs.at (List.getElem?_eq_getElem hj)
      refine ⟨q, l, by rw [← e, e1], s6 _ _ hql, ?_⟩
      unfold allS at hl2
      rw [List.getElem?_map] at hl2
      cases er : (List.range (2 ^ ms.length))[j]? with
      | none => rw [er] at hl2; cases hl2
      | some s' =>
        rw [er] at hl2
        cases hl2
        refine ⟨?_, fun m hm => subN_in (Nat.le_refl _) hm⟩
        rw [subN_len]
        have := popN_le ms.length s'
        omega
    clear iy ly tp4 hLs nZ nD s5 s6 hM
    -- as clauses
    refine ⟨_, rfl, Z, rfl, ⟨_, SqL.of hZ⟩, fun D2 nD2 => lc_relL (fun j y H'' => Cl H'' ms 12 y) (fun j y H1 H2 h s' => h.kt (KT.same s')) (fun j y H1 l' o hz h => h.kt (KT.lst hz)) (SqL.of hZ) nD2 (by omega) (fun x => rfl) (fun j x hx H' s' R g => ?_) (fun H7 zs s7 hD2 lz rz => ?_)⟩
    · obtain ⟨q, l, rfl, hq, ll, il⟩ := inys x (List.mem_of_getElem? hx)
      have hq' := s' _ _ hq
      refine ⟨_, rfl, q, rfl, ⟨_, SqL.of hq'⟩, fun D3 nD3 => lc_sel_list (fun _ => true) zV (SqL.of hq') nD3 (by rw [List.length_map]; omega) (fun x hm => ?_) fun H8 s8 h8 => ⟨D3, _, rfl, .inl ⟨SqL.of h8, fun r nr => ?_⟩⟩⟩
      · obtain ⟨m', _, rfl⟩ := List.mem_map.mp hm
        exact ⟨rfl, fun H' s' R g => g H' (Same.refl _), fun _ H' s' R g => ⟨_, rfl, _, _, rfl, rfl, g H' (Same.refl _)⟩⟩
      · refine g _ _ (s8.trans (same_new nr)) ⟨r, l.map (fun m => 0 - m), rfl, ?_, fun m hm => ?_, by rw [List.length_map]; exact ll⟩
        · rw [upd_same, filter_all, List.map_map, List.map_map]
          rfl
        · obtain ⟨m', hm', rfl⟩ := List.mem_map.mp hm
          exact .inr (by rw [show -(0 - m') = m' by omega]; exact il m' hm')
    have tp7 := tp6.same s7
    have hM7 := s7 _ _ hM6
    have cl7 : ClA H7 ms 12 zs := fun v hv => by
      obtain ⟨j, hj, e⟩ := List.getElem_of_mem hv
      exact rz j v (by rw [List.getElem?_eq_getElem hj, e])
    clear rz inys hZ tp6 hM6 s7
    refine ⟨_, rfl, _, rfl, by show 2 ≤ sizeLine; decide, fun L nL => ⟨t, c, L, _, _, rfl, tp7.new nL, by omega, fun H' kp => .inl (SqL.of (kp L _ upd_same (tp7.fresh nL))), by show 0 < 2; decide, by show 2 ≤ 1000000; decide, fun H8 i8 v8' g8 tp8 kp8 => ?_⟩⟩
    obtain ⟨z8, rfl, m8⟩ := pick_int (zs := [1, -1]) g8
    have z8b : z8 = 1 ∨ z8 = -1 := by
      simp only [List.mem_cons, List.not_mem_nil, or_false] at m8
      exact m8
    have k78 : Kp t H7 H8 := (Kp.new nL).trans kp8
    have hD8 := tp7.sq hD2 k78
    have hM8 := tp7.sq hM7 k78
    refine ⟨z8, rfl, D2, zs, z8, rfl, rfl, z8b, SqL.of hD8, fun L2 nL2 => ?_⟩
    have cl8 : ClA (upd H8 L2 (.lst (stpV zs z8))) ms 12 (stpV zs z8) := fun v hv => by
      have hv2 : v ∈ zs := by
        unfold stpV at hv
        split at hv
        · exact hv
        · exact List.mem_reverse.mp hv
      exact ((cl7 v hv2).kt (KT.kp tp7 k78)).kt (KT.new nL2)
    have lst8 : (stpV zs z8).length ≤ 4096 := by
      unfold stpV
      split
      · omega
      · rw [List.length_reverse]
        omega
    have hL9 : (upd H8 L2 (.lst (stpV zs z8))) L2 = some (.lst (stpV zs z8)) := upd_same
    have hM9 := same_new nL2 (o := .lst (stpV zs z8)) _ _ hM8
    have tp9 := tp8.new nL2 (o := .lst (stpV zs z8))
    generalize upd H8 L2 (.lst (stpV zs z8)) = H9 at cl8 hL9 hM9 tp9 ⊢
    generalize stpV zs z8 = ws at cl8 hL9 lst8 ⊢
    clear tp7 tp8 kp8 k78 hD8 hM8 hD2 hM7 cl7 lz nD2 g8 m8 z8b
    -- drawn
    refine ⟨P2 a t c (2000 * i + 300) 12 5000, ?_, ?_⟩
    · refine ⟨_, rfl, rfl, _, rfl, ite2 (fun _ => ?_) (fun _ => ?_)⟩
      · refine ⟨_, rfl, _, rfl, t, c, M, ms, _, rfl, tp9, by omega, hM9, m12, fun H10 D4 ws' tp10 kp10 hD4 lw cw => ?_⟩
        exact ⟨_, _, bn, mo, ms, M, D4, ws', _, _, _, _, _, _, rfl, tp10.le (by omega), hb, m1, m12, hmo, un, tp9.sq hM9 kp10, hD4, by omega, cw⟩
      · exact ⟨_, _, bn, mo, ms, M, L2, ws, _, _, _, _, _, _, rfl, tp9.le (by omega), hb, m1, m12, hmo, un, hM9, hL9, by omega, cl8⟩
    clear tp9 hM9 hL9 cl8 lst8 un m1 m12 hmo hb
    rintro σ H3 ⟨i', wy, bn, mo, ms, M, L, vs, v8, v10, v11, v12, v13, v14, rfl, tp3, hb, m1, m12, hmo, un, hM, hL, lv, cl⟩
    refine ⟨P2 a t c (2000 * i + 310) 13 5000, ?_, ?_⟩
    · refine ⟨_, rfl, rfl, _, rfl, ite2 (fun _ => ⟨_, rfl, _, rfl, _, _, rfl, rfl, _, rfl, ite2 (fun _ => ?_) (fun _ => ?_)⟩) (fun _ => iteF ?_)⟩
      · refine ⟨_, rfl, L, rfl, ⟨_, SqL.of hL⟩, fun Z nZ => lc_relD (fun j y H'' => ∃ q l, y = .ref q ∧ q ≠ Z ∧ H'' q = some (.lst ((l : List Int).map V.int)) ∧ l.length ≤ 12 ∧ ∀ m ∈ l, m ∈ ms) (fun j y H1 H2 ⟨q, l, e, ne, h1, h2⟩ s' => ⟨q, l, e, ne, s' _ _ h1, h2⟩) (fun j y H1 l' o hZ ⟨q, l, e, ne, h1, h2⟩ => ⟨q, l, e, ne, by rw [upd_ne ne]; exact h1, h2⟩) (SqL.of hL) nZ (by omega) (fun x => rfl) (fun j x hx H' s' hz R g => ?_) (fun H4 ys s4 hZ ly ry => ?_)⟩
        · obtain ⟨q, c', rfl, hq, ic, lc⟩ := (cl x (List.mem_of_getElem? hx)).kt (KT.same s')
          obtain ⟨lz, hz⟩ := hz
          have hM' := s' _ _ hM
          refine ⟨_, rfl, M, rfl, ⟨_, SqL.of hM'⟩, fun D3 nD3 => lc_sel_list (fun x => match x with | .int m => !decide (0 - m ∈ c') | _ => false) (fun x => x) (SqL.of hM') nD3 (by rw [List.length_map]; omega) (fun x hm => ?_) fun H5 s5 h5 => g _ _ s5 ⟨D3, ms.filter (fun m => !decide (0 - m ∈ c')), rfl, (ne_of_none hz nD3).symm, ?_, Nat.le_trans (List.length_filter_le _ _) m12, fun m hm => (List.mem_filter.mp hm).1⟩⟩
          · obtain ⟨m', _, rfl⟩ := List.mem_map.mp hm
            refine ⟨rfl, fun H'' s'' R g => ⟨_, rfl, _, _, rfl, rfl, _, rfl, q, _, rfl, .inr (SqT.of (s'' _ _ hq)), rfl, flat_l c', _, rfl, ?_⟩, fun _ H'' s'' R g => ⟨_, rfl, g H'' (Same.refl _)⟩⟩
            show R (!(inV (V.int (0 - m')) (c'.map V.int))) H''
            rw [inV_l]
            exact g H'' (Same.refl _)
          · rw [h5, List.map_id', List.filter_map]
            rfl
        have tp4 := tp3.same s4
        have hM4 := s4 _ _ hM
        have hL4 := s4 _ _ hL
        have cl4 := cl.kt (KT.same s4)
        clear tp3 hM hL cl s4 nZ
        refine ⟨_, rfl, _, rfl, t, c, (ms.length : Int), _, rfl, tp4, by omega, by omega, pow8000 (by omega), fun H5 r5 a5 b5 tp5 kp5 => ?_⟩
        obtain ⟨pt, rfl⟩ : ∃ pt : Nat, r5 = (pt : Int) := ⟨r5.toNat, by omega⟩
        have hZ5 := tp4.sq hZ kp5
        have hM5 := tp4.sq hM4 kp5
        have hL5 := tp4.sq hL4 kp5
        have cl5 := cl4.kt (KT.kp tp4 kp5)
        have ry5 : ∀ (j : Nat) y, ys[j]? = some y → ∃ q l, y = .ref q ∧ H5 q = some (.lst ((l : List Int).map V.int)) ∧ l.length ≤ 12 ∧ ∀ m ∈ l, m ∈ ms := fun j y hy => by
          obtain ⟨q, l, e, _, h1, h2, h3⟩ := ry j y hy
          exact ⟨q, l, e, tp4.sq h1 kp5, h2, h3⟩
        clear ry tp4 hM4 hL4 cl4 hZ kp5
        refine ⟨_, rfl, L, _, rfl, .inl (SqL.of hL5), _, rfl, by omega, by omega, fun D nD => lc_relR (lo := 0) (fun j y H'' => Cl H'' ms 13 y) (fun j y H1 H2 h s' => h.kt (KT.same s')) (fun j y H1 l' o hz h => h.kt (KT.lst hz)) nD (by omega) (fun x => rfl) (fun j hj H' s' R g => ?_) (fun H6 zs s6 hD lz rz => ?_)⟩
        · have hj2 : j < vs.length := by omega
          obtain ⟨q, c', eq, hq, ic, lc⟩ := (cl5 _ (List.getElem_mem hj2)).kt (KT.same s')
          have hat : atI vs (0 + (j : Int)) = some (.ref q) := at_of (j := j) (by omega) (by rw [List.getElem?_eq_getElem hj2, eq])
          obtain ⟨q2, l, eq2, hq2, ll, il⟩ := ry5 j _ (List.getElem?_eq_getElem (by omega))
          have hat2 : atI ys (0 + (j : Int)) = some (.ref q2) := at_of (j := j) (by omega) (by rw [List.getElem?_eq_getElem (by omega), eq2])
          have hq2' := s' _ _ hq2
          obtain ⟨m, em, m0⟩ : ∃ m : Int, (if (((l.map V.int).length : Nat) : Int) > 1 then (((l.map V.int).length : Nat) : Int) else 1) = m ∧ 0 < m := ⟨_, rfl, by split <;> omega⟩
          refine ⟨_, rfl, _, rfl, L, _, _, _, rfl, rfl, SqL.of (s' _ _ hL5), hat, _, rfl, _, rfl, Z, _, _, _, rfl, rfl, SqL.of (s' _ _ hZ5), hat2, _, rfl, _, rfl, _, rfl, Z, _, _, _, rfl, rfl, SqL.of (s' _ _ hZ5), hat2, q2, _, rfl, .inl (SqL.of hq2'), _, _, rfl, _, _, rfl, rfl, ?_, _, rfl, q2, _, rfl, SqL.of hq2', fun p1 n1 => ⟨1, rfl, p1, _, rfl, SqL.of upd_same, fun p2 n2 => ⟨p2, _, rfl, .inl ⟨SqL.of upd_same, fun r nr => tup_cat (same_new nr _ _ (same_new n2 _ _ (same_new n1 _ _ hq))) upd_same ?_ fun Hx rx sx hx => ?_⟩⟩⟩⟩
          · rw [em]
            exact m0
          · show _ + (cutV _ none (some ((1 : Nat) : Int))).length ≤ _
            rw [cut_0j, List.length_take, List.length_map]
            omega
          · obtain ⟨l1, e1, i1⟩ := cut_sub l (some ((pt : Int) % m)) none
            have ec : cutV (cutV (l.map V.int) (some ((pt : Int) % m)) none) none (some 1) = (l1.take 1).map V.int := by
              rw [e1]
              show cutV _ none (some ((1 : Nat) : Int)) = _
              rw [cut_0j, List.map_take]
            refine g _ _ ((same_new n1).trans ((same_new n2).trans ((same_new nr).trans sx))) ⟨rx, c' ++ l1.take 1, rfl, ?_, fun y hy => ?_, ?_⟩
            · rw [hx, List.map_append, ← ec, ← em]
            · rcases List.mem_append.mp hy with z | z
              · exact ic y z
              · exact .inl (il y (i1 y (List.mem_of_mem_take z)))
            · rw [List.length_append, List.length_take]
              omega
        · refine ⟨_, _, bn, mo, ms, M, D, zs, _, _, _, _, _, _, rfl, (tp5.same s6).le (by omega), hb, m1, m12, hmo, un, s6 _ _ hM5, hD, by omega, fun v hv => ?_⟩
          obtain ⟨j, hj, e⟩ := List.getElem_of_mem hv
          exact rz j v (by rw [List.getElem?_eq_getElem hj, e])
      · exact ⟨_, _, bn, mo, ms, M, L, vs, _, _, _, _, _, _, rfl, tp3.le (by omega), hb, m1, m12, hmo, un, hM, hL, lv, cl.up (by omega)⟩
      · exact ⟨_, _, bn, mo, ms, M, L, vs, _, _, _, _, _, _, rfl, tp3.le (by omega), hb, m1, m12, hmo, un, hM, hL, lv, cl.up (by omega)⟩
    clear tp3 hb m1 m12 hmo un hM hL lv cl
    rintro σ H3 ⟨i', wy, bn, mo, ms, M, L, vs, v8, v10, v11, v12, v13, v14, rfl, tp3, hb, m1, m12, hmo, un, hM, hL, lv, cl⟩
    -- bent
    refine ⟨_, rfl, (bn : Int), rfl, by omega, by omega, for_range (lo := 0) (fun k2 σ H' => ∃ (v12 : Option V) (L : Addr) (vs : List V), σ = [some (.ref a), some (.ref t), some (.int i'), some (.int wy), some (.int bn), some (.int ms.length), some (.int mo), some (.ref M), v8, some (.ref L), v10, v11, v12, v13, v14, none, none, none, none] ∧ Tape H' t c (2000 * i + 310 + 5 * k2) ∧ H' M = some (.lst (ms.map V.int)) ∧ H' L = some (.lst vs) ∧ vs.length ≤ 5000 + 2 * k2 ∧ ClA H' ms (13 + k2) vs)
      ⟨v12, L, vs, rfl, tp3, hM, hL, lv, cl⟩ ?_ ?_⟩
    · rintro k2 σ H4 hk ⟨v12, L, vs, rfl, tp4, hM4, hL4, lv4, cl4⟩
      have hk2 : k2 < 3 := by omega
      refine ⟨_, rfl, _, rfl, _, rfl, t, c, M, L, ms, 13 + k2, _, vs, rfl, tp4, by omega, hM4, m1, m12, by omega, hL4, by omega, cl4, fun H5 D ws tp5 kp5 hD lw cw => ?_⟩
      exact ⟨_, D, ws, rfl, tp5.le (by omega), tp4.sq hM4 kp5, hD, by omega, cw⟩
    clear tp3 hM hL lv cl vs L v12
    rintro σ H4 ⟨v12, L, vs, rfl, tp4, hM4, hL4, lv4, cl4⟩
    have bn3 : ((bn : Nat) : Int).toNat ≤ 3 := by omega
    obtain ⟨qs, cs, hC, hin, lcs, evs⟩ := cl4.cs hL4
    subst evs
    clear cl4
    have lqs := lv4
    rw [List.length_map] at lqs
    refine ⟨_, rfl, M, _, rfl, .inl (SqL.of hM4), fun h0 n0 => ⟨_, rfl, L, _, rfl, .inl (SqL.of (same_new n0 _ _ hL4)), fun h1 n1 => ⟨by show 2 ≤ sizeLine; decide, fun Hd nH => ?_⟩⟩⟩
    have s5 := (same_new n0 (o := .lst (ms.map V.int))).trans ((same_new n1 (o := .lst (qs.map V.ref))).trans (same_new nH (o := .lst [V.ref h0, .ref h1])))
    have hh0 := same_new nH (o := .lst [V.ref h0, .ref h1]) _ _ (same_new n1 (o := .lst (qs.map V.ref)) _ _ (upd_same : (upd H4 h0 (.lst (ms.map V.int))) h0 = some (.lst (ms.map V.int))))
    have hh1 := same_new nH (o := .lst [V.ref h0, .ref h1]) _ _ (upd_same : (upd (upd H4 h0 (.lst (ms.map V.int))) h1 (.lst (qs.map V.ref))) h1 = some (.lst (qs.map V.ref)))
    have hhd : (upd (upd (upd H4 h0 (.lst (ms.map V.int))) h1 (.lst (qs.map V.ref))) Hd (.lst [V.ref h0, .ref h1])) Hd = some (.lst [V.ref h0, .ref h1]) := upd_same
    have tp5 := tp4.same s5
    have hM5 := s5 _ _ hM4
    have hC5 := hC.same s5
    generalize upd (upd (upd H4 h0 (.lst (ms.map V.int))) h1 (.lst (qs.map V.ref))) Hd (.lst [V.ref h0, .ref h1]) = H5 at s5 hh0 hh1 hhd tp5 hM5 hC5 ⊢
    have hC1 : Cs H5 h1 qs cs := ⟨hh1, hC5.n, hC5.t⟩
    clear s5 n0 n1 nH tp4 hM4 hL4 hC lv4
    -- the program's answer
    refine ⟨fun σ' H' => ∃ fv, σ' = [some (.ref a), some (.ref t), some (.int i'), some (.int wy), some (.int bn), some (.int ms.length), some (.int mo), some (.ref M), v8, some (.ref L), v10, v11, v12, some (.ref Hd), some fv, none, none, none, none] ∧ Same H5 H' ∧
      ((fv = .non ∧ ∀ s, s < 2 ^ ms.length → unlL ms mo cs (subN ms ms.length s) = false) ∨ ∃ D s, fv = .ref D ∧ H' D = some (.lst ((subN ms ms.length s).map V.int)) ∧ unlL ms mo cs (subN ms ms.length s) = true), ?_, ?_⟩
    · refine ⟨_, rfl, Hd, _, _, _, rfl, rfl, SqL.of hhd, at_of (j := 0) rfl rfl, _, rfl, _, rfl, Hd, _, _, _, rfl, rfl, SqL.of hhd, at_of (j := 1) rfl rfl, h0, h1, ms, mo, qs, cs, rfl, SqL.of hh0, un, m12, hC1, hin, fun H6 s6 hn => ?_, fun H6 D s' s6 nD hD hs hun => ?_⟩
      · exact ⟨.non, rfl, s6, .inl ⟨rfl, hn⟩⟩
      · exact ⟨.ref D, rfl, s6, .inr ⟨D, s', rfl, hD, hun⟩⟩
    rintro σ H6 ⟨fv, rfl, s6, hf⟩
    have tp6 := tp5.same s6
    have hM6 := s6 _ _ hM5
    have hC6 := hC5.same s6
    refine ⟨_, rfl, _, rfl, _, rfl, by show 2 ≤ sizeLine; decide, fun X nX => ?_⟩
    have s7 := s6.trans (same_new nX (o := .lst [V.ref M, .ref L]))
    refine ⟨.list [lstD ms, lstT cs], .list [lstD ms, lstT cs], .lst (SqL.of (s7 _ _ hhd)) (.cons (dp_lst (s7 _ _ hh0)) (.cons (.lst (SqL.of (s7 _ _ hh1)) (dp_tups hC5.n (hC5.same s7).t)) .nil)), .lst (SqL.of upd_same) (.cons (dp_lst (s7 _ _ hM5)) (.cons (.lst (SqL.of (hC5.same s7).l) (dp_tups hC5.n (hC5.same s7).t)) .nil)), shape_two ms cs, shape_two ms cs, _, rfl, ?_⟩
    rw [SeqAt.eqv_refl _ (lay_two ms cs)]
    refine iteF ?_
    have tp7 := tp5.same s7
    have hM7 := s7 _ _ hM5
    have hC7 := hC5.same s7
    have hf7 : (fv = .non ∧ ∀ s, s < 2 ^ ms.length → unlL ms mo cs (subN ms ms.length s) = false) ∨ ∃ D s, fv = .ref D ∧ (upd H6 X (.lst [V.ref M, .ref L])) D = some (.lst ((subN ms ms.length s).map V.int)) ∧ unlL ms mo cs (subN ms ms.length s) = true := hf.imp id fun ⟨D, s', e, hD, hun⟩ => ⟨D, s', e, same_new nX _ _ hD, hun⟩
    generalize upd H6 X (.lst [V.ref M, .ref L]) = H7 at tp7 hM7 hC7 hf7 ⊢
    clear hf tp6 hM6 hC6 tp5 hM5 hC5 hh0 hh1 hhd hC1 s6 s7 nX
    have wide : ∀ c ∈ cs, c.length ≤ 100000 := fun c hc => by
      have := lcs c hc
      omega
    rcases hf7 with ⟨rfl, hn⟩ | ⟨D, s', rfl, hD, hun⟩
    · -- none is unlike
      refine ⟨_, rfl, rfl, _, rfl, iteT ?_⟩
      refine ⟨_, rfl, M, ms, rfl, SqL.of hM7, m12, fun H8 Y ps s8 nY hLs => ⟨Y, rfl, ⟨_, SqL.of hLs.l⟩, fun Z nZ => lc_sel_list (fun _ => false) (fun x => x) (SqL.of hLs.l) nZ ?_ (fun x hm => ?_) fun H9 s9 h9 => ?_⟩⟩
      · rw [List.length_map, hLs.n, allS_len]
        have := pow_le m12
        omega
      · obtain ⟨j, hj, e⟩ := List.getElem_of_mem hm
        obtain ⟨q, l, e1, hq, hl2, hql⟩ := hLs.at (List.getElem?_eq_getElem hj)
        rw [e] at e1
        subst e1
        refine ⟨rfl, fun H' s2 R g => ⟨_, rfl, _, rfl, _, rfl, _, rfl, M, L, q, ms, mo, qs, cs, l, rfl, SqL.of (s2 _ _ (s8 _ _ hM7)), by omega, (hC7.same s8).same s2, wide, SqL.of (s2 _ _ hql), fun H'' s3 => ⟨_, rfl, ?_⟩⟩, fun h => absurd h Bool.false_ne_true⟩
        have el : unlL ms mo cs l = false := by
          unfold allS at hl2
          rw [List.getElem?_map] at hl2
          cases er : (List.range (2 ^ ms.length))[j]? with
          | none => rw [er] at hl2; cases hl2
          | some s4 =>
            rw [er] at hl2
            cases hl2
            have := List.mem_range.mp (List.mem_of_getElem? er)
            exact hn s4 this
        rw [el]
        exact g H'' s3
      · rw [none_left] at h9
        refine ⟨by show 0 ≤ sizeLine; decide, fun N hN => ⟨Z, N, _, rfl, rfl, SqL.of (same_new hN _ _ h9), SqL.of upd_same, _, rfl, iteF ?_⟩⟩
        exact ⟨_, _, _, _, _, _, _, _, _, _, _, _, _, rfl, ((tp7.same (s8.trans s9)).same (same_new hN)).le (by omega)⟩
    · -- one that is
      refine ⟨_, rfl, rfl, _, rfl, iteF ?_⟩
      have ne : (subN ms ms.length s').length ≤ 12 := by
        rw [subN_len]
        have := popN_le ms.length s'
        omega
      refine ⟨_, rfl, _, .ty "list", _, _, _, rfl, .ty _, .base (.lst hD), kt_list, _, rfl, iteF ?_⟩
      refine ⟨_, rfl, D, rfl, ⟨_, SqL.of hD⟩, fun Z nZ => lc_sel_list (fun _ => false) (fun x => x) (SqL.of hD) nZ (by rw [List.length_map]; omega) (fun x hm => ?_) fun H9 s9 h9 => ?_⟩
      · obtain ⟨m', hm', rfl⟩ := List.mem_map.mp hm
        refine ⟨rfl, fun H'' s'' R g => ⟨_, rfl, _, rfl, M, _, rfl, .inl (SqL.of (s'' _ _ hM7)), rfl, flat_l ms, _, rfl, ?_⟩, fun h => absurd h Bool.false_ne_true⟩
        show R (!(inV (V.int m') (ms.map V.int))) H''
        rw [inV_l, decide_eq_true (subN_in (Nat.le_refl _) hm')]
        exact g H'' (Same.refl _)
      · rw [none_left] at h9
        refine ⟨by show 0 ≤ sizeLine; decide, fun N hN => ⟨Z, N, _, rfl, rfl, SqL.of (same_new hN _ _ h9), SqL.of upd_same, _, rfl, ?_⟩⟩
        refine iteF ?_
        have sN := s9.trans (same_new hN (o := .lst []))
        refine ⟨_, rfl, D, _, rfl, SqL.of (sN _ _ hD), by omega, _, rfl, D, _, rfl, .inl (SqL.of (sN _ _ hD)), rfl, _, rfl, ?_⟩
        rw [(many_nodup _).mpr (subN_nodup un _ _ (Nat.le_refl _)), List.length_map]
        refine iteNS rfl ?_
        refine ⟨_, rfl, _, rfl, _, rfl, _, rfl, M, L, D, ms, mo, qs, cs, _, rfl, SqL.of (sN _ _ hM7), by omega, hC7.same sN, wide, SqL.of (sN _ _ hD), fun H'' s3 => ?_⟩
        rw [hun]
        refine ⟨_, rfl, iteF ?_⟩
        exact ⟨_, _, _, _, _, _, _, _, _, _, _, _, _, rfl, ((tp7.same sN).same s3).le (by omega)⟩
theorem at_law {f : Addr} {fd : FuncData} (F : Fun K "law" "law" s_law f fd) (T : Top K mg) : RunAt P w K mg base f fd ["_law_script"] (spLaw K) :=
  have d := has_draw T
  have p := has_pick T d
  (ok_law F T (has_begun T) d p (has_far T d p) (has_settings T) (has_isun T) (has_drawn T d p) (has_bent T d p) (has_unlike T (has_having T) (has_atmost T))).at_ ⟨rfl, by decide, by decide⟩
end


theorem all_mk {l : PySem.W.OpenLaw} {w : World} {K : PySem.W.Frag} {h : Heap} {mg : Str → Option Value} {fa : Addr} (X : K.In h) (G : h.Ns mainGlobals mg) (hfa : mg "law" = some (.ref fa))
    {f0 : Addr} {od0 an0 : Option Addr} {sl0 : Array (Option Value)} {oc0 kV0 dc0 pm0 cd0 ct0 : Value}
    (a0 : PySem.W.nsIn K mainGlobals "first_unlike" = some (some (.ref f0))) (l0 : K.lookup f0 = some ⟨oc0, od0, .func (PySem.W.fnOf "first_unlike" "first_unlike" (defArgs s_first_unlike) (defBody s_first_unlike) (defScope s_first_unlike) .none kV0 dc0 pm0 an0 cd0 ct0), sl0⟩) (cc0 : PySem.W.codeIn K cd0 "first_unlike" = true) (k0 : PySem.W.keepIn K (.ref f0) = true)
    {f1 : Addr} {od1 an1 : Option Addr} {sl1 : Array (Option Value)} {oc1 kV1 dc1 pm1 cd1 ct1 : Value}
    (a1 : PySem.W.nsIn K mainGlobals "_settings_having" = some (some (.ref f1))) (l1 : K.lookup f1 = some ⟨oc1, od1, .func (PySem.W.fnOf "_settings_having" "_settings_having" (defArgs s__settings_having) (defBody s__settings_having) (defScope s__settings_having) .none kV1 dc1 pm1 an1 cd1 ct1), sl1⟩) (cc1 : PySem.W.codeIn K cd1 "_settings_having" = true) (k1 : PySem.W.keepIn K (.ref f1) = true)
    {f2 : Addr} {od2 an2 : Option Addr} {sl2 : Array (Option Value)} {oc2 kV2 dc2 pm2 cd2 ct2 : Value}
    (a2 : PySem.W.nsIn K mainGlobals "_settings_at_most" = some (some (.ref f2))) (l2 : K.lookup f2 = some ⟨oc2, od2, .func (PySem.W.fnOf "_settings_at_most" "_settings_at_most" (defArgs s__settings_at_most) (defBody s__settings_at_most) (defScope s__settings_at_most) .none kV2 dc2 pm2 an2 cd2 ct2), sl2⟩) (cc2 : PySem.W.codeIn K cd2 "_settings_at_most" = true) (k2 : PySem.W.keepIn K (.ref f2) = true)
    {f3 : Addr} {od3 an3 : Option Addr} {sl3 : Array (Option Value)} {oc3 kV3 dc3 pm3 cd3 ct3 : Value}
    (a3 : PySem.W.nsIn K mainGlobals "_law_begun" = some (some (.ref f3))) (l3 : K.lookup f3 = some ⟨oc3, od3, .func (PySem.W.fnOf "_law_begun" "_law_begun" (defArgs s__law_begun) (defBody s__law_begun) (defScope s__law_begun) .none kV3 dc3 pm3 an3 cd3 ct3), sl3⟩) (cc3 : PySem.W.codeIn K cd3 "_law_begun" = true) (k3 : PySem.W.keepIn K (.ref f3) = true)
    {f4 : Addr} {od4 an4 : Option Addr} {sl4 : Array (Option Value)} {oc4 kV4 dc4 pm4 cd4 ct4 : Value}
    (a4 : PySem.W.nsIn K mainGlobals "_law_draw" = some (some (.ref f4))) (l4 : K.lookup f4 = some ⟨oc4, od4, .func (PySem.W.fnOf "_law_draw" "_law_draw" (defArgs s__law_draw) (defBody s__law_draw) (defScope s__law_draw) .none kV4 dc4 pm4 an4 cd4 ct4), sl4⟩) (cc4 : PySem.W.codeIn K cd4 "_law_draw" = true) (k4 : PySem.W.keepIn K (.ref f4) = true)
    {f5 : Addr} {od5 an5 : Option Addr} {sl5 : Array (Option Value)} {oc5 kV5 dc5 pm5 cd5 ct5 : Value}
    (a5 : PySem.W.nsIn K mainGlobals "_law_pick" = some (some (.ref f5))) (l5 : K.lookup f5 = some ⟨oc5, od5, .func (PySem.W.fnOf "_law_pick" "_law_pick" (defArgs s__law_pick) (defBody s__law_pick) (defScope s__law_pick) .none kV5 dc5 pm5 an5 cd5 ct5), sl5⟩) (cc5 : PySem.W.codeIn K cd5 "_law_pick" = true) (k5 : PySem.W.keepIn K (.ref f5) = true)
    {f6 : Addr} {od6 an6 : Option Addr} {sl6 : Array (Option Value)} {oc6 kV6 dc6 pm6 cd6 ct6 : Value}
    (a6 : PySem.W.nsIn K mainGlobals "_law_marks" = some (some (.ref f6))) (l6 : K.lookup f6 = some ⟨oc6, od6, .func (PySem.W.fnOf "_law_marks" "_law_marks" (defArgs s__law_marks) (defBody s__law_marks) (defScope s__law_marks) .none kV6 dc6 pm6 an6 cd6 ct6), sl6⟩) (cc6 : PySem.W.codeIn K cd6 "_law_marks" = true) (k6 : PySem.W.keepIn K (.ref f6) = true)
    {f7 : Addr} {od7 an7 : Option Addr} {sl7 : Array (Option Value)} {oc7 kV7 dc7 pm7 cd7 ct7 : Value}
    (a7 : PySem.W.nsIn K mainGlobals "_law_settings" = some (some (.ref f7))) (l7 : K.lookup f7 = some ⟨oc7, od7, .func (PySem.W.fnOf "_law_settings" "_law_settings" (defArgs s__law_settings) (defBody s__law_settings) (defScope s__law_settings) .none kV7 dc7 pm7 an7 cd7 ct7), sl7⟩) (cc7 : PySem.W.codeIn K cd7 "_law_settings" = true) (k7 : PySem.W.keepIn K (.ref f7) = true)
    {f8 : Addr} {od8 an8 : Option Addr} {sl8 : Array (Option Value)} {oc8 kV8 dc8 pm8 cd8 ct8 : Value}
    (a8 : PySem.W.nsIn K mainGlobals "_law_is_unlike" = some (some (.ref f8))) (l8 : K.lookup f8 = some ⟨oc8, od8, .func (PySem.W.fnOf "_law_is_unlike" "_law_is_unlike" (defArgs s__law_is_unlike) (defBody s__law_is_unlike) (defScope s__law_is_unlike) .none kV8 dc8 pm8 an8 cd8 ct8), sl8⟩) (cc8 : PySem.W.codeIn K cd8 "_law_is_unlike" = true) (k8 : PySem.W.keepIn K (.ref f8) = true)
    {f9 : Addr} {od9 an9 : Option Addr} {sl9 : Array (Option Value)} {oc9 kV9 dc9 pm9 cd9 ct9 : Value}
    (a9 : PySem.W.nsIn K mainGlobals "_law_bent" = some (some (.ref f9))) (l9 : K.lookup f9 = some ⟨oc9, od9, .func (PySem.W.fnOf "_law_bent" "_law_bent" (defArgs s__law_bent) (defBody s__law_bent) (defScope s__law_bent) .none kV9 dc9 pm9 an9 cd9 ct9), sl9⟩) (cc9 : PySem.W.codeIn K cd9 "_law_bent" = true) (k9 : PySem.W.keepIn K (.ref f9) = true)
    {f10 : Addr} {od10 an10 : Option Addr} {sl10 : Array (Option Value)} {oc10 kV10 dc10 pm10 cd10 ct10 : Value}
    (a10 : PySem.W.nsIn K mainGlobals "_law_drawn" = some (some (.ref f10))) (l10 : K.lookup f10 = some ⟨oc10, od10, .func (PySem.W.fnOf "_law_drawn" "_law_drawn" (defArgs s__law_drawn) (defBody s__law_drawn) (defScope s__law_drawn) .none kV10 dc10 pm10 an10 cd10 ct10), sl10⟩) (cc10 : PySem.W.codeIn K cd10 "_law_drawn" = true) (k10 : PySem.W.keepIn K (.ref f10) = true)
    {f11 : Addr} {od11 an11 : Option Addr} {sl11 : Array (Option Value)} {oc11 kV11 dc11 pm11 cd11 ct11 : Value}
    (a11 : PySem.W.nsIn K mainGlobals "law" = some (some (.ref f11))) (l11 : K.lookup f11 = some ⟨oc11, od11, .func (PySem.W.fnOf "law" "law" (defArgs s_law) (defBody s_law) (defScope s_law) .none kV11 dc11 pm11 an11 cd11 ct11), sl11⟩) (cc11 : PySem.W.codeIn K cd11 "law" = true) (k11 : PySem.W.keepIn K (.ref f11) = true)
    (z0 : PySem.W.nsIn K mainGlobals "len" = some none)
    (z1 : PySem.W.nsIn K mainGlobals "enumerate" = some none)
    (z2 : PySem.W.nsIn K mainGlobals "range" = some none)
    (z3 : PySem.W.nsIn K mainGlobals "zip" = some none)
    (z4 : PySem.W.nsIn K mainGlobals "sum" = some none)
    (z5 : PySem.W.nsIn K mainGlobals "dict" = some none)
    (z6 : PySem.W.nsIn K mainGlobals "max" = some none)
    (z7 : PySem.W.nsIn K mainGlobals "tuple" = some none)
    (z8 : PySem.W.nsIn K mainGlobals "abs" = some none)
    (z9 : PySem.W.nsIn K mainGlobals "list" = some none)
    (z10 : PySem.W.nsIn K mainGlobals "min" = some none)
    (z11 : PySem.W.nsIn K mainGlobals "isinstance" = some none)
    (z12 : PySem.W.nsIn K mainGlobals "set" = some none)
    : ∃ fd : FuncData, (∀ (s : Shared) (v : Value), BindsTo s fd ⟨[v], []⟩ [("_law_script", v)]) ∧ ∀ base : Heap, K.In base → base.Ns mainGlobals mg → RunAt l.prog w K mg base fa fd ["_law_script"] (spLaw K) := by
  have e := hfa.symm.trans (PySem.W.mg_of X G a11)
  cases e
  have T : Top K mg := ⟨⟨⟨_, _, PySem.W.mg_of X G a0, fun_mk (st := s_first_unlike) l0 cc0 k0⟩⟩, ⟨⟨_, _, PySem.W.mg_of X G a1, fun_mk (st := s__settings_having) l1 cc1 k1⟩⟩, ⟨⟨_, _, PySem.W.mg_of X G a2, fun_mk (st := s__settings_at_most) l2 cc2 k2⟩⟩, ⟨⟨_, _, PySem.W.mg_of X G a3, fun_mk (st := s__law_begun) l3 cc3 k3⟩⟩, ⟨⟨_, _, PySem.W.mg_of X G a4, fun_mk (st := s__law_draw) l4 cc4 k4⟩⟩, ⟨⟨_, _, PySem.W.mg_of X G a5, fun_mk (st := s__law_pick) l5 cc5 k5⟩⟩, ⟨⟨_, _, PySem.W.mg_of X G a6, fun_mk (st := s__law_marks) l6 cc6 k6⟩⟩, ⟨⟨_, _, PySem.W.mg_of X G a7, fun_mk (st := s__law_settings) l7 cc7 k7⟩⟩, ⟨⟨_, _, PySem.W.mg_of X G a8, fun_mk (st := s__law_is_unlike) l8 cc8 k8⟩⟩, ⟨⟨_, _, PySem.W.mg_of X G a9, fun_mk (st := s__law_bent) l9 cc9 k9⟩⟩, ⟨⟨_, _, PySem.W.mg_of X G a10, fun_mk (st := s__law_drawn) l10 cc10 k10⟩⟩, ⟨⟨_, _, PySem.W.mg_of X G a11, fun_mk (st := s_law) l11 cc11 k11⟩⟩, PySem.W.mg_none_of X G z0, PySem.W.mg_none_of X G z1, PySem.W.mg_none_of X G z2, PySem.W.mg_none_of X G z3, PySem.W.mg_none_of X G z4, PySem.W.mg_none_of X G z5, PySem.W.mg_none_of X G z6, PySem.W.mg_none_of X G z7, PySem.W.mg_none_of X G z8, PySem.W.mg_none_of X G z9, PySem.W.mg_none_of X G z10, PySem.W.mg_none_of X G z11, PySem.W.mg_none_of X G z12⟩
  exact ⟨_, fun s v => .of_eq rfl, fun base _ _ => at_law (fun_mk (st := s_law) l11 cc11 k11) T⟩
end Mc
open PySem PySem.W PyProof.Rows
set_option maxRecDepth 100000 in
set_option maxHeartbeats 0 in
theorem PySem.Challenge.cw_mostclauses_k39_plain_or_not_holds : PySem.Challenge.rw_mostclauses_k39_plain_or_not.Holds := by
  w_on; o_law; k_head; (case hw => w_witness2)
  k_fill
  refine Mc.walk_at (l := PySem.Challenge.rw_mostclauses_k39_plain_or_not) (n := 63) (x := "_law_script") (sp := fun w => Mc.spLaw _) rfl (by decide) rfl (fun w h Y => PySem.W.kIn_of Y) ?F (fun _ _ a ns hl _ hS => ⟨a, ns, rfl, hS, hl, fun _ => rfl⟩)
  case F =>
    intro w mg fa h KX G hmg
    refine' Mc.all_mk KX G hmg ?a0 ?l0 ?cc0 ?k0 ?a1 ?l1 ?cc1 ?k1 ?a2 ?l2 ?cc2 ?k2 ?a3 ?l3 ?cc3 ?k3 ?a4 ?l4 ?cc4 ?k4 ?a5 ?l5 ?cc5 ?k5 ?a6 ?l6 ?cc6 ?k6 ?a7 ?l7 ?cc7 ?k7 ?a8 ?l8 ?cc8 ?k8 ?a9 ?l9 ?cc9 ?k9 ?a10 ?l10 ?cc10 ?k10 ?a11 ?l11 ?cc11 ?k11 ?z0 ?z1 ?z2 ?z3 ?z4 ?z5 ?z6 ?z7 ?z8 ?z9 ?z10 ?z11 ?z12
    (case a0 => k_is)
    (case l0 => k_is)
    (case cc0 => k_is)
    (case k0 => k_is)
    (case a1 => k_is)
    (case l1 => k_is)
    (case cc1 => k_is)
    (case k1 => k_is)
    (case a2 => k_is)
    (case l2 => k_is)
    (case cc2 => k_is)
    (case k2 => k_is)
    (case a3 => k_is)
    (case l3 => k_is)
    (case cc3 => k_is)
    (case k3 => k_is)
    (case a4 => k_is)
    (case l4 => k_is)
    (case cc4 => k_is)
    (case k4 => k_is)
    (case a5 => k_is)
    (case l5 => k_is)
    (case cc5 => k_is)
    (case k5 => k_is)
    (case a6 => k_is)
    (case l6 => k_is)
    (case cc6 => k_is)
    (case k6 => k_is)
    (case a7 => k_is)
    (case l7 => k_is)
    (case cc7 => k_is)
    (case k7 => k_is)
    (case a8 => k_is)
    (case l8 => k_is)
    (case cc8 => k_is)
    (case k8 => k_is)
    (case a9 => k_is)
    (case l9 => k_is)
    (case cc9 => k_is)
    (case k9 => k_is)
    (case a10 => k_is)
    (case l10 => k_is)
    (case cc10 => k_is)
    (case k10 => k_is)
    (case a11 => k_is)
    (case l11 => k_is)
    (case cc11 => k_is)
    (case k11 => k_is)
    (case z0 => k_is)
    (case z1 => k_is)
    (case z2 => k_is)
    (case z3 => k_is)
    (case z4 => k_is)
    (case z5 => k_is)
    (case z6 => k_is)
    (case z7 => k_is)
    (case z8 => k_is)
    (case z9 => k_is)
    (case z10 => k_is)
    (case z11 => k_is)
    (case z12 => k_is)
