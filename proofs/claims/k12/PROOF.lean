import PyProof.Rows.All
import Wide.All
import OpenK.AllK
import Wide.FinOn
import HandS.ForMost
import HandS.Flow
import HandS.Wide
import HandS.Small
import HandS.Style
import HandS.IsInst
import HandS.RaiseMore
import HandS.Codes
import HandS.TupMul
import HandS.Iter
import HandS.Text
import HandS.TupAny
import HandS.Conv
import HandS.Deep
import PyProof.P3In
import PyProof.P3Eq
import PyProof.ReprBulk
import PyProof.ReprRoads
import PyProof.Rows.ReprShort
import PySem.Challenge.RW_mostclauses_k12_plans_or_not
set_option Elab.async false
set_option linter.all false
set_option maxRecDepth 100000
set_option maxHeartbeats 4000000
namespace Mc
open PySem PySem.Spec PyProof.Rows L2
/-! ### the text by places -/
def top (i : Nat) : Stmt := PySem.Challenge.pw_mostclauses_k12_plans_or_not.main.body.getD i (.Pass ⟨0, 0, 0, 0⟩)

abbrev s_is_whole : Stmt := top 1
abbrev nm_is_whole : List Str := ["thing"]
theorem sc_is_whole : FnScope nm_is_whole ["thing"] (defScope s_is_whole) := ⟨rfl, rfl, rfl, by decide +kernel, rfl, by decide +kernel, by decide +kernel⟩
abbrev s_is_part : Stmt := top 5
abbrev nm_is_part : List Str := ["thing"]
theorem sc_is_part : FnScope nm_is_part ["thing"] (defScope s_is_part) := ⟨rfl, rfl, rfl, by decide +kernel, rfl, by decide +kernel, by decide +kernel⟩
abbrev s_is_plan : Stmt := top 6
abbrev nm_is_plan : List Str := ["thing"]
theorem sc_is_plan : FnScope nm_is_plan ["thing"] (defScope s_is_plan) := ⟨rfl, rfl, rfl, by decide +kernel, rfl, by decide +kernel, by decide +kernel⟩
abbrev s__are_parts : Stmt := top 7
abbrev nm__are_parts : List Str := ["things", "around", "ones", "thing", "waiting", "outer", "part"]
theorem sc__are_parts : FnScope nm__are_parts ["things", "around"] (defScope s__are_parts) := ⟨rfl, rfl, rfl, by decide +kernel, rfl, by decide +kernel, by decide +kernel⟩
abbrev s__is_joined : Stmt := top 8
abbrev nm__is_joined : List Str := ["thing"]
theorem sc__is_joined : FnScope nm__is_joined ["thing"] (defScope s__is_joined) := ⟨rfl, rfl, rfl, by decide +kernel, rfl, by decide +kernel, by decide +kernel⟩
abbrev s__law_begun : Stmt := top 10
abbrev nm__law_begun : List Str := ["_law_script"]
theorem sc__law_begun : FnScope nm__law_begun ["_law_script"] (defScope s__law_begun) := ⟨rfl, rfl, rfl, by decide +kernel, rfl, by decide +kernel, by decide +kernel⟩
abbrev s__law_draw : Stmt := top 11
abbrev nm__law_draw : List Str := ["_law_tape", "_law_many", "_law_spot", "_law_most", "_law_cell", "_law_found"]
theorem sc__law_draw : FnScope nm__law_draw ["_law_tape", "_law_many"] (defScope s__law_draw) := ⟨rfl, rfl, rfl, by decide +kernel, rfl, by decide +kernel, by decide +kernel⟩
abbrev s__law_pick : Stmt := top 12
abbrev nm__law_pick : List Str := ["_law_tape", "_law_some"]
theorem sc__law_pick : FnScope nm__law_pick ["_law_tape", "_law_some"] (defScope s__law_pick) := ⟨rfl, rfl, rfl, by decide +kernel, rfl, by decide +kernel, by decide +kernel⟩
abbrev s__law_part : Stmt := top 13
abbrev nm__law_part : List Str := ["_law_tape", "_law_many", "_law_deep", "_law_cut", "_law_word", "_law_some", "_law_one"]
theorem sc__law_part : FnScope nm__law_part ["_law_tape", "_law_many", "_law_deep"] (defScope s__law_part) := ⟨rfl, rfl, rfl, by decide +kernel, rfl, by decide +kernel, by decide +kernel⟩
abbrev s__law_plan : Stmt := top 14
abbrev nm__law_plan : List Str := ["_law_tape", "_law_many", "_law_most", "_law_word", "_law_deep", "_law_way", "_law_cut", "_law_lens", "_law_one"]
theorem sc__law_plan : FnScope nm__law_plan ["_law_tape", "_law_many", "_law_most"] (defScope s__law_plan) := ⟨rfl, rfl, rfl, by decide +kernel, rfl, by decide +kernel, by decide +kernel⟩
abbrev s__law_ones : Stmt := top 15
abbrev nm__law_ones : List Str := ["_law_thing", "_law_words", "_law_deep", "_law_some", "_law_one"]
theorem sc__law_ones : FnScope nm__law_ones ["_law_thing", "_law_words", "_law_deep"] (defScope s__law_ones) := ⟨rfl, rfl, rfl, by decide +kernel, rfl, by decide +kernel, by decide +kernel⟩
abbrev s__law_bent : Stmt := top 16
abbrev nm__law_bent : List Str := ["_law_tape", "_law_thing", "_law_at", "_law_word", "_law_some"]
theorem sc__law_bent : FnScope nm__law_bent ["_law_tape", "_law_thing"] (defScope s__law_bent) := ⟨rfl, rfl, rfl, by decide +kernel, rfl, by decide +kernel, by decide +kernel⟩
abbrev s_law : Stmt := top 17
abbrev nm_law : List Str := ["_law_script", "_law_tape", "_law_turn", "_law_way", "_law_many", "_law_thing", "_law_some", "_law_word", "_law_k", "_law_due", "_law_words", "_law_one"]
theorem sc_law : FnScope nm_law ["_law_script"] (defScope s_law) := ⟨rfl, rfl, rfl, by decide +kernel, rfl, by decide +kernel, by decide +kernel⟩
/-! ### a def that stands in the top and keeps a promise -/
structure At (K : PySem.W.Frag) (mg : Str → Option Value) (x : Str) (st : Stmt) : Prop where
  ex : ∃ f fd, mg x = some (.ref f) ∧ Fun K x x st f fd
structure Has (P : Program) (w : World) (K : PySem.W.Frag) (mg : Str → Option Value) (base : Heap) (k : Nat) (x : Str) (ps : List Str) (sp : Sp) : Prop where
  ex : ∃ f fd, mg x = some (.ref f) ∧ PySem.W.keepIn K (.ref f) = true ∧ Binds K fd ps [] ∧ FnOk P w K mg base CX0 k f fd ps sp
theorem pe_has {X : Cx} {k : Nat} {x : Str} {ps : List Str} {sp : Sp} {e : Expr} {es : List Expr} {t : TA} {p pos : Pos} (h : Has X.prog X.w X.K X.mg X.base k x ps sp) (hr : Room k X.A) (hg : Gl X x) (ha : PA X (e :: es) t)
    (hdb : (x == ("__debug__" : Str)) = false := by decide) (he : starEach (e :: es) X.env = (false, eval e X.env) :: starEach es X.env := by rfl) (hpl : (backTo pos (starEach es X.env)).any (·.1) = false := by rfl) :
    PE X (.Call (.Name x p) (e :: es) [] pos) (tCall sp [] E0 t) := by
  obtain ⟨f, fd, hm, hk, hb, F⟩ := h.ex
  exact pe_call F hr hg hm hk hb .nil pass0 ha hdb he hpl
abbrev BindsAll (x : Str) (st : Stmt) (ps : List Str) : Prop :=
  ∀ (kV doc pm : Value) (an : Option Addr) (cdv ct : Value) (us : List Value), us.length = ps.length → bindArgs (PySem.W.fnOf x x (defArgs st) (defBody st) (defScope st) .none kV doc pm an cdv ct) ⟨us, []⟩ = pure (ps.zip us)
section
variable {P : Program} {w : World} {K : PySem.W.Frag} {mg : Str → Option Value} {base : Heap}
theorem has_of {x : Str} {st : Stmt} {N ps : List Str} {k : Nat} {sp : Sp} (A : At K mg x st) (S : FnScope N ps (defScope st)) (B : BindsAll x st ps) (len : ∀ vs H Q E, sp vs H Q E → vs.length = ps.length)
    (hbody : ∀ (f : Addr) (cdv : Value) (A : Around) (outer : List Env) (s : Shared) (H : Hp) (vs : List V) (Q : VK) (E : XK), Room k (A.deeper (envOfC x (defScope st) s.heap.objs.size f cdv)) → sp vs H Q E →
      ∃ t, PSs (cxOf CX0 P w K mg base N x (defScope st) f cdv A outer s H E).nox (defBody st) t ∧ t { nx := fun _ H' => Q .non H', rt := Q } (start N vs) H) : Has P w K mg base (k + 1) x ps sp := by
  obtain ⟨f, fd, hm, F⟩ := A.ex
  exact ⟨f, fd, hm, F.kp, F.binds B, F.ok S len fun cdv A outer s H vs Q E hr h => hbody f cdv A outer s H vs Q E hr h⟩
end
theorem pe_const {X : Cx} {x : Str} {i : Int} {pos : Pos} (hm : ∃ t, X.mg x = some (.int i t)) (hg : Gl X x) (hd : (x == ("__debug__" : Str)) = false := by decide) : PE X (.Name x pos) (tC (.int i)) := by
  obtain ⟨t, hm⟩ := hm
  exact pe_glob hg hm ⟨t, rfl⟩ hd
/-! ### repr of a truth -/
def boolText (b : Bool) : Str := if b then "True" else "False"
theorem boolText_inj {a b : Bool} (h : boolText a = boolText b) : a = b := by
  cases a <;> cases b <;> first | rfl | exact absurd h (by decide +kernel)
theorem call_repr_bool {X : Cx} : CallR X (.builtin "repr") (fun xs H Q => ∃ b, xs = [.bl b] ∧ Q (.str (boolText b)) H) := by
  intro pins s σ H xs us Q I r h
  obtain ⟨b, rfl, q⟩ := h
  obtain ⟨u, rfl, ru⟩ := vals1 r
  cases ru
  cases b with
  | true => exact PySem.P.repr_of_bool ⟨.str (boolText true), H, I.tok _, ⟨_, rfl⟩, q⟩
  | false => exact PySem.P.repr_of_bool ⟨.str (boolText false), H, I.tok _, ⟨_, rfl⟩, q⟩
/-! ### heaps -/
/-- all that is known stays, but for what stands at t -/
def Kp (t : Addr) (H H' : Hp) : Prop := ∀ b o, H b = some o → b ≠ t → H' b = some o
theorem Kp.refl {t : Addr} (H : Hp) : Kp t H H := fun _ _ h _ => h
theorem Kp.trans {t : Addr} {H H1 H2 : Hp} (a : Kp t H H1) (b : Kp t H1 H2) : Kp t H H2 := fun c o h n => b c o (a c o h n) n
theorem Kp.new {t p : Addr} {H : Hp} {o : HO} (h : H p = none) : Kp t H (upd H p o) := fun b u e _ => by
  rw [upd_ne (ne_of_none e h)]
  exact e
theorem Kp.at {t : Addr} {H : Hp} {o : HO} : Kp t H (upd H t o) := fun b u e n => by
  rw [upd_ne n]
  exact e
theorem Kp.same {t : Addr} {H H' : Hp} (s : Same H H') : Kp t H H' := fun b o e _ => s b o e
theorem same_new {H : Hp} {p : Addr} {o : HO} (h : H p = none) : Same H (upd H p o) := fun b u e => by
  rw [upd_ne (ne_of_none e h)]
  exact e
/-! ### the tape -/
def tk (c : Addr) (spot left : Int) : List (Key × V) := [(.inr "cells", .ref c), (.inr "spot", .int spot), (.inr "left", .int left)]
structure TapeC (H : Hp) (t c : Addr) (ns : List Int) (spot left : Int) : Prop where
  d : H t = some (.dK (tk c spot left))
  l : H c = some (.lst (ns.map V.int))
  ne : 0 < ns.length
  lt : ns.length ≤ 63
  s0 : 0 ≤ spot
  l0 : 0 ≤ left
/-- a tape at t, its cells at c, of which at most n draws are taken -/
def Tape (H : Hp) (t c : Addr) (n : Nat) : Prop := ∃ ns spot left, TapeC H t c ns spot left ∧ spot ≤ n
theorem Tape.ne {H : Hp} {t c : Addr} {n : Nat} (h : Tape H t c n) : t ≠ c := by
  obtain ⟨ns, spot, left, h, _⟩ := h
  exact ne_of h.d h.l (by intro z; cases z)
theorem Tape.le {H : Hp} {t c : Addr} {n m : Nat} (h : Tape H t c n) (l : n ≤ m) : Tape H t c m := by
  obtain ⟨ns, spot, left, h, e⟩ := h
  exact ⟨ns, spot, left, h, by omega⟩
theorem Tape.stay {H H' : Hp} {t c : Addr} {n : Nat} (h : Tape H t c n) (k : ∀ b o, H b = some o → b = t ∨ b = c → H' b = some o) : Tape H' t c n := by
  obtain ⟨ns, spot, left, h, e⟩ := h
  exact ⟨ns, spot, left, ⟨k _ _ h.d (.inl rfl), k _ _ h.l (.inr rfl), h.ne, h.lt, h.s0, h.l0⟩, e⟩
theorem Tape.same {H H' : Hp} {t c : Addr} {n : Nat} (h : Tape H t c n) (s : Same H H') : Tape H' t c n := h.stay fun b o e _ => s b o e
theorem Tape.new {H : Hp} {t c p : Addr} {n : Nat} {o : HO} (h : Tape H t c n) (hp : H p = none) : Tape (upd H p o) t c n := h.same (same_new hp)
theorem Tape.at_t {H : Hp} {t c : Addr} {n : Nat} (h : Tape H t c n) : ∃ o, H t = some o := by
  obtain ⟨ns, spot, left, h, _⟩ := h
  exact ⟨_, h.d⟩
theorem Tape.at_c {H : Hp} {t c : Addr} {n : Nat} (h : Tape H t c n) : ∃ o, H c = some o := by
  obtain ⟨ns, spot, left, h, _⟩ := h
  exact ⟨_, h.l⟩
theorem k_cells : ¬ (("cells" : Str) = "spot") := by decide +kernel
theorem k_cells2 : ¬ (("cells" : Str) = "left") := by decide +kernel
theorem k_spot : ¬ (("spot" : Str) = "left") := by decide +kernel
theorem tk_cells (c : Addr) (a b : Int) : valV (tk c a b) (Sum.inr "cells" : Key) = some (.ref c) := valV_pos rfl
theorem tk_spot (c : Addr) (a b : Int) : valV (tk c a b) (Sum.inr "spot" : Key) = some (.int a) := by
  unfold tk
  rw [valV_neg (fun e => k_cells (Sum.inr.inj e)), valV_pos rfl]
theorem tk_left (c : Addr) (a b : Int) : valV (tk c a b) (Sum.inr "left" : Key) = some (.int b) := by
  unfold tk
  rw [valV_neg (fun e => k_cells2 (Sum.inr.inj e)), valV_neg (fun e => k_spot (Sum.inr.inj e)), valV_pos rfl]
theorem tk_put_spot (c : Addr) (a b x : Int) : putK (tk c a b) (Sum.inr "spot" : Key) (.int x) = tk c x b := by
  rfl
theorem tk_put_left (c : Addr) (a b x : Int) : putK (tk c a b) (Sum.inr "left" : Key) (.int x) = tk c a x := by
  rfl
theorem dg_cells {H : Hp} {t c : Addr} {a b : Int} (h : H t = some (.dK (tk c a b))) : DGet H t (.str "cells") (some (.ref c)) := by
  have g := DGet.k (k := (Sum.inr "cells" : Key)) h
  rw [tk_cells] at g
  exact g
theorem dg_spot {H : Hp} {t c : Addr} {a b : Int} (h : H t = some (.dK (tk c a b))) : DGet H t (.str "spot") (some (.int a)) := by
  have g := DGet.k (k := (Sum.inr "spot" : Key)) h
  rw [tk_spot] at g
  exact g
theorem dg_left {H : Hp} {t c : Addr} {a b : Int} (h : H t = some (.dK (tk c a b))) : DGet H t (.str "left") (some (.int b)) := by
  have g := DGet.k (k := (Sum.inr "left" : Key)) h
  rw [tk_left] at g
  exact g
theorem dp_spot {H : Hp} {t c : Addr} {a b : Int} (x : Int) (h : H t = some (.dK (tk c a b))) : DPut H t (.str "spot") (.int x) (upd H t (.dK (tk c x b))) := by
  have g := DPut.k (k := (Sum.inr "spot" : Key)) (v := .int x) h (small1000 (by show 3 ≤ 1000; decide))
  rw [tk_put_spot] at g
  exact g
theorem dp_left {H : Hp} {t c : Addr} {a b : Int} (x : Int) (h : H t = some (.dK (tk c a b))) : DPut H t (.str "left") (.int x) (upd H t (.dK (tk c a x))) := by
  have g := DPut.k (k := (Sum.inr "left" : Key)) (v := .int x) h (small1000 (by show 3 ≤ 1000; decide))
  rw [tk_put_left] at g
  exact g
theorem Tape.fresh {H : Hp} {t c p : Addr} {n : Nat} (h : Tape H t c n) (hp : H p = none) : p ≠ t := by
  obtain ⟨o, e⟩ := h.at_t
  exact (ne_of_none e hp).symm
theorem Tape.fresh_c {H : Hp} {t c p : Addr} {n : Nat} (h : Tape H t c n) (hp : H p = none) : p ≠ c := by
  obtain ⟨o, e⟩ := h.at_c
  exact (ne_of_none e hp).symm
/-! ### a list beside the empty list -/
section
variable {X : Cx}
def rEqNil (K : PySem.W.Frag) (neg : Bool) : R2 := fun x y H Q => ∃ a b xs, x = .ref a ∧ y = .ref b ∧ SqL K H a xs ∧ SqL K H b [] ∧ Q (.bl (if neg = true then !xs.isEmpty else xs.isEmpty)) H
theorem op_eqNil (hu : X.A.units + 1 < cLine) : OpR X (compareOp .Eq) (rEqNil X.K false) := by
  intro pins s σ H x y v u Q I rx ry h
  obtain ⟨a, b, xs, rfl, rfl, ha, hb, q⟩ := h
  cases rx
  cases ry
  obtain ⟨us, vs, pl, _⟩ := I.list ha
  obtain ⟨ws, vs2, pl2, _⟩ := I.list hb
  cases vs2
  have l := vs.length
  cases xs with
  | nil =>
    cases vs
    exact SeqAt.RcAt.lists (e := fun _ => true) pl.isList pl2.isList rfl (by omega) (fun j h1 => absurd h1 (Nat.not_lt_zero _)) _ _ _ _ ⟨.bl true, H, I, rfl, q⟩
  | cons z zs => exact SeqAt.RcAt.lists_lengths pl.isList pl2.isList (by rw [List.size_toArray, ← l]; rfl) (by omega) _ _ _ _ ⟨.bl false, H, I, rfl, q⟩
theorem op_neNil (hu : X.A.units + 1 < cLine) : OpR X (compareOp .NotEq) (rEqNil X.K true) := by
  intro pins s σ H x y v u Q I rx ry h
  obtain ⟨a, b, xs, rfl, rfl, ha, hb, q⟩ := h
  cases rx
  cases ry
  obtain ⟨us, vs, pl, _⟩ := I.list ha
  obtain ⟨ws, vs2, pl2, _⟩ := I.list hb
  cases vs2
  have l := vs.length
  cases xs with
  | nil =>
    cases vs
    exact SeqAt.RcNeAt.lists (e := fun _ => true) pl.isList pl2.isList rfl (by omega) (fun j h1 => absurd h1 (Nat.not_lt_zero _)) _ _ _ _ ⟨.bl false, H, I, rfl, q⟩
  | cons z zs => exact SeqAt.RcNeAt.lists_lengths pl.isList pl2.isList (by rw [List.size_toArray, ← l]; rfl) (by omega) _ _ _ _ ⟨.bl true, H, I, rfl, q⟩
end
/-! ### comprehensions that leave what is known as it is -/
theorem take_sel {α β : Type} (t : α → Bool) (f : α → β) {xs : List α} {i : Nat} {x : α} (h : xs[i]? = some x) :
    ((xs.take (i + 1)).filter t).map f = ((xs.take i).filter t).map f ++ (if t x = true then [f x] else []) := by
  rw [List.take_add_one, h, List.filter_append, List.map_append]
  by_cases ht : t x = true
  · rw [if_pos ht]
    simp [ht]
  · rw [if_neg ht]
    simp [ht]
section
variable {K : PySem.W.Frag} {a : Addr} {xs : List V} {tt : TT} {te : TE} {vs : List Nat} {σ : L2.St} {H : Hp} {D : Addr} {Qd : Hp → Prop} {j : Nat}
/-- what a turn asks: the test, the item -/
structure SelT (H : Hp) (σ : L2.St) (vs : List Nat) (j : Nat) (tt : TT) (te : TE) (x : V) (b : Bool) (y : V) : Prop where
  wip : wipe ((wipe σ vs).set j (some x)) vs = wipe σ vs
  tst : ∀ H', Same H H' → ∀ R : Bool → Hp → Prop, (∀ H'', Same H' H'' → R b H'') → tt ((wipe σ vs).set j (some x)) H' R
  elt : b = true → ∀ H', Same H H' → ∀ R : VK, (∀ H'', Same H' H'' → R y H'') → te ((wipe σ vs).set j (some x)) H' R
theorem sel_turn {x y : V} {b : Bool} {acc : List V} {H' : Hp} {P : Hp → Prop} (hD : H D = none) (s : SelT H σ vs j tt te x b y) (hs : Same H H') (ha : H' D = some (.lst acc)) (hz : acc.length < sizeLine)
    (k : ∀ H'', Same H H'' → H'' D = some (.lst (acc ++ (if b = true then [y] else []))) → P H'') :
    gName j x (wipe σ vs) H' fun σ2 H2 => wipe σ2 vs = wipe σ vs ∧ tt σ2 H2 fun c H3 => if c = true then te σ2 H3 fun y H4 => ∃ acc, H4 D = some (.lst acc) ∧ acc.length < sizeLine ∧ P (upd H4 D (.lst (acc ++ [y]))) else P H3 := by
  refine ⟨s.wip, s.tst H' hs _ fun H3 s3 => ?_⟩
  have h3 := s3 D _ ha
  cases b with
  | false =>
    refine iteF (k H3 (hs.trans s3) ?_)
    rw [h3, if_neg Bool.false_ne_true, List.append_nil]
  | true =>
    refine iteT (s.elt rfl H3 (hs.trans s3) _ fun H4 s4 => ⟨acc, s4 D _ h3, hz, k _ (fun c o e => ?_) ?_⟩)
    · rw [upd_ne (ne_of_none e hD)]
      exact s4 c o (s3 c o (hs c o e))
    · rw [upd_same, if_pos rfl]
theorem lc_sel_list (t : V → Bool) (f : V → V) (hx : SqL K H a xs) (hD : H D = none) (hz : xs.length ≤ 1000000) (hs : ∀ x ∈ xs, SelT H σ vs j tt te x (t x) (f x)) (k : ∀ H', Same H H' → H' D = some (.lst ((xs.filter t).map f)) → Qd H') :
    ∃ W : Nat → Nat → Hp → Prop, (∃ m, W 0 m (upd H D (.lst []))) ∧ ∀ i m H, W i m H →
      ((Itl K a).stop i H ∧ Qd H) ∨ ((Itl K a).go i H ∧ ∃ Nx : Hp → Prop, (∀ H', Nx H' → ∃ m', m' < m ∧ W (i + 1) m' H') ∧ ∀ x H', (Itl K a).yld i H x H' → gName j x (wipe σ vs) H' fun σ2 H2 => wipe σ2 vs = wipe σ vs ∧ tt σ2 H2 fun b H3 =>
        if b = true then te σ2 H3 fun y H4 => ∃ acc, H4 D = some (.lst acc) ∧ acc.length < sizeLine ∧ Nx (upd H4 D (.lst (acc ++ [y]))) else Nx H3) := by
  have line : 1000000 < sizeLine := by decide
  refine lc_list (xs := xs) (fun i H' => Same H H' ∧ H' D = some (.lst (((xs.take i).filter t).map f))) ⟨same_new hD, upd_same⟩ (fun i H' _ p => p.1.seq hx) (fun i x H' hi p => ?_) fun H' p => k H' p.1 (by rw [p.2, List.take_length])
  refine sel_turn hD (hs x (List.mem_of_getElem? hi)) p.1 p.2 ?_ fun H'' s'' e => ⟨s'', by rw [e, take_sel t f hi]⟩
  have l1 := List.length_filter_le t (xs.take i)
  have l2 := List.length_take_le i xs
  have l3 : (xs.take i).length ≤ xs.length := by rw [List.length_take]; omega
  rw [List.length_map]
  omega
theorem Same.seqT {H H' : Hp} (e : Same H H') (h : SqT K H a xs) : SqT K H' a xs := by
  rcases h with (h | ⟨o, h⟩) | h
  · exact .inl (.inl (e _ _ h))
  · exact .inl (.inr ⟨o, e _ _ h⟩)
  · exact .inr h
theorem lc_sel_tup (t : V → Bool) (f : V → V) (hx : SqT K H a xs) (hD : H D = none) (hz : xs.length ≤ 1000000) (hs : ∀ x ∈ xs, SelT H σ vs j tt te x (t x) (f x)) (k : ∀ H', Same H H' → H' D = some (.lst ((xs.filter t).map f)) → Qd H') :
    ∃ W : Nat → Nat → Hp → Prop, (∃ m, W 0 m (upd H D (.lst []))) ∧ ∀ i m H, W i m H →
      ((Itt K a).stop i H ∧ Qd H) ∨ ((Itt K a).go i H ∧ ∃ Nx : Hp → Prop, (∀ H', Nx H' → ∃ m', m' < m ∧ W (i + 1) m' H') ∧ ∀ x H', (Itt K a).yld i H x H' → gName j x (wipe σ vs) H' fun σ2 H2 => wipe σ2 vs = wipe σ vs ∧ tt σ2 H2 fun b H3 =>
        if b = true then te σ2 H3 fun y H4 => ∃ acc, H4 D = some (.lst acc) ∧ acc.length < sizeLine ∧ Nx (upd H4 D (.lst (acc ++ [y]))) else Nx H3) := by
  have line : 1000000 < sizeLine := by decide
  refine lc_tup (xs := xs) (fun i H' => Same H H' ∧ H' D = some (.lst (((xs.take i).filter t).map f))) ⟨same_new hD, upd_same⟩ (fun i H' _ p => Same.seqT p.1 hx) (fun i x H' hi p => ?_) fun H' p => k H' p.1 (by rw [p.2, List.take_length])
  refine sel_turn hD (hs x (List.mem_of_getElem? hi)) p.1 p.2 ?_ fun H'' s'' e => ⟨s'', by rw [e, take_sel t f hi]⟩
  have l1 := List.length_filter_le t (xs.take i)
  have l3 : (xs.take i).length ≤ xs.length := by rw [List.length_take]; omega
  rw [List.length_map]
  omega
theorem take_range {n i : Nat} (h : i < n) : (List.range n)[i]? = some i := by
  rw [List.getElem?_range h]
theorem lc_sel_range {lo : Int} {n : Nat} (t : Nat → Bool) (f : Nat → V) (hD : H D = none) (hz : n ≤ 1000000) (hs : ∀ i, i < n → SelT H σ vs j tt te (.int (lo + i)) (t i) (f i)) (k : ∀ H', Same H H' → H' D = some (.lst (((List.range n).filter t).map f)) → Qd H') :
    ∃ W : Nat → Nat → Hp → Prop, (∃ m, W 0 m (upd H D (.lst []))) ∧ ∀ i m H, W i m H →
      ((Itr lo n).stop i H ∧ Qd H) ∨ ((Itr lo n).go i H ∧ ∃ Nx : Hp → Prop, (∀ H', Nx H' → ∃ m', m' < m ∧ W (i + 1) m' H') ∧ ∀ x H', (Itr lo n).yld i H x H' → gName j x (wipe σ vs) H' fun σ2 H2 => wipe σ2 vs = wipe σ vs ∧ tt σ2 H2 fun b H3 =>
        if b = true then te σ2 H3 fun y H4 => ∃ acc, H4 D = some (.lst acc) ∧ acc.length < sizeLine ∧ Nx (upd H4 D (.lst (acc ++ [y]))) else Nx H3) := by
  have line : 1000000 < sizeLine := by decide
  refine lc_range (fun i H' => Same H H' ∧ H' D = some (.lst ((((List.range n).take i).filter t).map f))) ⟨same_new hD, upd_same⟩ (fun i H' hi p => ?_) fun H' p => k H' p.1 (by rw [p.2, List.take_of_length_le (by rw [List.length_range]; omega)])
  refine sel_turn hD (hs i hi) p.1 p.2 ?_ fun H'' s'' e => ⟨s'', by rw [e, take_sel t f (take_range hi)]⟩
  have l1 := List.length_filter_le t ((List.range n).take i)
  have l3 : ((List.range n).take i).length ≤ n := by rw [List.length_take, List.length_range]; omega
  rw [List.length_map]
  omega
end
theorem filter_all {α : Type} (xs : List α) : xs.filter (fun _ => true) = xs := List.filter_eq_self.mpr fun _ _ => rfl
theorem Kp.free {t D : Addr} {H H' : Hp} (k : Kp t H H') (h : H' D = none) (n : D ≠ t) : H D = none := by
  cases e : H D with
  | none => rfl
  | some o =>
    rw [k D o e n] at h
    cases h
theorem Kp.mut {t p : Addr} {H H' : Hp} {o : HO} (k : Kp t H H') (h : H p = none) : Kp t H (upd H' p o) := fun b u e n => by
  rw [upd_ne (ne_of_none e h)]
  exact k b u e n
theorem Tape.mut {H : Hp} {t c p : Addr} {n : Nat} {o : HO} (h : Tape H t c n) (n1 : p ≠ t) (n2 : p ≠ c) : Tape (upd H p o) t c n := h.stay fun b u e z => by
  rw [upd_ne]
  · exact e
  · rcases z with rfl | rfl
    · exact n1.symm
    · exact n2.symm
theorem yes_go {σ : L2.St} {H : Hp} {A B : Hp → Prop} (h : A H) : tYes σ H (fun b H' => if b = true then A H' else B H') := by
  show (if true = true then A H else B H)
  rw [if_pos rfl]
  exact h
/-! ### d.update(e) of two dicts -/
theorem mt_update {X : Cx} : MtR X "dict.update" (fun x xs H Q => ∃ (a b : Addr) (ks ms : List (Key × V)), x = .ref a ∧ xs = [.ref b] ∧ H a = some (.dK ks) ∧ H b = some (.dK ms) ∧ a ≠ b ∧ ks.length + ms.length ≤ sizeLine ∧
    Q .non (upd H a (.dK (mergeK ks ms)))) := by
  intro pins s σ H x xs v us Q I rx rxs h
  obtain ⟨a, b, ks, ms, rfl, rfl, ha, hb, ne, few, q⟩ := h
  cases rx
  obtain ⟨u, rfl, ru⟩ := vals1 rxs
  cases ru
  obtain ⟨za, da, va, ra, dda⟩ := dk_of I.hok ha
  obtain ⟨zb, db, vb, rb, ddb⟩ := dk_of I.hok hb
  refine call_meetsIn PySem.F.slot_dict_update dda.typeIs PySem.F.entry_dict_update (PySem.F.args_dict_update_2 _ _) (meets_dict_update (mixKind X.prog X.w) a b ne db) ⟨va, vb, dda, ddb, by rw [← ra.length, ← rb.length]; exact few, fun h' d1 d2 same => ?_⟩
  have there : ∃ o, h'.get? a = some o := by
    obtain ⟨o, _, _, ho, _⟩ := id d1
    exact ⟨o, ho⟩
  have small : (mergeK ks ms).length ≤ sizeLine := Nat.le_trans (length_mergeK ms ks) few
  exact ⟨.non, _, d_write (t' := s.toks) I (by rw [ha]; exact True.intro) same there (dk_new small da (rb.merge ra) d1), rfl, q⟩
/-! ### rules whose reading names the written part, for use within a comprehension -/
section
variable {X : Cx} {K : PySem.W.Frag}
theorem op_inK (h : X.K = K) : OpR X (compareOp .In) (rIn K false) := h ▸ op_in_seq
theorem op_notInK (h : X.K = K) : OpR X (compareOp .NotIn) (rIn K true) := h ▸ op_notIn_seq
theorem op_eqNilK (h : X.K = K) (hu : X.A.units + 1 < cLine) : OpR X (compareOp .Eq) (rEqNil K false) := h ▸ op_eqNil hu
theorem op_neNilK (h : X.K = K) (hu : X.A.units + 1 < cLine) : OpR X (compareOp .NotEq) (rEqNil K true) := h ▸ op_neNil hu
theorem ix_listK (h : X.K = K) : IxR X (rIxL K) := h ▸ ix_list
theorem ix_tupK (h : X.K = K) : IxR X (rIxT K) := h ▸ ix_tup
theorem ix_seqK (h : X.K = K) : IxR X (rIx K) := h ▸ ix_seq
theorem len_seqK (h : X.K = K) : CallR X (.builtin "len") (fun xs H Q => ∃ p ys, xs = [.ref p] ∧ (SqL K H p ys ∨ SqT K H p ys) ∧ Q (.int (ys.length : Nat)) H) := h ▸ call_len_seq
theorem pi_listK {tg l : Expr} {tl : TE} (h : X.K = K) (hl : PE X l tl) : PI X tg l (iList K tl) := h ▸ pi_list hl
theorem pi_tupK {tg l : Expr} {tl : TE} (h : X.K = K) (hl : PE X l tl) : PI X tg l (iTup K tl) := h ▸ pi_tup hl
theorem sl_listK (h : X.K = K) : SlR X (rSlL K) := h ▸ sl_list
theorem sl_tupK (h : X.K = K) : SlR X (rSlT K) := h ▸ sl_tup
theorem cr_sumK (h : X.K = K) (hc : X.calm = true) : CallR X (.builtin "sum") (rSum K) := h ▸ cr_sum hc
theorem cr_maxL (h : X.K = K) (hc : X.calm = true) : CallR X (.builtin "max") (rMax K) := h ▸ cr_max hc
theorem cr_minL (h : X.K = K) (hc : X.calm = true) : CallR X (.builtin "min") (rMin K) := h ▸ cr_min hc
theorem cr_allK (h : X.K = K) (hc : X.calm = true) : CallR X (.builtin "all") (rAll K) := h ▸ cr_all hc
theorem cr_anyK (h : X.K = K) (hc : X.calm = true) : CallR X (.builtin "any") (rAny K) := h ▸ cr_any hc
theorem call_list_ofK (h : X.K = K) : CallR X (.type "list") (fun xs H Q => ∃ p ys, xs = [.ref p] ∧ (SqL K H p ys ∨ SqT K H p ys) ∧ ∀ l, H l = none → Q (.ref l) (upd H l (.lst ys))) := h ▸ call_list_of
theorem call_tuple_ofK (h : X.K = K) : CallR X (.type "tuple") (fun xs H Q => ∃ p ys, xs = [.ref p] ∧ ((SqL K H p ys ∧ ∀ l, H l = none → Q (.ref l) (upd H l (.tup ys))) ∨ (SqT K H p ys ∧ Q (.ref p) H))) := h ▸ call_tuple_of
theorem op_catTK (h : X.K = K) : OpR X (binaryOp .Add) (rCatT K) := h ▸ op_catT
end
theorem bd_is_whole : BindsAll "is_whole" s_is_whole ["thing"] := fun _ _ _ _ _ _ us hl => match us, hl with | [_], _ => rfl
theorem bd_is_part : BindsAll "is_part" s_is_part ["thing"] := fun _ _ _ _ _ _ us hl => match us, hl with | [_], _ => rfl
theorem bd_is_plan : BindsAll "is_plan" s_is_plan ["thing"] := fun _ _ _ _ _ _ us hl => match us, hl with | [_], _ => rfl
theorem bd__are_parts : BindsAll "_are_parts" s__are_parts ["things", "around"] := fun _ _ _ _ _ _ us hl => match us, hl with | [_, _], _ => rfl
theorem bd__is_joined : BindsAll "_is_joined" s__is_joined ["thing"] := fun _ _ _ _ _ _ us hl => match us, hl with | [_], _ => rfl
theorem bd__law_begun : BindsAll "_law_begun" s__law_begun ["_law_script"] := fun _ _ _ _ _ _ us hl => match us, hl with | [_], _ => rfl
theorem bd__law_draw : BindsAll "_law_draw" s__law_draw ["_law_tape", "_law_many"] := fun _ _ _ _ _ _ us hl => match us, hl with | [_, _], _ => rfl
theorem bd__law_pick : BindsAll "_law_pick" s__law_pick ["_law_tape", "_law_some"] := fun _ _ _ _ _ _ us hl => match us, hl with | [_, _], _ => rfl
theorem bd__law_part : BindsAll "_law_part" s__law_part ["_law_tape", "_law_many", "_law_deep"] := fun _ _ _ _ _ _ us hl => match us, hl with | [_, _, _], _ => rfl
theorem bd__law_plan : BindsAll "_law_plan" s__law_plan ["_law_tape", "_law_many", "_law_most"] := fun _ _ _ _ _ _ us hl => match us, hl with | [_, _, _], _ => rfl
theorem bd__law_ones : BindsAll "_law_ones" s__law_ones ["_law_thing", "_law_words", "_law_deep"] := fun _ _ _ _ _ _ us hl => match us, hl with | [_, _, _], _ => rfl
theorem bd__law_bent : BindsAll "_law_bent" s__law_bent ["_law_tape", "_law_thing"] := fun _ _ _ _ _ _ us hl => match us, hl with | [_, _], _ => rfl
theorem bd_law : BindsAll "law" s_law ["_law_script"] := fun _ _ _ _ _ _ us hl => match us, hl with | [_], _ => rfl
structure Top (K : PySem.W.Frag) (mg : Str → Option Value) : Prop where
  d_is_whole : At K mg "is_whole" s_is_whole
  d_is_part : At K mg "is_part" s_is_part
  d_is_plan : At K mg "is_plan" s_is_plan
  d__are_parts : At K mg "_are_parts" s__are_parts
  d__is_joined : At K mg "_is_joined" s__is_joined
  d__law_begun : At K mg "_law_begun" s__law_begun
  d__law_draw : At K mg "_law_draw" s__law_draw
  d__law_pick : At K mg "_law_pick" s__law_pick
  d__law_part : At K mg "_law_part" s__law_part
  d__law_plan : At K mg "_law_plan" s__law_plan
  d__law_ones : At K mg "_law_ones" s__law_ones
  d__law_bent : At K mg "_law_bent" s__law_bent
  d_law : At K mg "law" s_law
  c_MOST_ONES : ∃ t, mg "MOST_ONES" = some (.int 60 t)
  c_MOST_TUPLES : ∃ t, mg "MOST_TUPLES" = some (.int 60 t)
  b_isinstance : mg "isinstance" = none
  b_bool : mg "bool" = none
  b_int : mg "int" = none
  b_len : mg "len" = none
  b_tuple : mg "tuple" = none
  b_max : mg "max" = none
  b_str : mg "str" = none
  b_sum : mg "sum" = none
  b_list : mg "list" = none
  b_range : mg "range" = none
  b_repr : mg "repr" = none
/-! ### the law's own def, run where the law is asked: nothing is being shown there -/
def RunAt (P : Program) (w : World) (K : PySem.W.Frag) (mg : Str → Option Value) (base : Heap) (f : Addr) (fd : FuncData) (ps : List Str) (sp : Sp) : Prop :=
  ∀ (s : Shared) (H : Hp) (us : List Value) (vs : List V) (Q : VK) (E : XK), Env0 P w K mg base callerA [] s H → BindsTo s fd ⟨us, []⟩ (ps.zip us) → Vals vs us → sp vs H Q E → codeAny (model P w) callerA (.call (.ref f) ⟨us, []⟩) (CR CX0 [] P w H s Q E) s
section
variable {P : Program} {w : World} {K : PySem.W.Frag} {mg : Str → Option Value} {base : Heap}
theorem run_at {x qual : Str} {st : Stmt} {f : Addr} {fd : FuncData} {N ps : List Str} {k : Nat} {sp : Sp} (F : Fun K x qual st f fd) (S : FnScope N ps (defScope st)) (room : Room (k + 1) callerA) (len : ∀ vs H Q E, sp vs H Q E → vs.length = ps.length)
    (body : ∀ (cdv : Value) (s : Shared) (H : Hp) (vs : List V) (Q : VK) (E : XK), Room k (callerA.deeper (envOfC qual (defScope st) s.heap.objs.size f cdv)) → sp vs H Q E →
      ∃ t, PSs (cxOf CX0 P w K mg base N qual (defScope st) f cdv callerA [] s H E).nox (defBody st) t ∧ t { nx := fun _ H' => Q .non H', rt := Q } (start N vs) H) : RunAt P w K mg base f fd ps sp := by
  obtain ⟨oc, od, kV, doc, pm, an, cdv, ct, osl, rfl, lk, hcd⟩ := F.ex
  intro s H us vs Q E e0 hb r hsp
  have few := len _ _ _ _ hsp
  have kin : K.In s.heap := e0.mod.kin.keeps fun b o z => (e0.bs b o z).1
  have lim : s.heap.NoLimit := e0.mod.nolimit.keeps fun b o z => (e0.bs b o z).1
  have kinds : ∀ z ∈ ps.zip us, (defScope st).names.lookup z.1 = some .local ∨ ((defScope st).names.lookup z.1 = some .cell ∧ ((cellsFrom (s.heap.objs.size + 1) (defScope st).names []).lookup z.1).isSome = true) := by
    rintro ⟨n, v⟩ hz
    rcases S.par n (List.of_mem_zip hz).1 with z | z
    · exact .inl z
    · exact .inr ⟨z, PySem.W.cellsFrom_some _ _ _ (.inl z)⟩
  refine codeAny_call_function room.depth (kin _ _ lk) rfl S.co S.gen rfl (PySem.W.codeRec_of kin hcd) (hb _ _ _ _ ?_)
  refine wpAny_newFunctionEnv_cells S.kind kinds fun env he s1 z => ?_
  subst he
  refine ⟨lim.keeps z.toInCall.keep, codeAny_func ?_⟩
  obtain ⟨t, ht, hq⟩ := body cdv s H vs Q E (room.deeper _) hsp
  have I : Inv (cxOf CX0 P w K mg base N qual (defScope st) f cdv callerA [] s H E) [] (start N vs) H s1 := inv_start S room.hd e0 few r z
  refine wpAny_mono (ht.nox.run [] s1 (start N vs) H _ I hq) (fun fl s2 hs => ?_) fun e s2 hs => hs
  cases fl with
  | ret u =>
    obtain ⟨v, σ2, H2, J, rv, q⟩ := hs
    exact ⟨v, H2, J.os, J.bare, J.base, J.hok, rv, q⟩
  | next =>
    obtain ⟨σ2, H2, J, q⟩ := hs
    exact ⟨.non, H2, J.os, J.bare, J.base, J.hok, rfl, q⟩
  | brk =>
    obtain ⟨_, _, _, q⟩ := hs
    exact q.elim
  | cont =>
    obtain ⟨_, _, _, q⟩ := hs
    exact q.elim
theorem law_at {mb : Str → Option Value} {fa p : Addr} {fd : FuncData} {x : Str} {sp : Sp} {s1 : Shared} {vs : List Value} {ns : List Int}
    (kin : K.In s1.heap) (hns : s1.heap.Ns mainGlobals mg) (hb : s1.heap.Ns builtinsNs mb) (hbb : ∀ y : Str, y ≠ "__name__" → mb y = bootBuiltins y) (hlim : s1.heap.NoLimit) (hg : s1.gens = #[])
    (hp : s1.heap.get? p = some { cls := .type "list", data := .seq vs.toArray }) (hi : IntsAre vs ns) (few : ns.length ≤ sizeLine)
    (F : ∀ base : Heap, K.In base → base.Ns mainGlobals mg → RunAt P w K mg base fa fd [x] sp) (binds : ∀ (s : Shared) (u : Value), BindsTo s fd ⟨[u], []⟩ [(x, u)])
    (hsp : ∀ H : Hp, Only H → SqL K H p (ns.map V.int) → sp [.ref p] H (fun v _ => v = .bl true) fun _ _ _ => False) :
    codeAny (model P w) callerA (.call (.ref fa) ⟨[.ref p], []⟩) (fun r s2 => r = .ok (.ret (.bool true)) ∧ OldK s1.heap s2.heap ∧ s2.os = s1.os ∧ AllBare s2.gens) s1 := by
  have rv := vals_ints hi
  have core : ∀ H : Hp, Only H → SqL K H p (ns.map V.int) → HOk P w H s1.heap → (∀ b, H b ≠ none → b = p) → (H p ≠ none → K.lookup p = none) →
      codeAny (model P w) callerA (.call (.ref fa) ⟨[.ref p], []⟩) (fun r s2 => r = .ok (.ret (.bool true)) ∧ OldK s1.heap s2.heap ∧ s2.os = s1.os ∧ AllBare s2.gens) s1 := by
    intro H only seq hok one hK
    have below : ∀ {b : Addr} {o : Obj}, s1.heap.get? b = some o → H b = none → (hidT s1.heap H).get? b = some o := fun e n => hidT_get e n
    have dicts : ∀ {b : Addr} {o : Obj} {es : Array DictEntry} {ep : Nat}, s1.heap.get? b = some o → o.data = .dict es ep → H b = none := by
      intro b o es ep e d
      cases q : H b with
      | none => rfl
      | some u =>
        obtain rfl : b = p := one b (by rw [q]; simp)
        rw [hp] at e
        cases e
        cases (show Data.seq vs.toArray _ = Data.dict es ep from d)
    have spaces : ∀ {b : Addr} {m : Str → Option Value}, s1.heap.Ns b m → (hidT s1.heap H).Ns b m := by
      rintro b m ⟨o, es, ep, e, d, r⟩
      exact ⟨o, es, ep, below e (dicts e d), d, r⟩
    have kin2 : K.In (hidT s1.heap H) := fun b o e => by
      refine below (kin b o e) ?_
      cases q : H b with
      | none => rfl
      | some u =>
        obtain rfl : b = p := one b (by rw [q]; simp)
        rw [hK (by rw [q]; simp)] at e
        cases e
    have mod : Mod K mg (hidT s1.heap H) := by
      obtain ⟨mc, c1, c2⟩ := hlim
      exact ⟨kin2, spaces hns, ⟨mb, spaces hb, hbb⟩, ⟨mc, spaces c1, c2⟩⟩
    have e0 : Env0 P w K mg (hidT s1.heap H) callerA [] s1 H :=
      ⟨rfl, mod, fun b o e => of_hidT e, Nat.le_of_eq (hidT_size _ _), trivial, fun b z => absurd (show b ∈ ([] : List Addr) from z) (by simp), hok, .of_eq hg⟩
    refine codeAny_mono (F _ kin2 (spaces hns) s1 H [.ref p] [.ref p] _ _ e0 (binds s1 (.ref p)) (.cons rfl .nil) (hsp H only seq)) fun r s2 h => ?_
    cases r with
    | error e => exact h.elim
    | ok fl =>
      cases fl with
      | next => exact h.elim
      | brk => exact h.elim
      | cont => exact h.elim
      | ret u =>
        obtain ⟨v, H2, os, bare, un, hok2, rel, q⟩ := h
        obtain rfl : v = .bl true := q
        obtain rfl : u = Value.bool true := rel
        refine ⟨rfl, OldK.of_keep fun b o e => ?_, os, bare⟩
        cases q : H b with
        | none => exact un.keep b o e q (fun z => absurd (show b ∈ ([] : List Addr) from z) (by simp)) (by simp)
        | some u =>
          rcases only b with z | ⟨ob, xs, z⟩
          · rw [q] at z
            cases z
          · obtain ⟨a1, _⟩ := hok b _ z
            obtain ⟨a2, _⟩ := hok2 b _ (un.frzs b ob _ z)
            rw [e] at a1
            cases a1
            exact a2
  cases hk : K.lookup p with
  | some o =>
    have e := kin p o hk
    rw [hp] at e
    cases e
    have lv := hi.length
    refine core (fun _ => none) (fun _ => .inl rfl) (.inr ⟨_, vs.toArray, _, hk, rfl, rfl, rfl, ?_, by simpa using rv⟩) (fun b u z => ?_) (fun b z => absurd rfl z) fun z => absurd rfl z
    · rw [List.size_toArray, lv]
      exact few
    · cases (show (none : Option HO) = some u from z)
  | none =>
    refine core (fun b => if b = p then some (.frz { cls := .type "list", data := .seq vs.toArray } (.lst (ns.map V.int))) else none) (fun b => ?_) (.inl (.inr ⟨{ cls := .type "list", data := .seq vs.toArray }, if_pos rfl⟩)) (fun b u z => ?_) (fun b z => ?_) fun _ => hk
    · by_cases hb : b = p
      · exact .inr ⟨_, _, if_pos hb⟩
      · exact .inl (if_neg hb)
    · by_cases hb : b = p
      · subst hb
        cases (if_pos rfl).symm.trans z
        refine ⟨hp, ?_, vs, _, rv, hp⟩
        rw [List.length_map]
        exact few
      · cases (if_neg hb).symm.trans z
    · by_cases hb : b = p
      · exact hb
      · exact absurd (if_neg hb) z
end
theorem walk_at {l : PySem.W.OpenLaw} {n : Nat} {q : Program} {loose : List Str} {XP : (Str → Option Value) → Heap → Prop} {YP : World → Heap → Prop} {d : DefRec} {K : Params → PySem.W.Frag} {sp : World → Sp} {x : Str}
    (hn : l.most = some n) (hn2 : n ≤ sizeLine) (hdf : d.params.defaults = []) (hY : ∀ (w : World) (h : Heap), YP w h → (K w.params).In h)
    (F : ∀ (w : World) (mg : Str → Option Value) (fa : Addr) (h : Heap), (K w.params).In h → h.Ns mainGlobals mg → mg d.name = some (.ref fa) →
      ∃ fd : FuncData, (∀ (s : Shared) (u : Value), BindsTo s fd ⟨[u], []⟩ [(x, u)]) ∧ ∀ base : Heap, (K w.params).In base → base.Ns mainGlobals mg → RunAt l.prog w (K w.params) mg base fa fd [x] (sp w))
    (hsp : ∀ (w : World) (H : Hp) (a : Addr) (ns : List Int), ns.length ≤ n → Only H → SqL (K w.params) H a (ns.map V.int) → sp w [.ref a] H (fun v _ => v = .bl true) fun _ _ _ => False) :
    PySem.W.WalkO q loose XP YP l.row.toRowW d [] (fun f vs => PySem.call f vs) := by
  refine Att.attach_call hn hdf fun w s0 s1 mg mb fa o pm cd doc a vs ns G Y ho hd hcd hmg hobj hints hlen hg => ?_
  obtain ⟨fd, hb, hF⟩ := F w mg fa _ (hY w _ Y) G.T.g hmg
  exact law_at (hY w _ Y) G.T.g G.T.b G.T.builtins G.T.nolimit hg hobj hints (Nat.le_trans hlen hn2) hF hb fun H only seq => hsp w H a ns hlen only seq

/-! ### promises that hold where nothing is being shown -/
structure FnG (P : Program) (w : World) (K : PySem.W.Frag) (mg : Str → Option Value) (base : Heap) (k : Nat) (f : Addr) (fd : FuncData) (ps : List Str) (sp : Sp) : Prop where
  len : ∀ vs H Q E, sp vs H Q E → vs.length = ps.length
  run : ∀ (A : Around) (out : List Env) (s : Shared) (H : Hp) (us : List Value) (vs : List V) (Q : VK) (E : XK), Room k A → A.guards = some [] → Env0 P w K mg base A out s H → BindsTo s fd ⟨us, []⟩ (ps.zip us) → Vals vs us → sp vs H Q E →
    codeAny (model P w) A (.call (.ref f) ⟨us, []⟩) (CR CX0 out P w H s Q E) s
structure HasG (P : Program) (w : World) (K : PySem.W.Frag) (mg : Str → Option Value) (base : Heap) (k : Nat) (x : Str) (ps : List Str) (sp : Sp) : Prop where
  ex : ∃ f fd, mg x = some (.ref f) ∧ PySem.W.keepIn K (.ref f) = true ∧ Binds K fd ps [] ∧ FnG P w K mg base k f fd ps sp
section
variable {P : Program} {w : World} {K : PySem.W.Frag} {mg : Str → Option Value} {base : Heap}
theorem fnG {x qual : Str} {st : Stmt} {f : Addr} {fd : FuncData} {N ps : List Str} {k : Nat} {sp : Sp} (F : Fun K x qual st f fd) (S : FnScope N ps (defScope st)) (len : ∀ vs H Q E, sp vs H Q E → vs.length = ps.length)
    (body : ∀ (cdv : Value) (A : Around) (out : List Env) (s : Shared) (H : Hp) (vs : List V) (Q : VK) (E : XK), Room k (A.deeper (envOfC qual (defScope st) s.heap.objs.size f cdv)) → (A.deeper (envOfC qual (defScope st) s.heap.objs.size f cdv)).guards = some [] → sp vs H Q E →
      ∃ t, PSs (cxOf CX0 P w K mg base N qual (defScope st) f cdv A out s H E).nox (defBody st) t ∧ t { nx := fun _ H' => Q .non H', rt := Q } (start N vs) H) : FnG P w K mg base (k + 1) f fd ps sp := by
  obtain ⟨oc, od, kV, doc, pm, an, cdv, ct, osl, rfl, lk, hcd⟩ := F.ex
  refine ⟨len, fun A out s H us vs Q E room calm e0 hb r hsp => ?_⟩
  have few := len _ _ _ _ hsp
  have kin : K.In s.heap := e0.mod.kin.keeps fun b o z => (e0.bs b o z).1
  have lim : s.heap.NoLimit := e0.mod.nolimit.keeps fun b o z => (e0.bs b o z).1
  have kinds : ∀ z ∈ ps.zip us, (defScope st).names.lookup z.1 = some .local ∨ ((defScope st).names.lookup z.1 = some .cell ∧ ((cellsFrom (s.heap.objs.size + 1) (defScope st).names []).lookup z.1).isSome = true) := by
    rintro ⟨n, v⟩ hz
    rcases S.par n (List.of_mem_zip hz).1 with z | z
    · exact .inl z
    · exact .inr ⟨z, PySem.W.cellsFrom_some _ _ _ (.inl z)⟩
  refine codeAny_call_function room.depth (kin _ _ lk) rfl S.co S.gen rfl (PySem.W.codeRec_of kin hcd) (hb _ _ _ _ ?_)
  refine wpAny_newFunctionEnv_cells S.kind kinds fun env he s1 z => ?_
  subst he
  refine ⟨lim.keeps z.toInCall.keep, codeAny_func ?_⟩
  obtain ⟨t, ht, hq⟩ := body cdv A out s H vs Q E (room.deeper _) calm hsp
  have I : Inv (cxOf CX0 P w K mg base N qual (defScope st) f cdv A out s H E) [] (start N vs) H s1 := inv_start S room.hd e0 few r z
  refine wpAny_mono (ht.nox.run [] s1 (start N vs) H _ I hq) (fun fl s2 hs => ?_) fun e s2 hs => hs
  cases fl with
  | ret u =>
    obtain ⟨v, σ2, H2, J, rv, q⟩ := hs
    exact ⟨v, H2, J.os, J.bare, J.base, J.hok, rv, q⟩
  | next =>
    obtain ⟨σ2, H2, J, q⟩ := hs
    exact ⟨.non, H2, J.os, J.bare, J.base, J.hok, rfl, q⟩
  | brk =>
    obtain ⟨_, _, _, q⟩ := hs
    exact q.elim
  | cont =>
    obtain ⟨_, _, _, q⟩ := hs
    exact q.elim
theorem has_ofG {x : Str} {st : Stmt} {N ps : List Str} {k : Nat} {sp : Sp} (A : At K mg x st) (S : FnScope N ps (defScope st)) (B : BindsAll x st ps) (len : ∀ vs H Q E, sp vs H Q E → vs.length = ps.length)
    (body : ∀ (f : Addr) (cdv : Value) (A : Around) (out : List Env) (s : Shared) (H : Hp) (vs : List V) (Q : VK) (E : XK), Room k (A.deeper (envOfC x (defScope st) s.heap.objs.size f cdv)) → (A.deeper (envOfC x (defScope st) s.heap.objs.size f cdv)).guards = some [] → sp vs H Q E →
      ∃ t, PSs (cxOf CX0 P w K mg base N x (defScope st) f cdv A out s H E).nox (defBody st) t ∧ t { nx := fun _ H' => Q .non H', rt := Q } (start N vs) H) : HasG P w K mg base (k + 1) x ps sp := by
  obtain ⟨f, fd, hm, F⟩ := A.ex
  exact ⟨f, fd, hm, F.kp, F.binds B, fnG F S len fun cdv A out s H vs Q E hr hg h => body f cdv A out s H vs Q E hr hg h⟩
theorem FnG.at_ {f : Addr} {fd : FuncData} {ps : List Str} {k : Nat} {sp : Sp} (G : FnG P w K mg base k f fd ps sp) (room : Room k callerA) : RunAt P w K mg base f fd ps sp :=
  fun s H us vs Q E e0 hb r hsp => G.run callerA [] s H us vs Q E room rfl e0 hb r hsp
end
section
variable {X : Cx} {k : Nat} {x : Str} {ps : List Str} {sp : Sp} {e : Expr} {es : List Expr} {t : TA} {p pos : Pos}
theorem pe_hasG (h : HasG X.prog X.w X.K X.mg X.base k x ps sp) (hr : Room k X.A) (hgd : X.A.guards = some []) (hg : Gl X x) (ha : PA X (e :: es) t)
    (hdb : (x == ("__debug__" : Str)) = false := by decide) (he : starEach (e :: es) X.env = (false, eval e X.env) :: starEach es X.env := by rfl) (hpl : (backTo pos (starEach es X.env)).any (·.1) = false := by rfl) :
    PE X (.Call (.Name x p) (e :: es) [] pos) (tCall sp [] E0 t) := by
  obtain ⟨f, fd, hm, hk, hb, F⟩ := h.ex
  refine ⟨fun pins s σ H Q I hw => ?_⟩
  refine wpAny_Call_Name_kw (ld_glob I hg hm ?_ hdb)
  refine PySem.W.callWith_K (h₀ := X.base) I.ok.mod.kin hk (thn (ha.run pos pins s σ H _ I hw) fun us s1 ⟨vs, H1, I1, r1, q⟩ => ⟨I1.kIn, ?_⟩) he hpl
  have q : sp vs H1 Q E0 := by
    have z : sp (vs ++ []) H1 Q E0 := q
    rwa [List.append_nil] at z
  have bd := hb s1 us I1.kIn (by rw [List.append_nil, ← r1.length]; exact F.len _ _ _ _ q)
  rw [List.append_nil] at bd
  refine wpAny_call (codeAny_mono (F.run X.A X.stack s1 H1 us vs Q E0 hr hgd I1.env0 bd r1 q) fun r s2 hq => ?_)
  cases r with
  | error e => exact pass0 pins σ H1 s1 e s2 I1 hq
  | ok fl =>
    cases fl with
    | ret u => exact I1.after hq
    | next => exact hq.elim
    | brk => exact hq.elim
    | cont => exact hq.elim
end
/-! ### repr of None, of a whole number, of a list -/
structure Showy (x : PyData) : Prop where
  s : x.showable = true
  n : x.hasDict = false
  d : x.depth ≤ 60
  l : x.shown.length ≤ sizeLine
theorem call_reprV {X : Cx} (hgd : X.A.guards = some []) (hu : X.A.units + 64 < cLine) : CallR X (.builtin "repr") (fun xs H Q => (xs = [.non] ∧ Q (.str "None") H) ∨ (∃ i, xs = [.int i] ∧ i.natAbs.log2 < 1920 ∧ Q (.str (toString i)) H) ∨
    ∃ a d, xs = [.ref a] ∧ Dp X.K H (.ref a) d ∧ Showy d ∧ Q (.str d.shown) H) := by
  intro pins s σ H xs us Q I r h
  rcases h with ⟨rfl, q⟩ | ⟨i, rfl, hi, q⟩ | ⟨a, d, rfl, hd, sh, q⟩
  · obtain ⟨u, rfl, ru⟩ := vals1 r
    cases ru
    exact PySem.P.repr_of_none ⟨.str "None", H, I.tok _, ⟨_, rfl⟩, q⟩
  · obtain ⟨u, rfl, t, rfl⟩ := vals1 r
    exact PySem.P.repr_of_int hi ⟨.str (toString i), H, I.tok _, ⟨_, rfl⟩, q⟩
  · obtain ⟨u, rfl, ru⟩ := vals1 r
    cases ru
    obtain ⟨as, rd⟩ := Dp.reads I d (.ref a) (.ref a) hd rfl
    have h3 := sh.d
    exact repr_of_reads' (s := s) rd sh.s (fun z => by rw [sh.n] at z; cases z) hgd (by omega) (fun _ _ z => z) (fun h2 u tk k => ⟨.str d.shown, H, I.kept (t' := tk) k, ⟨_, rfl⟩, q⟩) sh.l

/-! ### the draws -/
def spDraw : Sp := fun vs H Q _ => ∃ (t c : Addr) (m : Int) (n : Nat), vs = [.ref t, .int m] ∧ Tape H t c n ∧ n < 2 ^ 40 ∧ 0 < m ∧ m < 2 ^ 8000 ∧
  ∀ (H' : Hp) (r : Int), 0 ≤ r → r < m → Tape H' t c (n + 1) → Kp t H H' → Q (.int r) H'
theorem cell_at {ns : List Int} {spot : Int} (h0 : 0 < ns.length) (hs : 0 ≤ spot) : ∃ x, atI (ns.map V.int) (spot % ((ns.map V.int).length : Int)) = some (.int x) := by
  rw [List.length_map]
  have hp : (0 : Int) < (ns.length : Int) := by omega
  have h1 := Int.emod_nonneg spot (show (ns.length : Int) ≠ 0 by omega)
  have h2 := Int.emod_lt_of_pos spot hp
  have h3 : (spot % (ns.length : Int)).toNat < ns.length := by omega
  refine ⟨ns[(spot % (ns.length : Int)).toNat], at_of (j := (spot % (ns.length : Int)).toNat) (by omega) ?_⟩
  rw [List.getElem?_map, List.getElem?_eq_getElem h3]
  rfl
theorem log2_small {m : Int} (h0 : 0 < m) (h : m < 2 ^ 8000) : m.natAbs.log2 < 9000 := by
  have h2 : m.natAbs < 2 ^ 8000 := by
    have e : ((2 ^ 8000 : Nat) : Int) = (2 : Int) ^ 8000 := by rw [Int.natCast_pow]; rfl
    omega
  exact Nat.lt_of_lt_of_le (PySem.Flt.log2_lt_of (by decide) h2) (by decide)
theorem pow_ok {x spot : Int} {n : Nat} (h0 : 0 ≤ spot) (h1 : spot ≤ n) (h2 : n < 2 ^ 40) : CPow (x % 2147483647 + 69621 * spot + 48271) 17 := by
  have a := Int.emod_nonneg x (show (2147483647 : Int) ≠ 0 by decide)
  have b := Int.emod_lt_of_pos x (show (0 : Int) < 2147483647 by decide)
  refine ⟨by decide, by decide, ?_⟩
  have e : (2 : Nat) ^ 64 = 18446744073709551616 := by decide
  rw [e]
  omega
section
variable {P : Program} {w : World} {K : PySem.W.Frag} {mg : Str → Option Value} {base : Heap}
theorem has_draw (T : Top K mg) : Has P w K mg base 1 "_law_draw" ["_law_tape", "_law_many"] spDraw := by
  refine has_of T.d__law_draw sc__law_draw bd__law_draw (fun vs H Q E h => ?_) (fun f cdv A outer s H vs Q E hr h => ?_)
  · obtain ⟨t, c, m, n, rfl, _⟩ := h
    rfl
  · have hu := hu_of hr
    have nd := sc__law_draw.nd
    obtain ⟨t, c, m, n, rfl, ⟨ns, spot, left, tp, hs⟩, hn, hm, hm2, k⟩ := h
    refine ⟨_, (C8.pss_cut (ps_if (pt_cmpR op_lt (pe_dget hu (pv 0) pe_str (fun _ _ => rfl)) (pv 1) (nomark _)) (pss_cons (ps_par (i := 2) (j := 3) (by rfl) nd rfl rfl (by decide) rfl rfl (pa_cons (pe_dget hu (pv 0) pe_str (fun _ _ => rfl)) (pa_cons (pe_callB call_len_seq (by rfl) T.b_len (by decide +kernel) (pa_cons (pe_dget hu (pv 0) pe_str (fun _ _ => rfl)) pa_nil)) pa_nil)) (by rfl))
    (pss_cons (ps_asg (pe_tup (pa_cons (pe_ix ix_list (pe_dget hu (pv 0) pe_str (fun _ _ => rfl)) (pe_op op_mod (pv 2) (pv 3)) (fun _ _ => rfl)) (pa_cons (pe_op op_add (pv 2) pe_int) pa_nil))) (pg_tup (by rfl) (pgs_cons (pg_name (i := 4) nd rfl (.inl rfl)) (pgs_cons (pg_sub (pv 0) pe_str (set_dict hu)) pgs_nil))))
    (pss_cons (ps_dput hu (pv 0) pe_str (pe_op op_mod (pe_op op_pow (pe_op op_add (pe_op op_add (pe_op op_mod (pv 4) pe_int) (pe_op op_mul pe_int (pv 2))) pe_int) pe_int) (pe_op op_add (pe_op op_pow pe_int pe_int) pe_int)) rfl)
    (pss_one (ps_if (PW.pt (pw_and (pt_cmpR op_ge (pv 4) (pe_op op_pow pe_int pe_int) (nomark _)) (pw_and1 (pt_cmpR op_lt (pv 2) (pv 3) (nomark _))))) (pss_one (ps_dput hu (pv 0) pe_str (pe_op op_sub (pv 4) (pe_op op_pow pe_int pe_int)) rfl)) pss_nil))))) pss_nil)
    (pss_cons (ps_asg (pe_tup (pa_cons (pe_op op_mod (pe_dget hu (pv 0) pe_str (fun _ _ => rfl)) (pv 1)) (pa_cons (pe_op op_fdivW (pe_dget hu (pv 0) pe_str (fun _ _ => rfl)) (pv 1)) pa_nil))) (pg_tup (by rfl) (pgs_cons (pg_name (i := 5) nd rfl (.inl rfl)) (pgs_cons (pg_sub (pv 0) pe_str (set_dict hu)) pgs_nil))))
    (pss_one (ps_ret (pv 5))))), ?_⟩
    refine ⟨fun σ' H' => ∃ (v2 v3 v4 v5 : Option V) (spot' left' : Int), σ' = [some (.ref t), some (.int m), v2, v3, v4, v5] ∧ TapeC H' t c ns spot' left' ∧ spot' ≤ ((n + 1 : Nat) : Int) ∧ Kp t H H', ?_, ?_⟩
    · refine ⟨_, rfl, t, _, rfl, dg_left tp.d, _, rfl, _, _, rfl, rfl, _, rfl, ite2 (fun _ => ?_) (fun _ => ?_)⟩
      · obtain ⟨x, hx⟩ := cell_at tp.ne tp.s0
        refine ⟨_, rfl, t, _, rfl, dg_spot tp.d, _, rfl, t, _, rfl, dg_cells tp.d, c, _, rfl, .inl (SqL.of tp.l), _, _, rfl, ?_⟩
        refine ⟨_, rfl, t, _, rfl, dg_cells tp.d, _, rfl, _, rfl, _, _, rfl, rfl, ?_, c, _, _, _, rfl, rfl, SqL.of tp.l, hx, _, rfl, _, _, rfl, rfl, by show 2 ≤ sizeLine; decide, fun p hp => ?_⟩
        · show (0 : Int) < ((ns.map V.int).length : Int)
          rw [List.length_map]
          have := tp.ne
          omega
        have h1 : (upd H p (.tup [.int x, .int (spot + 1)])) t = some (.dK (tk c spot left)) := by
          rw [upd_ne (ne_of_none tp.d hp)]
          exact tp.d
        refine ⟨p, _, rfl, SqT.of upd_same, rfl, _, _, rfl, _, _, rfl, _, rfl, t, _, rfl, dp_spot _ h1, rfl, ?_⟩
        have c1 : (upd (upd H p (.tup [.int x, .int (spot + 1)])) t (.dK (tk c (spot + 1) left))) c = some (.lst (ns.map V.int)) := by
          rw [upd_ne (show c ≠ t from ne_of tp.l tp.d (by intro z; cases z)), upd_ne (ne_of_none tp.l hp)]
          exact tp.l
        refine ⟨_, rfl, _, _, rfl, rfl, by show (0 : Int) < 2147483647; decide, _, rfl, _, _, rfl, rfl, .inl ⟨by decide, by decide⟩, _, _, rfl, rfl, _, _, rfl, rfl, _, _, rfl, rfl, pow_ok tp.s0 hs hn, _, _, rfl, rfl, ⟨by decide, by decide, by decide⟩, _, _, rfl, rfl, _, _, rfl, rfl, ?_, _, rfl, t, _, rfl, dp_left _ upd_same, ?_⟩
        · show (0 : Int) < 10 ^ (50 : Int).toNat + 151
          decide
        have kp : ∀ z, Kp t H (upd (upd (upd H p (.tup [.int x, .int (spot + 1)])) t (.dK (tk c (spot + 1) left))) t (.dK (tk c (spot + 1) z))) := fun z => ((Kp.new hp).trans Kp.at).trans Kp.at
        have tq : ∀ z, 0 ≤ z → TapeC (upd (upd (upd H p (.tup [.int x, .int (spot + 1)])) t (.dK (tk c (spot + 1) left))) t (.dK (tk c (spot + 1) z))) t c ns (spot + 1) z := fun z hz =>
          ⟨upd_same, by rw [upd_ne (show c ≠ t from ne_of tp.l tp.d (by intro z; cases z))]; exact c1, tp.ne, tp.lt, by have := tp.s0; omega, hz⟩
        have h0 : ∀ a : Int, 0 ≤ a % (10 ^ (50 : Int).toNat + 151) := fun a => Int.emod_nonneg _ (by decide)
        refine ⟨_, rfl, _, _, rfl, rfl, ⟨by decide, by decide, by decide⟩, _, _, rfl, rfl, _, rfl, ite2 (fun hc => ?_) (fun _ => iteF ?_)⟩
        · refine ⟨_, rfl, _, rfl, _, _, rfl, rfl, _, rfl, ite2 (fun _ => ?_) (fun _ => ?_)⟩
          · refine ⟨_, rfl, _, _, rfl, rfl, ⟨by decide, by decide, by decide⟩, _, _, rfl, rfl, _, rfl, t, _, rfl, dp_left _ upd_same, ?_⟩
            have hz : (10 : Int) ^ (18 : Int).toNat ≤ x := of_decide_eq_true hc
            exact ⟨_, _, _, _, spot + 1, x - 10 ^ (18 : Int).toNat, rfl, ⟨upd_same, by rw [upd_ne (show c ≠ t from ne_of tp.l tp.d (by intro z; cases z))]; exact (tq _ (h0 _)).l, tp.ne, tp.lt, by have := tp.s0; omega, by omega⟩, by omega, (kp _).trans Kp.at⟩
          · exact ⟨_, _, _, _, _, _, rfl, tq _ (h0 _), by omega, kp _⟩
        · exact ⟨_, _, _, _, _, _, rfl, tq _ (h0 _), by omega, kp _⟩
      · exact ⟨_, _, _, _, _, _, rfl, tp, by omega, Kp.refl _⟩
    · rintro σ' H' ⟨v2, v3, v4, v5, spot', left', rfl, tp', hs', kp⟩
      refine ⟨_, rfl, t, _, rfl, dg_left tp'.d, _, rfl, _, _, rfl, rfl, hm, _, rfl, t, _, rfl, dg_left tp'.d, _, rfl, _, _, rfl, rfl, ⟨hm, ?_⟩, by show 2 ≤ sizeLine; decide, fun p hp => ?_⟩
      · exact log2_small hm hm2
      have h1 : ∀ o, (upd H' p o) t = some (.dK (tk c spot' left')) := fun o => by
          rw [upd_ne (ne_of_none tp'.d hp)]
          exact tp'.d
      refine ⟨p, _, rfl, SqT.of upd_same, rfl, _, _, rfl, _, _, rfl, _, rfl, t, _, rfl, dp_left _ (h1 _), rfl, ?_⟩
      refine ⟨_, rfl, k _ _ (Int.emod_nonneg _ (by omega)) (Int.emod_lt_of_pos _ hm) ?_ ?_⟩
      · exact ⟨ns, spot', _, ⟨upd_same, by rw [upd_ne (show c ≠ t from ne_of tp'.l tp'.d (by intro z; cases z)), upd_ne (ne_of_none tp'.l hp)]; exact tp'.l, tp'.ne, tp'.lt, tp'.s0, Int.ediv_nonneg tp'.l0 (by omega)⟩, hs'⟩
      · exact (kp.trans (Kp.new hp)).trans Kp.at
/-- a pick from a list or a tuple -/
def spPick (K : PySem.W.Frag) : Sp := fun vs H Q _ => ∃ (t c a : Addr) (xs : List V) (n : Nat), vs = [.ref t, .ref a] ∧ Tape H t c n ∧ n < 2 ^ 40 ∧ (∀ H', Kp t H H' → SqL K H' a xs ∨ SqT K H' a xs) ∧ 0 < xs.length ∧ xs.length ≤ 1000000 ∧
  ∀ (H' : Hp) (i : Nat) (v : V), xs[i]? = some v → Tape H' t c (n + 1) → Kp t H H' → Q v H'
theorem atI_ofN {α : Type} {xs : List α} {z : Int} {j : Nat} {v : α} (e : z = (j : Int)) (h : xs[j]? = some v) : atI xs z = some v := by
  rw [e]
  exact atI_nat h
/-- a pick from a text -/
def spPickS : Sp := fun vs H Q _ => ∃ (t c : Addr) (z : Str) (n : Nat), vs = [.ref t, .str z] ∧ Tape H t c n ∧ n < 2 ^ 40 ∧ 0 < z.length ∧ z.length ≤ 1000000 ∧
  ∀ (H' : Hp) (i u : Nat), z.cps.toList[i]? = some u → Tape H' t c (n + 1) → Kp t H H' → Q (.str ⟨#[u]⟩) H'
def spPick2 (K : PySem.W.Frag) : Sp := fun vs H Q E => spPick K vs H Q E ∨ spPickS vs H Q E
theorem call_len_any {X : Cx} : CallR X (.builtin "len") (fun xs H Q => (∃ p ys, xs = [.ref p] ∧ (SqL X.K H p ys ∨ SqT X.K H p ys) ∧ Q (.int (ys.length : Nat)) H) ∨ ∃ z : Str, xs = [.str z] ∧ z.length ≤ sizeLine ∧ Q (.int z.length) H) := by
  intro pins s σ H xs us Q I r h
  rcases h with h | h
  · exact call_len_seq pins s σ H xs us Q I r h
  · exact call_len_str pins s σ H xs us Q I r h
theorem has_pick (T : Top K mg) (h__law_draw : Has P w K mg base 1 "_law_draw" ["_law_tape", "_law_many"] spDraw) : Has P w K mg base 2 "_law_pick" ["_law_tape", "_law_some"] (spPick2 K) := by
  refine has_of T.d__law_pick sc__law_pick bd__law_pick (fun vs H Q E h => ?_) (fun f cdv A outer s H vs Q E hr h => ?_)
  · rcases h with ⟨t, c, a, xs, n, rfl, _⟩ | ⟨t, c, z, n, rfl, _⟩ <;> rfl
  · have hu := hu_of hr
    have nd := sc__law_pick.nd
    refine ⟨_, (pss_one (ps_ret (pe_ix ix_seq (pv 1) (pe_has h__law_draw (hr.mono (by omega)) (by rfl) (pa_cons (pv 0) (pa_cons (pe_callB call_len_any (by rfl) T.b_len (by decide +kernel) (pa_cons (pv 1) pa_nil)) pa_nil))) (fun _ _ => rfl)))), ?_⟩
    rcases h with ⟨t, c, a, xs, n, rfl, tp, hn, hs, h0, h1, k⟩ | ⟨t, c, z, n, rfl, tp, hn, h0, h1, k⟩
    · refine ⟨_, rfl, _, rfl, _, rfl, .inl ⟨a, xs, rfl, hs H (Kp.refl _), t, c, _, n, rfl, tp, hn, by omega, ?_, fun H' r r0 r1 tp' kp => ?_⟩⟩
      · exact Int.lt_of_le_of_lt (Int.ofNat_le.mpr h1) (by decide +kernel)
      have hi : r.toNat < xs.length := by omega
      have g : xs[r.toNat]? = some xs[r.toNat] := List.getElem?_eq_getElem hi
      rcases hs H' kp with z | z
      · exact .inl ⟨a, xs, r, _, rfl, rfl, z, at_of (by omega) g, k H' _ _ g tp' kp⟩
      · exact .inr (.inl ⟨a, xs, r, _, rfl, rfl, z, at_of (by omega) g, k H' _ _ g tp' kp⟩)
    · have lin : z.length ≤ sizeLine := Nat.le_trans h1 (by decide)
      refine ⟨_, rfl, _, rfl, _, rfl, .inr ⟨z, rfl, lin, t, c, _, n, rfl, tp, hn, by omega, ?_, fun H' r r0 r1 tp' kp => ?_⟩⟩
      · exact Int.lt_of_le_of_lt (Int.ofNat_le.mpr h1) (by decide +kernel)
      have hi : r.toNat < z.cps.toList.length := by
        have e : z.cps.toList.length = z.length := by rw [Array.length_toList]; rfl
        omega
      have g : z.cps.toList[r.toNat]? = some z.cps.toList[r.toNat] := List.getElem?_eq_getElem hi
      refine .inr (.inr ⟨z, r, _, rfl, rfl, lin, ?_, k H' _ _ g tp' kp⟩)
      exact atI_ofN (by omega) g
/-- the tape's beginning -/
def spBegun (K : PySem.W.Frag) : Sp := fun vs H Q _ => ∃ (a : Addr) (ns : List Int), vs = [.ref a] ∧ SqL K H a (ns.map V.int) ∧ ns.length ≤ 63 ∧
  ∀ (H' : Hp) (t c : Addr), H t = none → H c = none → Same H H' → Tape H' t c 0 → Q (.ref t) H'
theorem has_begun (T : Top K mg) : Has P w K mg base 1 "_law_begun" ["_law_script"] (spBegun K) := by
  refine has_of T.d__law_begun sc__law_begun bd__law_begun (fun vs H Q E h => ?_) (fun f cdv A outer s H vs Q E hr h => ?_)
  · obtain ⟨a, ns, rfl, _⟩ := h
    rfl
  · have hu := hu_of hr
    have nd := sc__law_begun.nd
    obtain ⟨a, ns, rfl, hS, hl, k⟩ := h
    refine ⟨_, (pss_one (ps_ret (pe_disp (pps_cons pe_str (pe_orT (pe_slice sl_list (pv 0) po_none (po_some pe_int)) (pe_one (pe_lst (pa_cons pe_int pa_nil)))) (pps_cons pe_str pe_int (pps_cons pe_str pe_int pps_nil))) (by rfl) (by rfl) (fun z => by cases z) (by decide)))), ?_⟩
    intro t ht
    have s1 := same_new (o := .dK []) ht
    refine ⟨_, rfl, 63, rfl, a, _, rfl, s1.seq hS, fun q hq => ?_⟩
    have ec : cutV (ns.map V.int) none (some 63) = ns.map V.int := by
      unfold cutV
      rw [HT.sIx_none, show HT.sIx (ns.map V.int).length (ns.map V.int).length (some 63) = min 63 (ns.map V.int).length from HT.sIx_nat _ _ 63, List.drop_zero, List.length_map]
      refine List.take_of_length_le ?_
      rw [List.length_map]
      omega
    rw [ec]
    have nqt : q ≠ t := fun e => by
      rw [e, upd_same] at hq
      cases hq
    have nq : H q = none := by
      rw [← hq, upd_ne nqt]
    cases hns : ns with
    | cons z zs =>
      refine ⟨true, .inl ⟨_, SqL.of upd_same, rfl⟩, iteT ?_⟩
      refine ⟨by rw [upd_ne nqt.symm]; exact upd_same, tk q 0 0, rfl, by show 3 ≤ 15; decide, ?_⟩
      refine k _ t q ht nq (fun b o e => ?_) ⟨z :: zs, 0, 0, ⟨upd_same, by rw [upd_ne nqt]; exact upd_same, by rw [List.length_cons]; omega, by rw [← hns]; exact hl, by decide, by decide⟩, by decide⟩
      rw [upd_ne (ne_of_none e ht), upd_ne (ne_of_none e nq), upd_ne (ne_of_none e ht)]
      exact e
    | nil =>
      refine ⟨false, .inl ⟨_, SqL.of upd_same, rfl⟩, iteF ?_⟩
      refine ⟨by show 1 ≤ sizeLine; decide, fun p hp => ?_⟩
      have npq : p ≠ q := fun e => by
        rw [e, upd_same] at hp
        cases hp
      have npt : p ≠ t := fun e => by
        rw [e, upd_ne nqt.symm, upd_same] at hp
        cases hp
      have np : H p = none := by
        rw [← hp, upd_ne npq, upd_ne npt]
      refine ⟨by rw [upd_ne npt.symm, upd_ne nqt.symm]; exact upd_same, tk p 0 0, rfl, by show 3 ≤ 15; decide, ?_⟩
      refine k _ t p ht np (fun b o e => ?_) ⟨[0], 0, 0, ⟨upd_same, by rw [upd_ne npt]; exact upd_same, by decide, by decide, by decide, by decide⟩, by decide⟩
      rw [upd_ne (ne_of_none e ht), upd_ne (ne_of_none e np), upd_ne (ne_of_none e nq), upd_ne (ne_of_none e ht)]
      exact e
end

/-! ### small things -/
theorem int_at {rs : List Int} {i : Nat} {x : V} (h : (rs.map V.int)[i]? = some x) : ∃ r, x = .int r ∧ rs[i]? = some r := by
  rw [List.getElem?_map] at h
  cases e : rs[i]? with
  | none =>
    rw [e] at h
    cases h
  | some r =>
    rw [e] at h
    exact ⟨r, (Option.some.inj h).symm, rfl⟩
/-- the truth that is told of a number of a clause -/
theorem pick_int {zs : List Int} {i : Nat} {v : V} (h : (zs.map V.int)[i]? = some v) : ∃ z, v = .int z ∧ z ∈ zs := by
  obtain ⟨r, e, hr⟩ := int_at h
  exact ⟨r, e, List.mem_of_getElem? hr⟩
theorem seq_in {n : Nat} {i : Int} (h0 : 0 ≤ i) (h1 : i < n) : seqIndex? i n = some i.toNat := by
  have e : ixN n i = some i.toNat := by
    unfold ixN
    rw [if_pos h0, if_pos h1]
  exact (ixN_seq e).1
theorem pow8000 {x : Int} (h : x ≤ 1000000) : x < 2 ^ 8000 := Int.lt_of_le_of_lt h (by decide +kernel)
theorem Tape.sq {H : Hp} {t c p : Addr} {n : Nat} {xs : List V} (h : Tape H t c n) (e : H p = some (.lst xs)) {H' : Hp} (k : Kp t H H') : H' p = some (.lst xs) := k p _ e (by
  obtain ⟨ns, spot, left, tc, _⟩ := h
  exact ne_of e tc.d (by intro z; cases z))
theorem Tape.ne_lst' {H : Hp} {t c p : Addr} {n : Nat} {xs : List V} (h : Tape H t c n) (e : H p = some (.lst xs)) : p ≠ t := by
  obtain ⟨ns, spot, left, tc, _⟩ := h
  exact ne_of e tc.d (by intro z; cases z)
theorem getElem_snoc {α : Type} {xs : List α} {x y : α} {i : Nat} (h : (xs ++ [x])[i]? = some y) : (i < xs.length ∧ xs[i]? = some y) ∨ (i = xs.length ∧ x = y) := by
  by_cases c : i < xs.length
  · rw [List.getElem?_append_left c] at h
    exact .inl ⟨c, h⟩
  · rw [List.getElem?_append_right (by omega)] at h
    have l := (List.getElem?_eq_some_iff.mp h).1
    simp only [List.length_cons, List.length_nil] at l
    have e : i - xs.length = 0 := by omega
    rw [e] at h
    exact .inr ⟨by omega, Option.some.inj h⟩
theorem same_mut {H H' : Hp} {D : Addr} {o : HO} (s : Same H H') (h : H D = none) : Same H (upd H' D o) := fun b u e => by
  rw [upd_ne (ne_of_none e h)]
  exact s b u e
theorem take_snoc {xs : List Int} {i : Nat} {x : Int} (h : xs[i]? = some x) : xs.take (i + 1) = xs.take i ++ [x] := by
  rw [List.take_add_one, h]
  rfl

/-! ### rules: a text a few times, a tuple a few times -/
theorem op_repTK {X : Cx} {K : PySem.W.Frag} (h : X.K = K) : OpR X (binaryOp .Mult) (rRepT K) := h ▸ op_repT
def repS (k : Int) (z : Str) : Str := ⟨(List.replicate k.toNat z.cps).foldl (· ++ ·) #[]⟩
theorem op_repS {X : Cx} : OpR X (binaryOp .Mult) (fun x y H Q => ∃ (z : Str) (k : Int), x = .str z ∧ y = .int k ∧ 2 ≤ k ∧ k ≤ 1000 ∧ 1 ≤ z.length ∧ z.length ≤ 1000 ∧ (repS k z).length ≤ sizeLine ∧ Q (.str (repS k z)) H) := by
  intro pins s σ H x y v u Q I rx ry h
  obtain ⟨z, k, rfl, rfl, h1, h2, h3, h4, h5, q⟩ := h
  obtain ⟨t, rfl⟩ := rx
  obtain ⟨t', rfl⟩ := ry
  have c1 : ¬ k < 1 := by omega
  have c2 : (k == 1 || z.length == 0) = false := by
    rw [Bool.or_eq_false_iff]
    exact ⟨by simp; omega, by simp; omega⟩
  refine PySem.P.mul_str ?_ (fun _ _ => ?_) (fun _ _ => ?_) ?_
  · rw [Bool.or_eq_false_iff]
    exact ⟨decide_eq_false (by omega), decide_eq_false (by omega)⟩
  · have e : (1000 : Int) ≤ (2 ^ 63 - 1) / k := (Int.le_ediv_iff_mul_le (by omega)).mpr (by omega)
    omega
  · have e : z.length * k.toNat ≤ 1000 * 1000 := Nat.mul_le_mul h4 (by omega)
    have e2 : sizeLine = 16777216 := sizeLine_eq
    show decide (_ > sizeLine) = false
    refine decide_eq_false ?_
    omega
  · rw [if_neg c1, if_neg (by rw [c2]; exact Bool.false_ne_true)]
    exact ⟨h5, .str (repS k z), H, I.tok _, ⟨_, rfl⟩, q⟩
/-- a def whose promise can't be asked -/
theorem has_zero {P : Program} {w : World} {K : PySem.W.Frag} {mg : Str → Option Value} {base : Heap} {x : Str} {st : Stmt} {ps : List Str} {sp : Sp} (A : At K mg x st) (B : BindsAll x st ps) (no : ∀ vs H Q E, ¬ sp vs H Q E) : Has P w K mg base 0 x ps sp := by
  obtain ⟨f, fd, hm, F⟩ := A.ex
  exact ⟨f, fd, hm, F.kp, F.binds B, fun vs H Q E h => absurd h (no _ _ _ _), fun A out s H args us vs Q E _ _ _ _ h => absurd h (no _ _ _ _)⟩
/-! ### data made of tuples: they stay whatever becomes of lists -/
mutual
inductive Tp (H : Hp) : V → PyData → Prop
  | non : Tp H .non .none
  | bl (b : Bool) : Tp H (.bl b) (.bool b)
  | int (i : Int) : Tp H (.int i) (.int i)
  | str (x : Str) : Tp H (.str x) (.str x)
  | tup {a : Addr} {xs : List V} {ds : List PyData} : H a = some (.tup xs) → TpAll H xs ds → Tp H (.ref a) (.tuple ds)
inductive TpAll (H : Hp) : List V → List PyData → Prop
  | nil : TpAll H [] []
  | cons {v : V} {vs : List V} {d : PyData} {ds : List PyData} : Tp H v d → TpAll H vs ds → TpAll H (v :: vs) (d :: ds)
end
/-- tuples stay -/
def KT (H H' : Hp) : Prop := ∀ a xs, H a = some (.tup xs) → H' a = some (.tup xs)
theorem KT.refl {H : Hp} : KT H H := fun _ _ h => h
theorem KT.trans {H H1 H2 : Hp} (a : KT H H1) (b : KT H1 H2) : KT H H2 := fun c xs h => b c xs (a c xs h)
theorem KT.same {H H' : Hp} (s : Same H H') : KT H H' := fun a xs h => s a _ h
theorem KT.kp {H H' : Hp} {t c : Addr} {n : Nat} (tp : Tape H t c n) (k : Kp t H H') : KT H H' := fun a xs h => by
  obtain ⟨ns', sp', lf', tc, _⟩ := tp
  exact k _ _ h (ne_of h tc.d (by intro z; cases z))
theorem KT.lst {H : Hp} {D : Addr} {xs : List V} {o : HO} (h : H D = some (.lst xs)) : KT H (upd H D o) := fun a ys e => by
  rw [upd_ne (ne_of e h (by intro z; cases z))]
  exact e
theorem KT.new {H : Hp} {p : Addr} {o : HO} (h : H p = none) : KT H (upd H p o) := KT.same (same_new h)
mutual
theorem Tp.kt {H H' : Hp} (s : KT H H') : ∀ {v : V} {d : PyData}, Tp H v d → Tp H' v d
  | _, _, .non => .non
  | _, _, .bl b => .bl b
  | _, _, .int i => .int i
  | _, _, .str x => .str x
  | _, _, .tup h r => .tup (s _ _ h) (TpAll.kt s r)
theorem TpAll.kt {H H' : Hp} (s : KT H H') : ∀ {vs : List V} {ds : List PyData}, TpAll H vs ds → TpAll H' vs ds
  | _, _, .nil => .nil
  | _, _, .cons h r => .cons (Tp.kt s h) (TpAll.kt s r)
end
mutual
theorem Tp.dp {K : PySem.W.Frag} {H : Hp} : ∀ {v : V} {d : PyData}, Tp H v d → Dp K H v d
  | _, _, .non => .non
  | _, _, .bl b => .bl b
  | _, _, .int i => .int i
  | _, _, .str x => .str x
  | _, _, .tup h r => .tup (SqT.of h) (TpAll.dp r)
theorem TpAll.dp {K : PySem.W.Frag} {H : Hp} : ∀ {vs : List V} {ds : List PyData}, TpAll H vs ds → DpAll K H vs ds
  | _, _, .nil => .nil
  | _, _, .cons h r => .cons (Tp.dp h) (TpAll.dp r)
end
theorem TpAll.snoc {H : Hp} {v : V} {d : PyData} : ∀ {vs : List V} {ds : List PyData}, TpAll H vs ds → Tp H v d → TpAll H (vs ++ [v]) (ds ++ [d])
  | _, _, .nil, h => .cons h .nil
  | _, _, .cons a r, h => .cons a (r.snoc h)
theorem TpAll.app {H : Hp} {ws : List V} {es : List PyData} : ∀ {vs : List V} {ds : List PyData}, TpAll H vs ds → TpAll H ws es → TpAll H (vs ++ ws) (ds ++ es)
  | _, _, .nil, h => h
  | _, _, .cons a r, h => .cons a (r.app h)
theorem TpAll.len {H : Hp} : ∀ {vs : List V} {ds : List PyData}, TpAll H vs ds → vs.length = ds.length
  | _, _, .nil => rfl
  | _, _, .cons _ r => by rw [List.length_cons, List.length_cons, r.len]
theorem TpAll.get {H : Hp} : ∀ {vs : List V} {ds : List PyData} {i : Nat} {d : PyData}, TpAll H vs ds → ds[i]? = some d → ∃ v, vs[i]? = some v ∧ Tp H v d
  | _, _, _, _, .nil, e => by cases e
  | _, _, 0, _, .cons a _, e => ⟨_, rfl, by cases e; exact a⟩
  | _, _, i + 1, _, .cons _ r, e => r.get e
theorem tp_rep {H : Hp} {v : V} {d : PyData} (h : Tp H v d) : ∀ n, TpAll H (List.replicate n v) (List.replicate n d)
  | 0 => .nil
  | n + 1 => .cons h (tp_rep h n)
theorem Tp.new {H : Hp} {p : Addr} {xs : List V} {ds : List PyData} (n : H p = none) (r : TpAll H xs ds) : Tp (upd H p (.tup xs)) (.ref p) (.tuple ds) := .tup upd_same (r.kt (KT.new n))
theorem flat_one {v : V} : ∀ n : Nat, (List.replicate n [v]).flatten = List.replicate n v
  | 0 => rfl
  | n + 1 => by
    rw [List.replicate_succ, List.flatten_cons, flat_one n]
    rfl
/-! ### a comprehension over a range, whose items are new -/
section
variable {K : PySem.W.Frag} {tt : TT} {te : TE} {vs : List Nat} {σ : L2.St} {H : Hp} {D : Addr} {Qd : Hp → Prop} {j : Nat}
theorem lc_rangeC {lo c : Int} {n : Nat} {g : TG} (Pv : Nat → Hp → Prop) (h0 : Pv 0 (upd H D (.lst [])))
    (hs : ∀ i H, i < n → Pv i H → g (.int (lo + (i : Nat) * c)) (wipe σ vs) H fun σ2 H2 => wipe σ2 vs = wipe σ vs ∧ tt σ2 H2 fun b H3 =>
      if b = true then te σ2 H3 fun y H4 => ∃ acc, H4 D = some (.lst acc) ∧ acc.length < sizeLine ∧ Pv (i + 1) (upd H4 D (.lst (acc ++ [y]))) else Pv (i + 1) H3) (hd : ∀ H, Pv n H → Qd H) :
    ∃ W : Nat → Nat → Hp → Prop, (∃ m, W 0 m (upd H D (.lst []))) ∧ ∀ i m H, W i m H →
      ((Itc lo c n).stop i H ∧ Qd H) ∨ ((Itc lo c n).go i H ∧ ∃ Nx : Hp → Prop, (∀ H', Nx H' → ∃ m', m' < m ∧ W (i + 1) m' H') ∧ ∀ x H', (Itc lo c n).yld i H x H' → g x (wipe σ vs) H' fun σ2 H2 => wipe σ2 vs = wipe σ vs ∧ tt σ2 H2 fun b H3 =>
        if b = true then te σ2 H3 fun y H4 => ∃ acc, H4 D = some (.lst acc) ∧ acc.length < sizeLine ∧ Nx (upd H4 D (.lst (acc ++ [y]))) else Nx H3) := by
  refine ⟨fun i m H => m = n - i ∧ i ≤ n ∧ Pv i H, ⟨n, by simp, Nat.zero_le _, h0⟩, ?_⟩
  rintro i m H ⟨rfl, hi, p⟩
  by_cases hlt : i < n
  · refine .inr ⟨hlt, Pv (i + 1), fun H' p' => ⟨n - (i + 1), by omega, rfl, hlt, p'⟩, fun x H' y => ?_⟩
    obtain ⟨rfl, rfl⟩ := y
    exact hs i H' hlt p
  · have e : i = n := by omega
    subst e
    exact .inl ⟨Nat.le_refl _, hd H p⟩
/-- what stands at a turn: so many items that are data -/
structure TpT (H H' : Hp) (D : Addr) (ds : List PyData) : Prop where
  s : Same H H'
  ex : ∃ xs, H' D = some (.lst xs) ∧ TpAll H' xs ds
theorem TpT.new (hD : H D = none) : TpT H (upd H D (.lst [])) D [] := ⟨same_new hD, [], upd_same, .nil⟩
/-- an item more -/
theorem TpT.put {H1 H2 : Hp} {y : V} {d : PyData} {ds : List PyData} (hD : H D = none) (p : TpT H H1 D ds) (s : Same H1 H2) (small : ds.length < sizeLine) (hy : Tp H2 y d) :
    ∃ acc, H2 D = some (.lst acc) ∧ acc.length < sizeLine ∧ TpT H (upd H2 D (.lst (acc ++ [y]))) D (ds ++ [d]) := by
  obtain ⟨xs, e, r⟩ := p.ex
  have e2 := s _ _ e
  refine ⟨xs, e2, by rw [r.len]; exact small, same_mut (p.s.trans s) hD, _, upd_same, ?_⟩
  exact ((r.kt (KT.same s)).snoc hy).kt (KT.lst e2)
end

/-! ### how parts are shown -/
mutual
inductive Lf : PyData → Prop
  | int (i : Int) (h : i.natAbs < 10 ^ 13) : Lf (.int i)
  | str (x : Str) (h : (x.cps.toList.all fun c => decide (c < 16 ^ 8)) = true) : Lf (.str x)
  | tup {ds : List PyData} : LfAll ds → Lf (.tuple ds)
inductive LfAll : List PyData → Prop
  | nil : LfAll []
  | cons {d : PyData} {ds : List PyData} : Lf d → LfAll ds → LfAll (d :: ds)
end
theorem lf_one : Lf (.int 1) := .int 1 (by decide)
mutual
theorem Lf.shows : ∀ {d : PyData}, Lf d → d.showable = true ∧ d.hasDict = false ∧ PyData.leavesShort 14 d = true
  | _, .int i h => by
    have lg : i.natAbs.log2 < 44 := PySem.Flt.log2_lt_of (by decide) (Nat.lt_trans h (by decide))
    refine ⟨?_, by rw [PyData.hasDict], ?_⟩
    · rw [PyData.showable]
      exact decide_eq_true (by omega)
    · rw [PyData.leavesShort]
      refine decide_eq_true ?_
      show (Str.ofString (toString i)).length ≤ 14
      rw [PySem.ofString_length]
      exact int_text_length_le10 (k := 13) (by decide) h
  | _, .str x h => ⟨by rw [PyData.showable], by rw [PyData.hasDict], by rw [PyData.leavesShort]; exact h⟩
  | _, .tup r => by
    obtain ⟨a, b, c⟩ := LfAll.shows r
    exact ⟨by rw [PyData.showable]; exact a, by rw [PyData.hasDict]; exact b, by rw [PyData.leavesShort]; exact c⟩
theorem LfAll.shows : ∀ {ds : List PyData}, LfAll ds → PyData.showableAll ds = true ∧ PyData.hasDictAll ds = false ∧ PyData.leavesShortAll 14 ds = true
  | _, .nil => ⟨rfl, rfl, rfl⟩
  | _, .cons h r => by
    obtain ⟨a, b, c⟩ := Lf.shows h
    obtain ⟨a2, b2, c2⟩ := LfAll.shows r
    exact ⟨by rw [PyData.showableAll, a, a2]; rfl, by rw [PyData.hasDictAll, b, b2]; rfl, by rw [PyData.leavesShortAll, c, c2]; rfl⟩
end
theorem Lf.showy {d : PyData} (h : Lf d) (dp : d.depth ≤ 60) (wt : d.weight ≤ 100000) : Showy d := by
  obtain ⟨a, b, c⟩ := h.shows
  refine ⟨a, b, dp, ?_⟩
  have z := PyData.shown_le 14 (by decide) d c
  have e : sizeLine = 16777216 := sizeLine_eq
  omega
theorem lf_rep {d : PyData} (h : Lf d) : ∀ n, LfAll (List.replicate n d)
  | 0 => .nil
  | n + 1 => .cons h (lf_rep h n)
theorem lf_map {α : Type} {f : α → PyData} : ∀ {l : List α}, (∀ x ∈ l, Lf (f x)) → LfAll (l.map f)
  | [], _ => .nil
  | x :: r, h => .cons (h x List.mem_cons_self) (lf_map fun y hy => h y (List.mem_cons_of_mem _ hy))
theorem dep_map {α : Type} {f : α → PyData} {m : Nat} : ∀ {l : List α}, (∀ x ∈ l, (f x).depth ≤ m) → PyData.depthAll (l.map f) ≤ m
  | [], _ => Nat.zero_le _
  | x :: r, h => by
    rw [List.map_cons, PyData.depthAll]
    exact Nat.max_le.mpr ⟨h x List.mem_cons_self, dep_map fun y hy => h y (List.mem_cons_of_mem _ hy)⟩
theorem wt_map {α : Type} {f : α → PyData} {m : Nat} : ∀ {l : List α}, (∀ x ∈ l, (f x).weight ≤ m) → PyData.weightAll (l.map f) ≤ (m + 1) * l.length
  | [], _ => Nat.zero_le _
  | x :: r, h => by
    have a := h x List.mem_cons_self
    have b := wt_map (l := r) fun y hy => h y (List.mem_cons_of_mem _ hy)
    rw [List.map_cons, PyData.weightAll, List.length_cons, Nat.mul_succ]
    omega
theorem rep_map {d : PyData} (n : Nat) : List.replicate n d = (List.range n).map fun _ => d := by
  rw [List.map_const', List.length_range]
theorem wt_one : (PyData.int 1).weight = 1 := by rfl
theorem dep_one : (PyData.int 1).depth = 0 := by rfl
/-- repr, where nothing is being shown -/
structure RRepr (K : PySem.W.Frag) (xs : List V) (H : Hp) (Q : VK) : Prop where
  h : (xs = [.non] ∧ Q (.str "None") H) ∨ (∃ i, xs = [.int i] ∧ i.natAbs.log2 < 1920 ∧ Q (.str (toString i)) H) ∨ ∃ a d, xs = [.ref a] ∧ Dp K H (.ref a) d ∧ Showy d ∧ Q (.str d.shown) H
theorem call_reprW {X : Cx} (hgd : X.A.guards = some []) (hu : X.A.units + 64 < cLine) : CallR X (.builtin "repr") (RRepr X.K) := fun pins s σ H xs us Q I r h => call_reprV hgd hu pins s σ H xs us Q I r h.h
/-- a tuple's repr -/
theorem tp_reprT {K : PySem.W.Frag} {H : Hp} {v : V} {ds : List PyData} {Q : VK} (t : Tp H v (.tuple ds)) (ok : Showy (.tuple ds)) (q : Q (.str (PyData.tuple ds).shown) H) : RRepr K [v] H Q := by
  cases t with
  | tup h r => exact ⟨.inr (.inr ⟨_, _, rfl, (Tp.tup h r).dp, ok, q⟩)⟩
theorem Lf.showy2 {d : PyData} (h : Lf d) (dp : d.depth ≤ 60) (wt : d.bulk ≤ 900000) : Showy d := by
  obtain ⟨a, b, c⟩ := h.shows
  refine ⟨a, b, dp, ?_⟩
  have z := PyData.shown_le_bulk 14 (by decide) d c
  have e : sizeLine = 16777216 := sizeLine_eq
  omega

/-! ### a tuple once; a list that a tuple is put behind -/
theorem tuple_mul1 (l : Addr) (items : Array Value) (n : Nat) (dd : Option Addr) (sl : Array (Option Value)) (u : Tok) :
    Meets (Builtin.«tuple.__mul__» ⟨[.ref l, .int 1 u], []⟩) (fun _ R s => s.heap.get? l = some { cls := .type "tuple", dict := dd, data := .seq items n, slots := sl } ∧ R (.ok (.ret (Value.ref l))) s) :=
  .of_wp fun prog w A R s h => by
    obtain ⟨hp, g, d, tk, os⟩ := s
    obtain ⟨hl, h⟩ := h
    have f1 := AutoSeq1.idx_int
    have c1 : (items.isEmpty || (1 : Int) == 1) = true := by
      rw [show ((1 : Int) == 1) = true from rfl, Bool.or_true]
    wp_walk using wpAny_loadPart' hl
    repeat (first
      | (refine wpAny_ite_true (decide_eq_true (by rw [c1])) ?_; wp_walk using wpAny_loadPart' hl)
      | (refine wpAny_ite_false (by decide) ?_; wp_walk using wpAny_loadPart' hl))
    exact ⟨_, rfl, h⟩
theorem list_extendT (l : Addr) (items : Array Value) (n : Nat) (b : Addr) (items2 : Array Value) (n2 : Nat) (dd : Option Addr) (sl : Array (Option Value)) (hs0 : ¬(!items.isEmpty && Builtin.List.listTooLong (items.size + items2.size)) = true) (hs1 : items.size ≤ sizeLine) (hs2 : items.size + items2.size ≤ sizeLine + 1) :
    Meets (Builtin.«list.extend» ⟨[.ref l, .ref b], []⟩) (fun _ R s => s.heap.get? l = some { cls := .type "list", dict := none, data := .seq items n, slots := #[] } ∧ s.heap.get? b = some { cls := .type "tuple", dict := dd, data := .seq items2 n2, slots := sl } ∧ R (.ok (.ret Value.none)) { s with heap := s.heap.update l (Obj.mapSeq fun x => x ++ items2), toks := s.toks }) :=
  .of_wp fun prog w A R s h => by
    obtain ⟨hp, g, d, tk, os⟩ := s
    obtain ⟨hl, hb, h⟩ := h
    have f1 := AutoSeq1.idx_int
    have f2 := AutoSeq1.sub_tuple_tuple
    have f3 := AutoSeq1.sub_list_list
    have f4 := AutoSeq1.sub_tuple_list
    have f5 := AutoSeq1.sub_list_tuple
    have hz' : (items ++ items2).size ≤ sizeLine + 1 := by rw [Array.size_append]; exact hs2
    wp_walk using (wpAny_updateSeq hl rfl (hz := hs1) (_hz' := hz')), wpAny_loadPart' hl, wpAny_loadPart' hb
    exact ⟨_, rfl, h⟩
section
variable {X : Cx}
def rExtendT (K : PySem.W.Frag) : V → List V → Hp → VK → Prop := fun x vs H Q => ∃ l b xs zs, x = .ref l ∧ vs = [.ref b] ∧ H l = some (.lst xs) ∧ SqT K H b zs ∧ xs.length + zs.length ≤ sizeLine ∧ Q .non (upd H l (.lst (xs ++ zs)))
theorem mt_extendT : MtM X "list.extend" (rExtendT X.K) := by
  intro pins s σ H x vs v us Q I rx rv h
  obtain ⟨l, b, xs, zs, rfl, rfl, hH, hB, hz, q⟩ := h
  cases rx
  obtain ⟨u, rfl, ru⟩ := rv.one
  cases ru
  obtain ⟨z, its, n, r, hl, e⟩ := I.lstM hH
  obtain ⟨its2, r2, ⟨⟨cls, dd, data, sl⟩, ho, hc, n2, hd⟩, hs⟩ := I.tuple hB
  simp only at hc hd
  subst hc hd
  have l2 : its2.length = zs.length := r2.length.symm
  have hsz : its.toArray.size + its2.toArray.size ≤ sizeLine := by rw [List.size_toArray, List.size_toArray]; omega
  have hlong : ¬ (!its.toArray.isEmpty && Builtin.List.listTooLong (its.toArray.size + its2.toArray.size)) = true := by
    have e : Builtin.List.listTooLong (its.toArray.size + its2.toArray.size) = false := by
      unfold Builtin.List.listTooLong
      exact decide_eq_false (by omega)
    rw [e, Bool.and_false]
    exact Bool.false_ne_true
  refine call_meets F.slot_list_extend ⟨_, e, rfl⟩ F.entry_list_extend (F.args_list_extend_2 _ _)
    (list_extendT l its.toArray n b its2.toArray n2 dd sl hlong (by rw [List.size_toArray]; omega) (by omega)) ⟨e, ho, ?_⟩
  refine ⟨.non, _, I.lset (its' := its ++ its2) hH e (by simp) (r.append r2) ?_, rfl, q⟩
  rw [List.length_append]
  omega
/-- t * k, once too -/
def rRepT1 (K : PySem.W.Frag) : R2 := fun x y H Q => (∃ l xs, x = .ref l ∧ y = .int 1 ∧ SqT K H l xs ∧ Q (.ref l) H) ∨ rRepT K x y H Q
theorem op_repT1 : OpR X (binaryOp .Mult) (rRepT1 X.K) := by
  intro pins s σ H x y v u Q I rx ry h
  rcases h with ⟨l, xs, rfl, rfl, hT, q⟩ | h
  · cases rx
    obtain ⟨t, rfl⟩ := ry
    obtain ⟨its, r, ⟨⟨cls, dd, data, sl⟩, ho, hc, n, hd⟩, hs⟩ := I.tuple hT
    simp only at hc hd
    subst hc hd
    exact wpAny_binaryOp_repeat_ref (T := "tuple") (U := "int") (by decide) ⟨_, ho, rfl⟩ (fun s' => typeIs_int s' 1 t) noFill_tuple_mul F.fills_int_mul F.slot_int_rmul repeat_tuple F.slot_int_index.lookup
      (call_meets F.slot_int_rmul (typeIs_int s 1 t) F.entry_int_rmul (F.args_int_rmul_2 _ _) (int_rmul_tuple 1 t l its.toArray n dd sl)
        ⟨ho, rfl, ⟨_, ho, rfl⟩, call_meets F.slot_tuple_mul ⟨_, ho, rfl⟩ F.entry_tuple_mul (F.args_tuple_mul_2 _ _) (tuple_mul1 l its.toArray n dd sl t) ⟨ho, ⟨.ref l, H, I, rfl, q⟩⟩⟩)
  · exact op_repT pins s σ H x y v u Q I rx ry h
theorem op_repT1K {K : PySem.W.Frag} (h : X.K = K) : OpR X (binaryOp .Mult) (rRepT1 K) := h ▸ op_repT1
end

/-! ### things -/
inductive Plain (H : Hp) : V → Prop where
  | non : Plain H .non
  | bl (b : Bool) : Plain H (.bl b)
  | int (i : Int) : Plain H (.int i)
  | str (s : Str) : Plain H (.str s)
  | lst {a : Addr} {xs : List V} (h : H a = some (.lst xs)) : Plain H (.ref a)
  | tup {a : Addr} {xs : List V} (h : H a = some (.tup xs)) : Plain H (.ref a)
def isIntV : V → Bool
  | .int _ => true
  | _ => false
def isNumV : V → Bool
  | .int _ => true
  | .bl _ => true
  | _ => false
def isBlV : V → Bool
  | .bl _ => true
  | _ => false
theorem whole_V (x : V) : isIntV x = (isNumV x && !isBlV x) := by cases x <;> rfl
theorem plain_ty {K : PySem.W.Frag} {H : Hp} {x : V} (h : Plain H x) : ∃ s, TyX K H x (.type s) ∧ PySem.W.kitOne K (.type s) (.type "int") = some (isNumV x) ∧ PySem.W.kitOne K (.type s) (.type "bool") = some (isBlV x) := by
  cases h with
  | non => exact ⟨_, .base .non, kit_ty (by decide +kernel), kit_ty (by decide +kernel)⟩
  | bl b => exact ⟨_, .base (.bl b), kit_ty (by show kitB "bool" "int" = some true; decide +kernel), kit_ty (by show kitB "bool" "bool" = some true; decide +kernel)⟩
  | int i => exact ⟨_, .base (.int i), kit_ty (by show kitB "int" "int" = some true; decide +kernel), kit_ty (by show kitB "int" "bool" = some false; decide +kernel)⟩
  | str s => exact ⟨_, .base (.str s), kit_ty (by show kitB "str" "int" = some false; decide +kernel), kit_ty (by show kitB "str" "bool" = some false; decide +kernel)⟩
  | lst e => exact ⟨_, .base (.lst e), kit_ty (by show kitB "list" "int" = some false; decide +kernel), kit_ty (by show kitB "list" "bool" = some false; decide +kernel)⟩
  | tup e => exact ⟨_, .base (.tup e), kit_ty (by show kitB "tuple" "int" = some false; decide +kernel), kit_ty (by show kitB "tuple" "bool" = some false; decide +kernel)⟩
def absI (n : Int) : Int := if n < 0 then -n else n
def markV : V → Bool
  | .int i => decide (1 ≤ absI i) && decide (absI i ≤ 1000000000000)
  | _ => false
theorem int_of {x : V} (h : isIntV x = true) : ∃ i, x = .int i := by
  cases x <;> first | exact ⟨_, rfl⟩ | exact Bool.noConfusion h
theorem mark_no {x : V} (h : isIntV x = false) : markV x = false := by
  cases x <;> first | rfl | exact Bool.noConfusion h

def spWhole : Sp := fun vs H Q _ => ∃ x, vs = [x] ∧ Plain H x ∧ Q (.bl (isIntV x)) H
section
variable {P : Program} {w : World} {K : PySem.W.Frag} {mg : Str → Option Value} {base : Heap}
theorem has_whole (T : Top K mg) : Has P w K mg base 1 "is_whole" ["thing"] spWhole := by
  refine has_of T.d_is_whole sc_is_whole bd_is_whole (fun vs H Q E h => ?_) (fun f cdv A outer s H vs Q E hr h => ?_)
  · obtain ⟨x, rfl, _⟩ := h
    rfl
  · have hu := hu_of hr
    have nd := sc_is_whole.nd
    obtain ⟨x, rfl, hx, k⟩ := h
    refine ⟨_, (pss_one (ps_ret (pe_and (pe_callB call_isi (by rfl) T.b_isinstance (by decide +kernel) (pa_cons (pv 0) (pa_cons (pe_bltn (v := .ty "int") (u := .type "int") (by rfl) T.b_int (by decide +kernel) (by rfl)) pa_nil))) (pe_one (pe_not (pe_callB call_isi (by rfl) T.b_isinstance (by decide +kernel) (pa_cons (pv 0) (pa_cons (pe_bltn (v := .ty "bool") (u := .type "bool") (by rfl) T.b_bool (by decide +kernel) (by rfl)) pa_nil)))))))), ?_⟩
    obtain ⟨s, ty, e1, e2⟩ := plain_ty (K := K) hx
    refine ⟨_, rfl, x, .ty "int", _, _, _, rfl, .ty _, ty, e1, _, rfl, ?_⟩
    rw [whole_V] at k
    cases hb : isNumV x with
    | false =>
      rw [hb] at k
      exact iteF k
    | true =>
      rw [hb] at k
      refine iteT ⟨_, rfl, x, .ty "bool", _, _, _, rfl, .ty _, ty, e2, _, rfl, ?_⟩
      exact k
end

/-! ### pieces of lists and tuples -/
theorem cut_ij (xs : List V) (i j : Nat) : cutV xs (some (i : Int)) (some (j : Int)) = (xs.drop i).take (j - i) := by
  unfold cutV
  rw [HT.sIx_nat, HT.sIx_nat]
  by_cases h : i ≤ xs.length
  · rw [Nat.min_eq_left h]
    by_cases h2 : j ≤ xs.length
    · rw [Nat.min_eq_left h2]
    · rw [Nat.min_eq_right (by omega), List.take_of_length_le (by rw [List.length_drop]; omega), List.take_of_length_le (by rw [List.length_drop]; omega)]
  · rw [List.drop_eq_nil_of_le (by omega : xs.length ≤ min i xs.length), List.drop_eq_nil_of_le (by omega : xs.length ≤ i), List.take_nil, List.take_nil]
theorem cut_0j (xs : List V) (j : Nat) : cutV xs none (some (j : Int)) = xs.take j := by
  unfold cutV
  rw [HT.sIx_none, HT.sIx_nat, List.drop_zero, Nat.sub_zero]
  by_cases h2 : j ≤ xs.length
  · rw [Nat.min_eq_left h2]
  · rw [Nat.min_eq_right (by omega), List.take_of_length_le (Nat.le_refl _), List.take_of_length_le (by omega)]
theorem cut_iE (xs : List V) (i : Nat) : cutV xs (some (i : Int)) none = xs.drop i := by
  unfold cutV
  rw [HT.sIx_none, HT.sIx_nat]
  by_cases h : i ≤ xs.length
  · rw [Nat.min_eq_left h, List.take_of_length_le (by rw [List.length_drop]; omega)]
  · rw [List.drop_eq_nil_of_le (by omega : xs.length ≤ min i xs.length), List.drop_eq_nil_of_le (by omega : xs.length ≤ i), List.take_nil]
section
variable {K : PySem.W.Frag} {H : Hp} {a : Addr} {xs : List V} {Q : VK}
theorem piece_take {m : Int} {n : Nat} (e : m = (n : Int)) (ha : H a = some (.tup xs)) (k : ∀ H' r, Same H H' → H' r = some (.tup (xs.take n)) → Q (.ref r) H') : rSlA K (.ref a) none (some m) H Q := by
  subst e
  refine ⟨a, xs, rfl, SqT.of ha, fun h => ?_, fun _ p hp => ?_⟩
  · rw [HT.sIx_nat] at h
    refine k H a (Same.refl _) ?_
    rw [List.take_of_length_le (by omega)]
    exact ha
  · rw [cut_0j]
    exact k _ p (same_new hp) upd_same
theorem piece_mid {m l : Int} {i j : Nat} (e1 : m = (i : Int)) (e2 : l = (j : Int)) (ha : H a = some (.tup xs)) (k : ∀ H' r, Same H H' → H' r = some (.tup ((xs.drop i).take (j - i))) → Q (.ref r) H') : rSlA K (.ref a) (some m) (some l) H Q := by
  subst e1 e2
  refine ⟨a, xs, rfl, SqT.of ha, fun h => ?_, fun _ p hp => ?_⟩
  · rw [HT.sIx_nat, HT.sIx_nat] at h
    refine k H a (Same.refl _) ?_
    have e : (xs.drop i).take (j - i) = xs := by
      rw [← cut_ij]
      unfold cutV
      rw [HT.sIx_nat, HT.sIx_nat, h.1, h.2, Nat.sub_zero, List.drop_zero, List.take_length]
    rw [e]
    exact ha
  · rw [cut_ij]
    exact k _ p (same_new hp) upd_same
theorem piece_drop {m : Int} {i : Nat} (e1 : m = (i : Int)) (ha : H a = some (.tup xs)) (k : ∀ H' r, Same H H' → H' r = some (.tup (xs.drop i)) → Q (.ref r) H') : rSlA K (.ref a) (some m) none H Q := by
  subst e1
  refine ⟨a, xs, rfl, SqT.of ha, fun h => ?_, fun _ p hp => ?_⟩
  · rw [HT.sIx_nat, HT.sIx_none] at h
    refine k H a (Same.refl _) ?_
    have e : xs.drop i = xs := by
      rw [← cut_iE]
      unfold cutV
      rw [HT.sIx_nat, HT.sIx_none, h.1, Nat.sub_zero, List.drop_zero, List.take_length]
    rw [e]
    exact ha
  · rw [cut_iE]
    exact k _ p (same_new hp) upd_same
end
theorem piece_dropC {K : PySem.W.Frag} {σ : L2.St} {H : Hp} {a : Addr} {xs : List V} {Q : VK} {m : Int} {i : Nat} (e1 : m = (i : Int)) (ha : H a = some (.tup xs)) (k : ∀ H' r, Same H H' → H' r = some (.tup (xs.drop i)) → Q (.ref r) H') :
    tNoPart σ H fun u H3 => rSlA K (.ref a) (some m) u H3 Q := piece_drop e1 ha k
theorem cut_one1 (l : List Int) (a : Nat) : cutV (l.map V.int) (some (a : Int)) (some ((a : Int) + 1)) = ((l.drop a).take 1).map V.int := by
  rw [show (a : Int) + 1 = ((a + 1 : Nat) : Int) from rfl, cut_ij, show a + 1 - a = 1 by omega, List.map_take, List.map_drop]
theorem flat_l (l : List Int) : (l.map V.int).all flatV = true := by
  rw [List.all_eq_true]
  intro v hv
  obtain ⟨i, _, rfl⟩ := List.mem_map.mp hv
  rfl
theorem inV_l (x : Int) (l : List Int) : inV (.int x) (l.map V.int) = decide (x ∈ l) := by
  unfold inV
  rw [List.any_map]
  by_cases h : x ∈ l
  · rw [decide_eq_true h, List.any_eq_true]
    exact ⟨x, h, decide_eq_true rfl⟩
  · rw [decide_eq_false h, List.any_eq_false]
    intro y hy z
    have z : decide (y = x) = true := z
    exact h (of_decide_eq_true z ▸ hy)
theorem iteFq {p : Prop} [Decidable p] {A B : Prop} (h : ¬ p) (b : B) : if decide p = true then A else B := by
  rw [if_neg fun z => h (of_decide_eq_true z)]
  exact b
theorem none_left {xs : List V} : (xs.filter fun _ => false).map (fun x => x) = [] := by
  rw [List.filter_eq_nil_iff.mpr fun _ _ => Bool.false_ne_true]
  rfl

/-! ### tuples put behind one another, the one or the other of which may be empty -/
section
variable {K : PySem.W.Frag} {H : Hp} {a b : Addr} {xs ys : List V} {Q : VK}
theorem tup_catA (ha : H a = some (.tup xs)) (hb : H b = some (.tup ys)) (small : xs.length + ys.length ≤ sizeLine) (k : ∀ H' r, Same H H' → H' r = some (.tup (xs ++ ys)) → Q (.ref r) H') : rCatA K (.ref a) (.ref b) H Q := by
  refine ⟨a, b, xs, ys, rfl, rfl, SqT.of ha, SqT.of hb, small, fun e => ?_, fun _ e => ?_, fun _ _ p hp => k _ p (same_new hp) upd_same⟩
  · subst e
    exact k H b (Same.refl _) hb
  · subst e
    refine k H a (Same.refl _) ?_
    rw [List.append_nil]
    exact ha
end
section
variable {X : Cx}
theorem sl_tupAK {K : PySem.W.Frag} (h : X.K = K) : SlR X (rSlA K) := h ▸ sl_tupA
theorem op_catAK {K : PySem.W.Frag} (h : X.K = K) : OpR X (binaryOp .Add) (rCatA K) := h ▸ op_catA
end

/-! ### a reading told more shortly -/
theorem pt_wk {X : Cx} {e : Expr} {t : TT} (u : TT) (h : PT X e t) (hw : ∀ σ H R, u σ H R → t σ H R) : PT X e u := ⟨fun pins s σ H Q I hq => h.run pins s σ H Q I (hw σ H Q hq)⟩
theorem ps_or2 {X : Cx} {st : Stmt} {t u : TS} (h : PS X st t) (h2 : PS X st u) : PS X st (fun D σ H => t D σ H ∨ u D σ H) := ⟨fun pins s σ H D I rd => rd.elim (fun z => h.run pins s σ H D I z) fun z => h2.run pins s σ H D I z⟩
/-- a or b, a a dict, frozen or not -/
def tOrD (ta tb : TE) : TE := fun σ H Q => ta σ H fun x H1 => ∃ (a : Addr) (kvs : List (Key × V)), x = .ref a ∧ Rd H1 a (.dK kvs) ∧ if kvs.isEmpty = true then tb σ H1 Q else Q x H1
theorem pe_orD {X : Cx} {a b : Expr} {ta tb : TE} {rest : List Expr} {pos : Pos} (ha : PE X a ta) (hb : PE X (.BoolOp .Or (b :: rest) pos) tb) : PE X (.BoolOp .Or (a :: b :: rest) pos) (tOrD ta tb) := by
  refine ⟨fun pins s σ H Q I h => BoolOp_or (thn (ha.run pins s σ H _ I h) fun v s1 z => ?_)⟩
  obtain ⟨x, H1, I1, rx, d, kvs, rfl, rd, q⟩ := z
  cases rx
  refine d_truth I1 rd fun s' I' => ?_
  cases e : kvs.isEmpty with
  | true =>
    rw [e, if_pos rfl] at q
    rw [Bool.not_true, if_neg Bool.false_ne_true]
    exact hb.run pins s' σ H1 Q I' q
  | false =>
    rw [e, if_neg Bool.false_ne_true] at q
    rw [Bool.not_false, if_pos rfl]
    exact ⟨.ref d, H1, I', rfl, q⟩

/-! ### parts and plans, counted: are.lean's plain part -/
mutual
def onesP : PyData → Nat
  | .int _ => 1
  | .tuple ds => onesAll ds
  | _ => 0
def onesAll : List PyData → Nat
  | [] => 0
  | d :: ds => onesP d + onesAll ds
end
mutual
def szP : PyData → Nat
  | .tuple ds => szAll ds + 1
  | _ => 1
def szAll : List PyData → Nat
  | [] => 0
  | d :: ds => szP d + szAll ds
end
/-- whether a thing is joined of parts, by its word and how many -/
def joinedP : PyData → Bool
  | .tuple (.str w :: ds) => decide (ds ≠ []) && (decide (w = "sums") || (decide (w = "net") && decide (ds.length = 2)))
  | _ => false
mutual
/-- trees of words and ones -/
inductive Wt : PyData → Prop
  | one : Wt (.int 1)
  | tup (w : Str) {ds : List PyData} : ds ≠ [] → WtAll ds → Wt (.tuple (.str w :: ds))
inductive WtAll : List PyData → Prop
  | nil : WtAll []
  | cons {d : PyData} {ds : List PyData} : Wt d → WtAll ds → WtAll (d :: ds)
end
mutual
/-- parts, so many tuples around them -/
inductive Good : Nat → PyData → Prop
  | one {o : Nat} : Good o (.int 1)
  | tup {o : Nat} {w : Str} {ds : List PyData} : o < 60 → joinedP (.tuple (.str w :: ds)) = true → GoodAll (o + 1) ds → Good o (.tuple (.str w :: ds))
inductive GoodAll : Nat → List PyData → Prop
  | nil {o : Nat} : GoodAll o []
  | cons {o : Nat} {d : PyData} {ds : List PyData} : Good o d → GoodAll o ds → GoodAll o (d :: ds)
end
theorem joined_ne {w : Str} {ds : List PyData} (h : joinedP (.tuple (.str w :: ds)) = true) : ds ≠ [] := by
  unfold joinedP at h
  exact of_decide_eq_true (Bool.and_eq_true_iff.mp h).1
mutual
theorem Good.wt : ∀ {o : Nat} {d : PyData}, Good o d → Wt d
  | _, _, .one => .one
  | _, _, .tup _ j r => .tup _ (joined_ne j) (GoodAll.wt r)
theorem GoodAll.wt : ∀ {o : Nat} {ds : List PyData}, GoodAll o ds → WtAll ds
  | _, _, .nil => .nil
  | _, _, .cons h r => .cons (Good.wt h) (GoodAll.wt r)
end
mutual
theorem Good.pos : ∀ {o : Nat} {d : PyData}, Good o d → 1 ≤ onesP d
  | _, _, .one => Nat.le_refl _
  | _, _, .tup (w := w) (ds := ds) _ j r => by
    have ne := joined_ne j
    rw [onesP, onesAll]
    have l := GoodAll.pos r
    have : 1 ≤ ds.length := List.length_pos_iff.mpr ne
    omega
theorem GoodAll.pos : ∀ {o : Nat} {ds : List PyData}, GoodAll o ds → ds.length ≤ onesAll ds
  | _, _, .nil => Nat.le_refl _
  | _, _, .cons h r => by
    rw [onesAll, List.length_cons]
    have := Good.pos h
    have := GoodAll.pos r
    omega
end
theorem onesAll_app : ∀ (a b : List PyData), onesAll (a ++ b) = onesAll a + onesAll b
  | [], b => by rw [List.nil_append, onesAll, Nat.zero_add]
  | x :: a, b => by rw [List.cons_append, onesAll, onesAll, onesAll_app a b, Nat.add_assoc]
theorem szAll_app : ∀ (a b : List PyData), szAll (a ++ b) = szAll a + szAll b
  | [], b => by rw [List.nil_append, szAll, Nat.zero_add]
  | x :: a, b => by rw [List.cons_append, szAll, szAll, szAll_app a b, Nat.add_assoc]
theorem szP_pos : ∀ d : PyData, 1 ≤ szP d
  | .tuple ds => by
    rw [szP]
    omega
  | .none => Nat.le_refl 1
  | .bool _ => Nat.le_refl 1
  | .int _ => Nat.le_refl 1
  | .str _ => Nat.le_refl 1
  | .list _ => Nat.le_refl 1
  | .dict _ => Nat.le_refl 1
theorem len_sz : ∀ ds : List PyData, ds.length ≤ szAll ds
  | [] => Nat.zero_le _
  | d :: ds => by
    rw [List.length_cons, szAll]
    have := szP_pos d
    have := len_sz ds
    omega
theorem WtAll.app : ∀ {a b : List PyData}, WtAll a → WtAll b → WtAll (a ++ b)
  | _, _, .nil, h => h
  | _, _, .cons x r, h => .cons x (r.app h)
theorem WtAll.snoc_inv : ∀ {a : List PyData} {d : PyData}, WtAll (a ++ [d]) → WtAll a ∧ Wt d
  | [], _, .cons h _ => ⟨.nil, h⟩
  | _ :: _, _, .cons h r => ⟨.cons h r.snoc_inv.1, r.snoc_inv.2⟩
theorem TpAll.snoc_inv {H : Hp} : ∀ {vs : List V} {v : V} {ds : List PyData}, TpAll H (vs ++ [v]) ds → ∃ es d, ds = es ++ [d] ∧ TpAll H vs es ∧ Tp H v d
  | [], _, _, .cons h .nil => ⟨[], _, rfl, .nil, h⟩
  | x :: vs, _, _, .cons h r => by
    obtain ⟨es, d, e, a, b⟩ := r.snoc_inv
    exact ⟨_ :: es, d, by rw [e]; rfl, .cons h a, b⟩
theorem dropLast_snoc {xs : List V} {y : V} : (xs ++ [y]).dropLast = xs := List.dropLast_concat
theorem last_snoc {xs : List V} {y : V} : (xs ++ [y])[(xs ++ [y]).length - 1]? = some y := by
  rw [List.length_append, List.length_singleton, Nat.add_sub_cancel, List.getElem?_append_right (Nat.le_refl _), Nat.sub_self]
  rfl
theorem snoc_of2 {α : Type} {l : List α} (h : l ≠ []) : ∃ r x, l = r ++ [x] := ⟨l.dropLast, l.getLast h, (List.dropLast_concat_getLast h).symm⟩
/-- such a thing is a whole number or a tuple -/
theorem wt_cases {H : Hp} {v : V} {d : PyData} (t : Tp H v d) (h : Wt d) : (d = .int 1 ∧ v = .int 1) ∨ ∃ (a : Addr) (w : Str) (xs : List V) (ds : List PyData), d = .tuple (.str w :: ds) ∧ v = .ref a ∧ H a = some (.tup (.str w :: xs)) ∧ TpAll H xs ds ∧ WtAll ds ∧ ds ≠ [] := by
  cases h with
  | one =>
    cases t with
    | int i => exact .inl ⟨rfl, rfl⟩
  | tup w ne r =>
    cases t with
    | tup ha rr =>
      cases rr with
      | cons h1 h2 =>
        cases h1 with
        | str x => exact .inr ⟨_, w, _, _, rfl, rfl, ha, h2, r, ne⟩
theorem cut_one {x : V} {xs : List V} : cutV (x :: xs) (some 1) none = xs := by
  unfold cutV
  rw [HT.sIx_none, show HT.sIx (x :: xs).length 0 (some 1) = min 1 (x :: xs).length from HT.sIx_nat _ _ 1]
  rw [show min 1 (x :: xs).length = 1 from Nat.min_eq_left (by rw [List.length_cons]; omega)]
  show List.take _ xs = xs
  exact List.take_of_length_le (by rw [List.length_cons]; omega)
theorem cut_part {x : V} {xs : List V} : ¬ (HT.sIx (x :: xs).length 0 (some 1) = 0 ∧ HT.sIx (x :: xs).length (x :: xs).length none = (x :: xs).length) := by
  rw [show HT.sIx (x :: xs).length 0 (some 1) = min 1 (x :: xs).length from HT.sIx_nat _ _ 1]
  rw [show min 1 (x :: xs).length = 1 from Nat.min_eq_left (by rw [List.length_cons]; omega)]
  omega
theorem ty_tup {K : PySem.W.Frag} {H : Hp} {a : Addr} {xs : List V} (h : H a = some (.tup xs)) : TyX K H (.ref a) (.type "tuple") := .base (.tup h)
theorem kt_tup {K : PySem.W.Frag} : PySem.W.kitOne K (.type "tuple") (.type "tuple") = some true := kit_ty (by show kitB "tuple" "tuple" = some true; decide +kernel)
theorem ty_int {K : PySem.W.Frag} {H : Hp} {i : Int} : TyX K H (.int i) (.type "int") := .base (.int i)
theorem kt_int {K : PySem.W.Frag} : PySem.W.kitOne K (.type "int") (.type "tuple") = some false := kit_ty (by show kitB "int" "tuple" = some false; decide +kernel)
theorem iteF' {p : Prop} [Decidable p] {A B : Prop} (h : ¬ p) (b : B) : if decide p = true then A else B := by
  rw [if_neg fun z => h (of_decide_eq_true z)]
  exact b
theorem iteT' {p : Prop} [Decidable p] {A B : Prop} (h : p) (a : A) : if decide p = true then A else B := by
  rw [if_pos (decide_eq_true h)]
  exact a
def onesPs (ps : List (PyData × Nat)) : Nat := onesAll (ps.map (·.1))
def szPs (ps : List (PyData × Nat)) : Nat := szAll (ps.map (·.1))
theorem onesPs_snoc (ps : List (PyData × Nat)) (q : PyData × Nat) : onesPs (ps ++ [q]) = onesPs ps + onesP q.1 := by
  unfold onesPs
  rw [List.map_append, onesAll_app, List.map_cons, List.map_nil, onesAll, onesAll, Nat.add_zero]
theorem szPs_snoc (ps : List (PyData × Nat)) (q : PyData × Nat) : szPs (ps ++ [q]) = szPs ps + szP q.1 := by
  unfold szPs
  rw [List.map_append, szAll_app, List.map_cons, List.map_nil, szAll, szAll, Nat.add_zero]
theorem map_fst (ds : List PyData) (o : Nat) : (ds.map fun d => (d, o)).map (fun x : PyData × Nat => x.1) = ds := by
  rw [List.map_map, show ((fun x : PyData × Nat => x.1) ∘ fun d => (d, o)) = id from rfl, List.map_id]
theorem onesPs_put (ps : List (PyData × Nat)) (ds : List PyData) (o : Nat) : onesPs (ps ++ ds.map fun d => (d, o)) = onesPs ps + onesAll ds := by
  unfold onesPs
  rw [List.map_append, onesAll_app, map_fst]
theorem szPs_put (ps : List (PyData × Nat)) (ds : List PyData) (o : Nat) : szPs (ps ++ ds.map fun d => (d, o)) = szPs ps + szAll ds := by
  unfold szPs
  rw [List.map_append, szAll_app, map_fst]

/-! ### comprehensions whose items are told by a relation that stays -/
section
variable {K : PySem.W.Frag} {a : Addr} {xs : List V} {te : TE} {vs : List Nat} {σ : L2.St} {H : Hp} {D : Addr} {Qd : Hp → Prop} {j : Nat}
/-- what is told of the items so far -/
structure RelAt (Rel : Nat → V → Hp → Prop) (D : Addr) (i : Nat) (H H' : Hp) : Prop where
  sm : Same H H'
  ys : ∃ ys, H' D = some (.lst ys) ∧ ys.length = i ∧ ∀ (k : Nat) y, ys[k]? = some y → Rel k y H'
theorem rel_turn {Rel : Nat → V → Hp → Prop} {i : Nat} {x : V} {H' : Hp} {P : Hp → Prop} (keep : ∀ i y H1 H2, Rel i y H1 → Same H1 H2 → Rel i y H2) (mu : ∀ i y H1 l o, H1 D = some (.lst l) → Rel i y H1 → Rel i y (upd H1 D o)) (hD : H D = none)
    (wip : wipe ((wipe σ vs).set j (some x)) vs = wipe σ vs) (r : RelAt Rel D i H H') (small : i < 1000000) (he : ∀ R : VK, (∀ y H'', Same H' H'' → Rel i y H'' → R y H'') → te ((wipe σ vs).set j (some x)) H' R) (k : ∀ H'', RelAt Rel D (i + 1) H H'' → P H'') :
    gName j x (wipe σ vs) H' fun σ2 H2 => wipe σ2 vs = wipe σ vs ∧ tYes σ2 H2 fun b H3 => if b = true then te σ2 H3 fun y H4 => ∃ acc, H4 D = some (.lst acc) ∧ acc.length < sizeLine ∧ P (upd H4 D (.lst (acc ++ [y]))) else P H3 := by
  have line : 1000000 < sizeLine := by decide
  obtain ⟨sm, ys, hd, hl, hr⟩ := r
  refine ⟨wip, yes_go (he _ fun y H4 s4 ry => ⟨ys, s4 _ _ hd, by omega, k _ ⟨fun b o e => ?_, ys ++ [y], upd_same, by rw [List.length_append, hl]; rfl, fun m z hz => ?_⟩⟩)⟩
  · rw [upd_ne (ne_of_none e hD)]
    exact s4 _ _ (sm _ _ e)
  · refine mu _ _ _ _ _ (s4 _ _ hd) ?_
    by_cases c : m < ys.length
    · rw [List.getElem?_append_left c] at hz
      exact keep _ _ _ _ (hr m z hz) s4
    · rw [List.getElem?_append_right (by omega)] at hz
      have l := (List.getElem?_eq_some_iff.mp hz).1
      simp only [List.length_cons, List.length_nil] at l
      have e0 : m - ys.length = 0 := by omega
      rw [e0] at hz
      cases hz
      have em : m = i := by omega
      rw [em]
      exact ry
theorem rel_zero {Rel : Nat → V → Hp → Prop} (hD : H D = none) : RelAt Rel D 0 H (upd H D (.lst [])) := ⟨same_new hD, [], upd_same, rfl, fun k y e => by simp at e⟩
theorem lc_relL (Rel : Nat → V → Hp → Prop) (keep : ∀ i y H1 H2, Rel i y H1 → Same H1 H2 → Rel i y H2) (mu : ∀ i y H1 l o, H1 D = some (.lst l) → Rel i y H1 → Rel i y (upd H1 D o)) (hx : SqL K H a xs) (hD : H D = none) (hz : xs.length ≤ 1000000)
    (wip : ∀ x, wipe ((wipe σ vs).set j (some x)) vs = wipe σ vs) (he : ∀ (i : Nat) x, xs[i]? = some x → ∀ H', Same H H' → ∀ R : VK, (∀ y H'', Same H' H'' → Rel i y H'' → R y H'') → te ((wipe σ vs).set j (some x)) H' R)
    (k : ∀ H' ys, Same H H' → H' D = some (.lst ys) → ys.length = xs.length → (∀ (i : Nat) y, ys[i]? = some y → Rel i y H') → Qd H') :
    ∃ W : Nat → Nat → Hp → Prop, (∃ m, W 0 m (upd H D (.lst []))) ∧ ∀ i m H, W i m H →
      ((Itl K a).stop i H ∧ Qd H) ∨ ((Itl K a).go i H ∧ ∃ Nx : Hp → Prop, (∀ H', Nx H' → ∃ m', m' < m ∧ W (i + 1) m' H') ∧ ∀ x H', (Itl K a).yld i H x H' → gName j x (wipe σ vs) H' fun σ2 H2 => wipe σ2 vs = wipe σ vs ∧ tYes σ2 H2 fun b H3 =>
        if b = true then te σ2 H3 fun y H4 => ∃ acc, H4 D = some (.lst acc) ∧ acc.length < sizeLine ∧ Nx (upd H4 D (.lst (acc ++ [y]))) else Nx H3) := by
  refine lc_list (xs := xs) (RelAt Rel D · H) (rel_zero hD) (fun i H' _ p => p.sm.seq hx) (fun i x H' hi p => ?_) fun H' p => ?_
  · have li := (List.getElem?_eq_some_iff.mp hi).1
    exact rel_turn keep mu hD (wip x) p (by omega) (he i x hi H' p.sm) fun H'' q => q
  · obtain ⟨sm, ys, hd, hl, hr⟩ := p
    exact k H' ys sm hd hl hr
theorem lc_relT (Rel : Nat → V → Hp → Prop) (keep : ∀ i y H1 H2, Rel i y H1 → Same H1 H2 → Rel i y H2) (mu : ∀ i y H1 l o, H1 D = some (.lst l) → Rel i y H1 → Rel i y (upd H1 D o)) (hx : SqT K H a xs) (hD : H D = none) (hz : xs.length ≤ 1000000)
    (wip : ∀ x, wipe ((wipe σ vs).set j (some x)) vs = wipe σ vs) (he : ∀ (i : Nat) x, xs[i]? = some x → ∀ H', Same H H' → ∀ R : VK, (∀ y H'', Same H' H'' → Rel i y H'' → R y H'') → te ((wipe σ vs).set j (some x)) H' R)
    (k : ∀ H' ys, Same H H' → H' D = some (.lst ys) → ys.length = xs.length → (∀ (i : Nat) y, ys[i]? = some y → Rel i y H') → Qd H') :
    ∃ W : Nat → Nat → Hp → Prop, (∃ m, W 0 m (upd H D (.lst []))) ∧ ∀ i m H, W i m H →
      ((Itt K a).stop i H ∧ Qd H) ∨ ((Itt K a).go i H ∧ ∃ Nx : Hp → Prop, (∀ H', Nx H' → ∃ m', m' < m ∧ W (i + 1) m' H') ∧ ∀ x H', (Itt K a).yld i H x H' → gName j x (wipe σ vs) H' fun σ2 H2 => wipe σ2 vs = wipe σ vs ∧ tYes σ2 H2 fun b H3 =>
        if b = true then te σ2 H3 fun y H4 => ∃ acc, H4 D = some (.lst acc) ∧ acc.length < sizeLine ∧ Nx (upd H4 D (.lst (acc ++ [y]))) else Nx H3) := by
  refine lc_tup (xs := xs) (RelAt Rel D · H) (rel_zero hD) (fun i H' _ p => Same.seqT p.sm hx) (fun i x H' hi p => ?_) fun H' p => ?_
  · have li := (List.getElem?_eq_some_iff.mp hi).1
    exact rel_turn keep mu hD (wip x) p (by omega) (he i x hi H' p.sm) fun H'' q => q
  · obtain ⟨sm, ys, hd, hl, hr⟩ := p
    exact k H' ys sm hd hl hr
theorem eq_of_get {α : Type} {xs ys : List α} (hl : ys.length = xs.length) (h : ∀ (i : Nat) y, ys[i]? = some y → xs[i]? = some y) : ys = xs := by
  refine List.ext_getElem? fun i => ?_
  by_cases c : i < ys.length
  · rw [List.getElem?_eq_getElem c, h i _ (List.getElem?_eq_getElem c)]
  · rw [List.getElem?_eq_none (by omega), List.getElem?_eq_none (by omega)]
/-- the items are known ahead -/
theorem lc_mapL (zs : List V) (hn : zs.length = xs.length) (hx : SqL K H a xs) (hD : H D = none) (hz : xs.length ≤ 1000000)
    (wip : ∀ x, wipe ((wipe σ vs).set j (some x)) vs = wipe σ vs) (he : ∀ (i : Nat) x z, xs[i]? = some x → zs[i]? = some z → ∀ H', Same H H' → ∀ R : VK, (∀ H'', Same H' H'' → R z H'') → te ((wipe σ vs).set j (some x)) H' R)
    (k : ∀ H', Same H H' → H' D = some (.lst zs) → Qd H') :
    ∃ W : Nat → Nat → Hp → Prop, (∃ m, W 0 m (upd H D (.lst []))) ∧ ∀ i m H, W i m H →
      ((Itl K a).stop i H ∧ Qd H) ∨ ((Itl K a).go i H ∧ ∃ Nx : Hp → Prop, (∀ H', Nx H' → ∃ m', m' < m ∧ W (i + 1) m' H') ∧ ∀ x H', (Itl K a).yld i H x H' → gName j x (wipe σ vs) H' fun σ2 H2 => wipe σ2 vs = wipe σ vs ∧ tYes σ2 H2 fun b H3 =>
        if b = true then te σ2 H3 fun y H4 => ∃ acc, H4 D = some (.lst acc) ∧ acc.length < sizeLine ∧ Nx (upd H4 D (.lst (acc ++ [y]))) else Nx H3) := by
  refine lc_relL (fun i y _ => zs[i]? = some y) (fun _ _ _ _ r _ => r) (fun _ _ _ _ _ _ r => r) hx hD hz wip (fun i x hi H' s' R g => ?_) fun H' ys s' hd hl hr => k H' s' (by rw [hd, eq_of_get (by omega) hr])
  have li := (List.getElem?_eq_some_iff.mp hi).1
  exact he i x _ hi (List.getElem?_eq_getElem (by omega)) H' s' R fun H'' s'' => g _ H'' s'' (List.getElem?_eq_getElem (by omega))
end

/-! ### == of any thing with a text; in a tuple of texts -/
section
variable {X : Cx}
def rEqS (K : PySem.W.Frag) : R2 := fun x y H Q => ∃ d e, Dp K H x d ∧ Dp K H y e ∧ d.canLay0 = true ∧ e.canLay0 = true ∧ e.depth = 0 ∧ Q (.bl (PyData.eqv d e)) H
theorem op_eqS (hu : X.A.units + 64 < cLine) : OpR X (compareOp .Eq) (rEqS X.K) := by
  intro pins s σ H x y v u Q I rx ry h
  obtain ⟨d, e, hd, he, sd, se, z, q⟩ := h
  obtain ⟨as, r1⟩ := Dp.reads I d x v hd rx
  obtain ⟨bs, r2⟩ := Dp.reads I e y u he ry
  exact SeqAt.compareEq_reads r1 r2 sd se (by rw [z, Nat.min_zero]; omega) ⟨.bl _, H, I, rfl, q⟩
def rInS (K : PySem.W.Frag) : R2 := fun x y H Q => ∃ d ds, Dp K H x d ∧ Dp K H y (.tuple ds) ∧ d.canLay0 = true ∧ PyData.canLayAll0 ds = true ∧ PyData.depthAll ds = 0 ∧ Q (.bl (ds.any fun z => PyData.eqv z d)) H
theorem op_inS (hu : X.A.units + 64 < cLine) : OpR X (compareOp .In) (rInS X.K) := by
  intro pins s σ H x y v u Q I rx ry h
  obtain ⟨d, ds, hd, he, sd, se, z, q⟩ := h
  obtain ⟨as, r1⟩ := Dp.reads I d x v hd rx
  obtain ⟨bs, r2⟩ := Dp.reads I (.tuple ds) y u he ry
  exact SeqAt.in_tuple_reads r2 r1 se sd (by rw [z, Nat.zero_min]; omega) ⟨.bl _, H, I, rfl, q⟩
end
theorem eqv_s1 : ∀ (d : PyData) (w : Str), PyData.eqv d (.str w) = (match d with | .str x => x == w | _ => false)
  | .none, _ => by simp only [PyData.eqv]
  | .bool _, _ => by simp only [PyData.eqv]
  | .int _, _ => by simp only [PyData.eqv]
  | .str _, _ => by simp only [PyData.eqv]
  | .list _, _ => by simp only [PyData.eqv]
  | .tuple _, _ => by simp only [PyData.eqv]
  | .dict _, _ => by simp only [PyData.eqv]
theorem eqv_s2 : ∀ (d : PyData) (w : Str), PyData.eqv (.str w) d = (match d with | .str x => w == x | _ => false)
  | .none, _ => by simp only [PyData.eqv]
  | .bool _, _ => by simp only [PyData.eqv]
  | .int _, _ => by simp only [PyData.eqv]
  | .str _, _ => by simp only [PyData.eqv]
  | .list _, _ => by simp only [PyData.eqv]
  | .tuple _, _ => by simp only [PyData.eqv]
  | .dict _, _ => by simp only [PyData.eqv]
/-! ### things: data of any kind, lists too, in a heap that stays -/
mutual
inductive Th (H : Hp) : V → PyData → Prop
  | non : Th H .non .none
  | bl (b : Bool) : Th H (.bl b) (.bool b)
  | int (i : Int) : Th H (.int i) (.int i)
  | str (x : Str) : Th H (.str x) (.str x)
  | lst {a : Addr} {xs : List V} {ds : List PyData} : H a = some (.lst xs) → ThAll H xs ds → Th H (.ref a) (.list ds)
  | tup {a : Addr} {xs : List V} {ds : List PyData} : H a = some (.tup xs) → ThAll H xs ds → Th H (.ref a) (.tuple ds)
inductive ThAll (H : Hp) : List V → List PyData → Prop
  | nil : ThAll H [] []
  | cons {v : V} {vs : List V} {d : PyData} {ds : List PyData} : Th H v d → ThAll H vs ds → ThAll H (v :: vs) (d :: ds)
end
/-- tuples and lists stay -/
def KS (H H' : Hp) : Prop := ∀ a xs, (H a = some (.tup xs) → H' a = some (.tup xs)) ∧ (H a = some (.lst xs) → H' a = some (.lst xs))
theorem KS.same {H H' : Hp} (s : Same H H') : KS H H' := fun a xs => ⟨fun h => s a _ h, fun h => s a _ h⟩
theorem KS.kp {H H' : Hp} {t c : Addr} {n : Nat} (tp : Tape H t c n) (k : Kp t H H') : KS H H' := fun a xs => by
  obtain ⟨ns', sp', lf', tc, _⟩ := tp
  exact ⟨fun h => k _ _ h (ne_of h tc.d (by intro z; cases z)), fun h => k _ _ h (ne_of h tc.d (by intro z; cases z))⟩
mutual
theorem Th.ks {H H' : Hp} (s : KS H H') : ∀ {v : V} {d : PyData}, Th H v d → Th H' v d
  | _, _, .non => .non
  | _, _, .bl b => .bl b
  | _, _, .int i => .int i
  | _, _, .str x => .str x
  | _, _, .lst h r => .lst ((s _ _).2 h) (ThAll.ks s r)
  | _, _, .tup h r => .tup ((s _ _).1 h) (ThAll.ks s r)
theorem ThAll.ks {H H' : Hp} (s : KS H H') : ∀ {vs : List V} {ds : List PyData}, ThAll H vs ds → ThAll H' vs ds
  | _, _, .nil => .nil
  | _, _, .cons h r => .cons (Th.ks s h) (ThAll.ks s r)
end
mutual
theorem Th.dp {K : PySem.W.Frag} {H : Hp} : ∀ {v : V} {d : PyData}, Th H v d → Dp K H v d
  | _, _, .non => .non
  | _, _, .bl b => .bl b
  | _, _, .int i => .int i
  | _, _, .str x => .str x
  | _, _, .lst h r => .lst (SqL.of h) (ThAll.dp r)
  | _, _, .tup h r => .tup (SqT.of h) (ThAll.dp r)
theorem ThAll.dp {K : PySem.W.Frag} {H : Hp} : ∀ {vs : List V} {ds : List PyData}, ThAll H vs ds → DpAll K H vs ds
  | _, _, .nil => .nil
  | _, _, .cons h r => .cons (Th.dp h) (ThAll.dp r)
end
mutual
theorem Tp.th {H : Hp} : ∀ {v : V} {d : PyData}, Tp H v d → Th H v d
  | _, _, .non => .non
  | _, _, .bl b => .bl b
  | _, _, .int i => .int i
  | _, _, .str x => .str x
  | _, _, .tup h r => .tup h (TpAll.th r)
theorem TpAll.th {H : Hp} : ∀ {vs : List V} {ds : List PyData}, TpAll H vs ds → ThAll H vs ds
  | _, _, .nil => .nil
  | _, _, .cons h r => .cons (Tp.th h) (TpAll.th r)
end
theorem ThAll.len {H : Hp} : ∀ {vs : List V} {ds : List PyData}, ThAll H vs ds → vs.length = ds.length
  | _, _, .nil => rfl
  | _, _, .cons _ r => congrArg (· + 1) r.len
theorem ThAll.get {H : Hp} : ∀ {vs : List V} {ds : List PyData} {i : Nat} {v : V}, ThAll H vs ds → vs[i]? = some v → ∃ d, ds[i]? = some d ∧ Th H v d
  | _, _, 0, _, .cons h _, e => ⟨_, rfl, by cases e; exact h⟩
  | _, _, i + 1, _, .cons _ r, e => r.get (i := i) e
theorem ThAll.app {H : Hp} {ws : List V} {es : List PyData} : ∀ {vs : List V} {ds : List PyData}, ThAll H vs ds → ThAll H ws es → ThAll H (vs ++ ws) (ds ++ es)
  | _, _, .nil, h => h
  | _, _, .cons x r, h => .cons x (r.app h)
theorem ThAll.take {H : Hp} : ∀ {vs : List V} {ds : List PyData} (i : Nat), ThAll H vs ds → ThAll H (vs.take i) (ds.take i)
  | _, _, 0, _ => by rw [List.take_zero, List.take_zero]; exact .nil
  | _, _, i + 1, .nil => .nil
  | _, _, i + 1, .cons x r => .cons x (r.take i)
theorem ThAll.drop {H : Hp} : ∀ {vs : List V} {ds : List PyData} (i : Nat), ThAll H vs ds → ThAll H (vs.drop i) (ds.drop i)
  | _, _, 0, h => h
  | _, _, i + 1, .nil => .nil
  | _, _, i + 1, .cons _ r => r.drop i
def tyN : PyData → String
  | .none => "NoneType"
  | .bool _ => "bool"
  | .int _ => "int"
  | .str _ => "str"
  | .list _ => "list"
  | .tuple _ => "tuple"
  | .dict _ => "dict"
def isI : PyData → Bool
  | .bool _ => true
  | .int _ => true
  | _ => false
def isB : PyData → Bool
  | .bool _ => true
  | _ => false
def isT : PyData → Bool
  | .tuple _ => true
  | _ => false
def isS : PyData → Bool
  | .str _ => true
  | _ => false
theorem th_ty {K : PySem.W.Frag} {H : Hp} {v : V} {d : PyData} (h : Th H v d) : TyX K H v (.type (tyN d)) := by
  cases h with
  | non => exact .base .non
  | bl b => exact .base (.bl b)
  | int i => exact .base (.int i)
  | str x => exact .base (.str x)
  | lst e _ => exact .base (.lst e)
  | tup e _ => exact .base (.tup e)
theorem kit_int {K : PySem.W.Frag} {H : Hp} {v : V} {d : PyData} (h : Th H v d) : PySem.W.kitOne K (.type (tyN d)) (.type "int") = some (isI d) := by
  cases h with
  | non => exact kit_ty (by show kitB "NoneType" "int" = some false; decide +kernel)
  | bl b => exact kit_ty (by show kitB "bool" "int" = some true; decide +kernel)
  | int i => exact kit_ty (by show kitB "int" "int" = some true; decide +kernel)
  | str x => exact kit_ty (by show kitB "str" "int" = some false; decide +kernel)
  | lst e _ => exact kit_ty (by show kitB "list" "int" = some false; decide +kernel)
  | tup e _ => exact kit_ty (by show kitB "tuple" "int" = some false; decide +kernel)
theorem kit_bool {K : PySem.W.Frag} {H : Hp} {v : V} {d : PyData} (h : Th H v d) : PySem.W.kitOne K (.type (tyN d)) (.type "bool") = some (isB d) := by
  cases h with
  | non => exact kit_ty (by show kitB "NoneType" "bool" = some false; decide +kernel)
  | bl b => exact kit_ty (by show kitB "bool" "bool" = some true; decide +kernel)
  | int i => exact kit_ty (by show kitB "int" "bool" = some false; decide +kernel)
  | str x => exact kit_ty (by show kitB "str" "bool" = some false; decide +kernel)
  | lst e _ => exact kit_ty (by show kitB "list" "bool" = some false; decide +kernel)
  | tup e _ => exact kit_ty (by show kitB "tuple" "bool" = some false; decide +kernel)
theorem kit_tupl {K : PySem.W.Frag} {H : Hp} {v : V} {d : PyData} (h : Th H v d) : PySem.W.kitOne K (.type (tyN d)) (.type "tuple") = some (isT d) := by
  cases h with
  | non => exact kit_ty (by show kitB "NoneType" "tuple" = some false; decide +kernel)
  | bl b => exact kit_ty (by show kitB "bool" "tuple" = some false; decide +kernel)
  | int i => exact kit_ty (by show kitB "int" "tuple" = some false; decide +kernel)
  | str x => exact kit_ty (by show kitB "str" "tuple" = some false; decide +kernel)
  | lst e _ => exact kit_ty (by show kitB "list" "tuple" = some false; decide +kernel)
  | tup e _ => exact kit_ty (by show kitB "tuple" "tuple" = some true; decide +kernel)
theorem kit_str {K : PySem.W.Frag} {H : Hp} {v : V} {d : PyData} (h : Th H v d) : PySem.W.kitOne K (.type (tyN d)) (.type "str") = some (isS d) := by
  cases h with
  | non => exact kit_ty (by show kitB "NoneType" "str" = some false; decide +kernel)
  | bl b => exact kit_ty (by show kitB "bool" "str" = some false; decide +kernel)
  | int i => exact kit_ty (by show kitB "int" "str" = some false; decide +kernel)
  | str x => exact kit_ty (by show kitB "str" "str" = some true; decide +kernel)
  | lst e _ => exact kit_ty (by show kitB "list" "str" = some false; decide +kernel)
  | tup e _ => exact kit_ty (by show kitB "tuple" "str" = some false; decide +kernel)
theorem th_tup {H : Hp} {v : V} {d : PyData} (h : Th H v d) (t : isT d = true) : ∃ a xs ds, v = .ref a ∧ d = .tuple ds ∧ H a = some (.tup xs) ∧ ThAll H xs ds := by
  cases h with
  | tup e r => exact ⟨_, _, _, rfl, rfl, e, r⟩
  | _ => cases t
theorem plain_th {H : Hp} {v : V} {d : PyData} (t : Th H v d) : Plain H v := by
  cases t with
  | non => exact .non
  | bl b => exact .bl b
  | int i => exact .int i
  | str x => exact .str x
  | lst h _ => exact .lst h
  | tup h _ => exact .tup h
theorem intV_th {H : Hp} {v : V} {d : PyData} (t : Th H v d) : isIntV v = (isI d && !isB d) := by
  cases t <;> rfl

/-! ### what a part, what a plan is, of any thing -/
mutual
def gB : Nat → PyData → Bool
  | _, .int i => decide (i = 1)
  | k, .tuple ds => decide (0 < k) && joinedP (.tuple ds) && gTl (k - 1) ds
  | _, _ => false
def gTl : Nat → List PyData → Bool
  | _, [] => true
  | k, _ :: ds => gBAll k ds
def gBAll : Nat → List PyData → Bool
  | _, [] => true
  | k, d :: ds => gB k d && gBAll k ds
end
def planP : PyData → Bool
  | .tuple (.str w :: ds) => decide (ds ≠ []) && (decide (w = "pairs") || decide (w = "codes"))
  | _ => false
def tlP : PyData → List PyData
  | .tuple ds => ds.drop 1
  | _ => []
theorem joined_inv {d : PyData} (h : joinedP d = true) : ∃ w es, d = .tuple (.str w :: es) ∧ es ≠ [] ∧ (w = "sums" ∨ (w = "net" ∧ es.length = 2)) := by
  unfold joinedP at h
  split at h
  · rename_i w es
    rw [Bool.and_eq_true, Bool.or_eq_true, Bool.and_eq_true] at h
    refine ⟨w, es, rfl, of_decide_eq_true h.1, ?_⟩
    rcases h.2 with z | z
    · exact .inl (of_decide_eq_true z)
    · exact .inr ⟨of_decide_eq_true z.1, of_decide_eq_true z.2⟩
  · cases h
theorem plan_inv {d : PyData} (h : planP d = true) : ∃ w es, d = .tuple (.str w :: es) ∧ es ≠ [] ∧ (w = "pairs" ∨ w = "codes") := by
  unfold planP at h
  split at h
  · rename_i w es
    rw [Bool.and_eq_true, Bool.or_eq_true] at h
    refine ⟨w, es, rfl, of_decide_eq_true h.1, ?_⟩
    rcases h.2 with z | z
    · exact .inl (of_decide_eq_true z)
    · exact .inr (of_decide_eq_true z)
  · cases h
theorem joined_short {ds : List PyData} (h : ds.length < 2) : joinedP (.tuple ds) = false := by
  cases e : joinedP (.tuple ds) with
  | false => rfl
  | true =>
    obtain ⟨w, es, z, ne, _⟩ := joined_inv e
    cases z
    rw [List.length_cons] at h
    exact absurd (List.length_eq_zero_iff.mp (by omega)) ne
theorem plan_short {ds : List PyData} (h : ds.length < 2) : planP (.tuple ds) = false := by
  cases e : planP (.tuple ds) with
  | false => rfl
  | true =>
    obtain ⟨w, es, z, ne, _⟩ := plan_inv e
    cases z
    rw [List.length_cons] at h
    exact absurd (List.length_eq_zero_iff.mp (by omega)) ne
theorem str_beqd (x y : Str) : (x == y) = decide (x = y) := by
  by_cases h : x = y
  · rw [h, decide_eq_true rfl]
    exact beq_self_eq_true y
  · rw [decide_eq_false h]
    exact beq_eq_false_iff_ne.mpr h
theorem joined_eq {d : PyData} {es : List PyData} (ne : es ≠ []) : joinedP (.tuple (d :: es)) = (PyData.eqv d (.str "sums") || (PyData.eqv d (.str "net") && decide (es.length = 2))) := by
  rw [eqv_s1, eqv_s1]
  unfold joinedP
  cases d with
  | str w =>
    show (decide (es ≠ []) && (decide (w = "sums") || (decide (w = "net") && decide (es.length = 2)))) = ((w == "sums") || ((w == "net") && decide (es.length = 2)))
    rw [str_beqd, str_beqd, decide_eq_true ne, Bool.true_and]
  | _ => rfl
theorem plan_eq {d : PyData} {es : List PyData} (ne : es ≠ []) : planP (.tuple (d :: es)) = [PyData.str "pairs", PyData.str "codes"].any fun z => PyData.eqv z d := by
  rw [List.any_cons, List.any_cons, List.any_nil, eqv_s2, eqv_s2, Bool.or_false]
  unfold planP
  cases d with
  | str w =>
    show (decide (es ≠ []) && (decide (w = "pairs") || decide (w = "codes"))) = (("pairs" == w) || ("codes" == w))
    rw [str_beqd, str_beqd, decide_eq_true ne, Bool.true_and]
    congr 1
    · exact decide_eq_decide.mpr ⟨fun h => h.symm, fun h => h.symm⟩
    · exact decide_eq_decide.mpr ⟨fun h => h.symm, fun h => h.symm⟩
  | _ => rfl
theorem gB_tup {k : Nat} {w : Str} {es : List PyData} (j : joinedP (.tuple (.str w :: es)) = true) : gB (k + 1) (.tuple (.str w :: es)) = gBAll k es := by
  rw [gB, j, decide_eq_true (Nat.succ_pos k), Bool.true_and, Bool.true_and, gTl]
  rfl
theorem gB_no {k : Nat} {d : PyData} (h1 : d ≠ .int 1) (h : k = 0 ∨ joinedP d = false) : gB k d = false := by
  cases d with
  | int i =>
    rw [gB]
    exact decide_eq_false fun z => h1 (by rw [z])
  | tuple ds =>
    rw [gB]
    rcases h with rfl | h
    · rfl
    · rw [h, Bool.and_false, Bool.false_and]
  | _ => rw [gB] <;> (intros; rename_i z; cases z)
mutual
theorem gB_pos : ∀ (k : Nat) (d : PyData), gB k d = true → 1 ≤ onesP d
  | _, .int _, _ => Nat.le_refl _
  | k, .tuple ds, h => by
    rw [gB] at h
    rw [onesP]
    have h1 := Bool.and_eq_true_iff.mp h
    have h2 := (Bool.and_eq_true_iff.mp h1.1).2
    have := gTl_pos (k - 1) ds h1.2
    obtain ⟨w, es, z, ne, _⟩ := joined_inv h2
    cases z
    have : 1 ≤ es.length := List.length_pos_iff.mpr ne
    rw [List.length_cons] at *
    omega
  | _, .none, h => by rw [gB] at h <;> first | cases h | (intros; rename_i z; cases z)
  | _, .bool _, h => by rw [gB] at h <;> first | cases h | (intros; rename_i z; cases z)
  | _, .str _, h => by rw [gB] at h <;> first | cases h | (intros; rename_i z; cases z)
  | _, .list _, h => by rw [gB] at h <;> first | cases h | (intros; rename_i z; cases z)
  | _, .dict _, h => by rw [gB] at h <;> first | cases h | (intros; rename_i z; cases z)
theorem gTl_pos : ∀ (k : Nat) (ds : List PyData), gTl k ds = true → ds.length ≤ onesAll ds + 1
  | _, [], _ => Nat.zero_le _
  | k, d :: ds, h => by
    rw [gTl] at h
    have := gBAll_pos k ds h
    rw [onesAll, List.length_cons]
    omega
theorem gBAll_pos : ∀ (k : Nat) (ds : List PyData), gBAll k ds = true → ds.length ≤ onesAll ds
  | _, [], _ => Nat.zero_le _
  | k, d :: ds, h => by
    rw [gBAll] at h
    have h1 := Bool.and_eq_true_iff.mp h
    have a := gB_pos k d h1.1
    have b := gBAll_pos k ds h1.2
    rw [onesAll, List.length_cons]
    omega
end
theorem gBAll_all (k : Nat) : ∀ ds : List PyData, gBAll k ds = ds.all (gB k)
  | [] => by rw [gBAll, List.all_nil]
  | d :: ds => by rw [gBAll, List.all_cons, gBAll_all k ds]
/-- things with so many tuples around them -/
def PGB (ps : List (PyData × Nat)) : Bool := ps.all fun p => gB (60 - p.2) p.1
theorem PGB_snoc (ps : List (PyData × Nat)) (p : PyData × Nat) : PGB (ps ++ [p]) = (PGB ps && gB (60 - p.2) p.1) := by
  unfold PGB
  rw [List.all_append, List.all_cons, List.all_nil, Bool.and_true]
theorem PGB_put (ps : List (PyData × Nat)) (ds : List PyData) (o : Nat) : PGB (ps ++ ds.map fun d => (d, o)) = (PGB ps && gBAll (60 - o) ds) := by
  unfold PGB
  rw [List.all_append, gBAll_all, List.all_map]
  rfl
theorem PGB_len : ∀ {ps : List (PyData × Nat)}, PGB ps = true → ps.length ≤ onesPs ps
  | [], _ => Nat.zero_le _
  | p :: ps, h => by
    unfold PGB at h
    rw [List.all_cons, Bool.and_eq_true] at h
    have a := gB_pos _ _ h.1
    have b := PGB_len (ps := ps) h.2
    unfold onesPs at b ⊢
    rw [List.map_cons, onesAll, List.length_cons]
    omega
def layPs (ps : List (PyData × Nat)) : Prop := ∀ p ∈ ps, p.1.canLay0 = true
theorem lay_mem : ∀ {ds : List PyData}, PyData.canLayAll0 ds = true → ∀ d ∈ ds, d.canLay0 = true
  | d :: ds, h, x, hx => by
    rw [PyData.canLayAll0, Bool.and_eq_true] at h
    rcases List.mem_cons.mp hx with z | z
    · rw [z]
      exact h.1
    · exact lay_mem h.2 x z
theorem lay_of : ∀ {ds : List PyData}, (∀ d ∈ ds, d.canLay0 = true) → PyData.canLayAll0 ds = true
  | [], _ => by rw [PyData.canLayAll0]
  | d :: ds, h => by
    rw [PyData.canLayAll0, Bool.and_eq_true]
    exact ⟨h d List.mem_cons_self, lay_of fun x hx => h x (List.mem_cons_of_mem _ hx)⟩
/-- a pair of a thing and what is around it, in a heap of later -/
def PrR (H H' : Hp) (v : V) (p : PyData × Nat) : Prop := ∃ b y, v = .ref b ∧ H' b = some (.tup [y, .int p.2]) ∧ Th H y p.1
inductive PrAll (H H' : Hp) : List V → List (PyData × Nat) → Prop
  | nil : PrAll H H' [] []
  | cons {v : V} {p : PyData × Nat} {vs : List V} {ps : List (PyData × Nat)} : PrR H H' v p → PrAll H H' vs ps → PrAll H H' (v :: vs) (p :: ps)
theorem PrR.kt {H H' H'' : Hp} {v : V} {p : PyData × Nat} (s : KT H' H'') (h : PrR H H' v p) : PrR H H'' v p := by
  obtain ⟨b, y, e, hb, t⟩ := h
  exact ⟨b, y, e, s _ _ hb, t⟩
theorem PrAll.kt {H H' H'' : Hp} (s : KT H' H'') : ∀ {vs : List V} {ps : List (PyData × Nat)}, PrAll H H' vs ps → PrAll H H'' vs ps
  | _, _, .nil => .nil
  | _, _, .cons h r => .cons (h.kt s) (r.kt s)
theorem PrAll.len {H H' : Hp} : ∀ {vs : List V} {ps : List (PyData × Nat)}, PrAll H H' vs ps → vs.length = ps.length
  | _, _, .nil => rfl
  | _, _, .cons _ r => congrArg (· + 1) r.len
theorem PrAll.app {H H' : Hp} {ws : List V} {qs : List (PyData × Nat)} : ∀ {vs : List V} {ps : List (PyData × Nat)}, PrAll H H' vs ps → PrAll H H' ws qs → PrAll H H' (vs ++ ws) (ps ++ qs)
  | _, _, .nil, h => h
  | _, _, .cons x r, h => .cons x (r.app h)
theorem PrAll.snoc_inv {H H' : Hp} : ∀ {vs : List V} {v : V} {ps : List (PyData × Nat)}, PrAll H H' (vs ++ [v]) ps → ∃ qs p, ps = qs ++ [p] ∧ PrAll H H' vs qs ∧ PrR H H' v p
  | [], _, _, .cons h .nil => ⟨[], _, rfl, .nil, h⟩
  | x :: vs, _, _, .cons h r => by
    obtain ⟨es, d, e, a, b⟩ := r.snoc_inv
    exact ⟨_ :: es, d, by rw [e]; rfl, .cons h a, b⟩
theorem prAll_of {H H' : Hp} {o : Nat} : ∀ {ys : List V} {ds : List PyData}, ys.length = ds.length → (∀ (i : Nat) y, ys[i]? = some y → ∃ d, ds[i]? = some d ∧ PrR H H' y (d, o)) → PrAll H H' ys (ds.map fun d => (d, o))
  | [], [], _, _ => .nil
  | y :: ys, d :: ds, e, h => by
    obtain ⟨d', e', r⟩ := h 0 y rfl
    cases e'
    exact .cons r (prAll_of (Nat.succ.inj e) fun i y hy => h (i + 1) y hy)
def spJ : Sp := fun vs H Q _ => ∃ (v : V) (d : PyData), vs = [v] ∧ Th H v d ∧ d.canLay0 = true ∧ Q (.bl (joinedP d)) H
def spAreG : Sp := fun vs H Q _ => ∃ (a : Addr) (o : Nat) (xs : List V) (ds : List PyData), vs = [.ref a, .int o] ∧ H a = some (.tup xs) ∧ ThAll H xs ds ∧ PyData.canLayAll0 ds = true ∧ szAll ds ≤ 100000 ∧
  ∀ H', Same H H' → Q (.bl (gBAll (60 - o) ds && decide (onesAll ds ≤ 60))) H'
def spPart : Sp := fun vs H Q _ => ∃ (v : V) (d : PyData), vs = [v] ∧ Th H v d ∧ d.canLay0 = true ∧ szP d ≤ 90000 ∧ ∀ H', Same H H' → Q (.bl (gB 60 d && decide (onesP d ≤ 60))) H'
def spPlan : Sp := fun vs H Q _ => ∃ (v : V) (d : PyData), vs = [v] ∧ Th H v d ∧ d.canLay0 = true ∧ szP d ≤ 90000 ∧ ∀ H', Same H H' → Q (.bl (planP d && (gBAll 59 (tlP d) && decide (onesAll (tlP d) ≤ 60)))) H'
theorem strOk_of {w : Str} (h : PyData.canLay0 (.str w) = true) : PyData.canLay0 (.str w) = true := h
section
variable {P : Program} {w : World} {K : PySem.W.Frag} {mg : Str → Option Value} {base : Heap}
theorem has_isjoined (T : Top K mg) : Has P w K mg base 1 "_is_joined" ["thing"] spJ := by
  refine has_of T.d__is_joined sc__is_joined bd__is_joined (fun vs H Q E h => ?_) (fun f cdv A outer s H vs Q E hr h => ?_)
  · obtain ⟨v, d, rfl, _⟩ := h
    rfl
  · have hu := hu_of hr
    have nd := sc__is_joined.nd
    obtain ⟨v, d, rfl, th, lay, k⟩ := h
    refine ⟨_, (pss_cons (ps_if (PW.pt (pw_or (pt_not (pt_val (pe_callB call_isi (by rfl) T.b_isinstance (by decide +kernel) (pa_cons (pv 0) (pa_cons (pe_bltn (v := .ty "tuple") (u := .type "tuple") (by rfl) T.b_tuple (by decide +kernel) (by rfl)) pa_nil))))) (pw_or1 (pt_cmpR op_lt (pe_callB call_len_seq (by rfl) T.b_len (by decide +kernel) (pa_cons (pv 0) pa_nil)) pe_int (nomark _))))) (pss_one (ps_ret pe_bl)) pss_nil)
    (pss_one (ps_ret (pe_or (pe_cmpR (op_eqS hr.units) (pe_ix ix_tup (pv 0) pe_int (fun _ _ => rfl)) pe_str (nomark _)) (pe_one (pe_and (pe_cmpR (op_eqS hr.units) (pe_ix ix_tup (pv 0) pe_int (fun _ _ => rfl)) pe_str (nomark _)) (pe_one (pe_cmpR op_eq (pe_callB call_len_seq (by rfl) T.b_len (by decide +kernel) (pa_cons (pv 0) pa_nil)) pe_int (nomark _))))))))), ?_⟩
    refine ⟨_, rfl, _, .ty "tuple", _, _, _, rfl, .ty _, th_ty th, kit_tupl th, _, rfl, ?_⟩
    cases ht : isT d with
    | false =>
      refine iteT (iteT ?_)
      have e : joinedP d = false := by
        cases d <;> first | rfl | cases ht
      rw [e] at k
      exact k
    | true =>
      obtain ⟨a, xs, ds, rfl, rfl, ha, tr⟩ := th_tup th ht
      have lx := tr.len
      refine iteF ⟨_, rfl, a, _, rfl, .inr (SqT.of ha), _, _, rfl, rfl, _, rfl, ite2 (fun c0 => ?_) (fun c0 => ?_)⟩
      · have c := of_decide_eq_true c0
        rw [joined_short (by omega)] at k
        exact k
      · replace c0 : ¬ ((xs.length : Nat) : Int) < 2 := fun z => c0 (decide_eq_true z)
        cases tr with
        | nil => exact absurd (by decide) c0
        | cons h1 h2 =>
          rename_i v0 xs d0 es
          have l2 := h2.len
          have ne : es ≠ [] := fun z => by
            rw [z] at l2
            rw [List.length_cons, l2] at c0
            exact c0 (by decide)
          rw [joined_eq ne] at k
          have hat : atI (v0 :: xs) 0 = some v0 := at_of (j := 0) rfl rfl
          rw [PyData.canLay0, PyData.canLayAll0, Bool.and_eq_true] at lay
          refine ⟨_, rfl, a, _, _, _, rfl, rfl, SqT.of ha, hat, d0, .str "sums", h1.dp, .str _, lay.1, by decide +kernel, by rfl, PyData.eqv d0 (.str "sums"), rfl, ?_⟩
          cases h0 : PyData.eqv d0 (.str "sums") with
          | true =>
            rw [h0] at k
            exact iteT k
          | false =>
            rw [h0, Bool.false_or] at k
            refine iteF ⟨_, rfl, a, _, _, _, rfl, rfl, SqT.of ha, hat, d0, .str "net", h1.dp, .str _, lay.1, by decide +kernel, by rfl, PyData.eqv d0 (.str "net"), rfl, ?_⟩
            cases h3 : PyData.eqv d0 (.str "net") with
            | false =>
              rw [h3] at k
              exact iteF k
            | true =>
              rw [h3, Bool.true_and] at k
              refine iteT ⟨_, rfl, a, _, rfl, .inr (SqT.of ha), rfl, ?_⟩
              have e3 : decide (V.int ((v0 :: xs).length : Nat) = V.int 3) = decide (es.length = 2) := by
                refine decide_eq_decide.mpr ⟨fun y => ?_, fun y => ?_⟩
                · have y2 := V.int.inj y
                  rw [List.length_cons] at y2
                  omega
                · rw [List.length_cons, l2, y]
                  rfl
              show Q (.bl (decide (V.int ((v0 :: xs).length : Nat) = V.int 3))) H
              rw [e3]
              exact k
end

/-! ### parts and plans as a law draws them -/
mutual
inductive Pa : Nat → Nat → PyData → Prop
  | one {m : Nat} : Pa m 1 (.int 1)
  | tup {m n : Nat} {w : Str} {ds : List PyData} : joinedP (.tuple (.str w :: ds)) = true → PaAll m n ds → Pa (m + 1) n (.tuple (.str w :: ds))
inductive PaAll : Nat → Nat → List PyData → Prop
  | nil {m : Nat} : PaAll m 0 []
  | cons {m n k : Nat} {d : PyData} {ds : List PyData} : Pa m n d → PaAll m k ds → PaAll m (n + k) (d :: ds)
end
mutual
theorem Pa.up : ∀ {m n : Nat} {d : PyData}, Pa m n d → ∀ {m' : Nat}, m ≤ m' → Pa m' n d
  | _, _, _, .one, _, _ => .one
  | _, _, _, .tup j r, 0, h => absurd h (by omega)
  | _, _, _, .tup j r, m' + 1, h => .tup j (PaAll.up r (Nat.le_of_succ_le_succ h))
theorem PaAll.up : ∀ {m n : Nat} {ds : List PyData}, PaAll m n ds → ∀ {m' : Nat}, m ≤ m' → PaAll m' n ds
  | _, _, _, .nil, _, _ => .nil
  | _, _, _, .cons h r, _, l => .cons (Pa.up h l) (PaAll.up r l)
end
mutual
theorem Pa.ones : ∀ {m n : Nat} {d : PyData}, Pa m n d → onesP d = n
  | _, _, _, .one => rfl
  | _, _, _, .tup (w := w) j r => by
    rw [onesP, onesAll, PaAll.ones r, show onesP (.str w) = 0 from rfl, Nat.zero_add]
theorem PaAll.ones : ∀ {m n : Nat} {ds : List PyData}, PaAll m n ds → onesAll ds = n
  | _, _, _, .nil => rfl
  | _, _, _, .cons h r => by rw [onesAll, Pa.ones h, PaAll.ones r]
end
mutual
theorem Pa.pos : ∀ {m n : Nat} {d : PyData}, Pa m n d → 1 ≤ n
  | _, _, _, .one => Nat.le_refl _
  | _, _, _, .tup (ds := ds) j r => by
    have := PaAll.pos r
    obtain ⟨w, es, z, ne, _⟩ := joined_inv j
    cases z
    have : 1 ≤ ds.length := List.length_pos_iff.mpr ne
    omega
theorem PaAll.pos : ∀ {m n : Nat} {ds : List PyData}, PaAll m n ds → ds.length ≤ n
  | _, _, _, .nil => Nat.le_refl _
  | _, _, _, .cons h r => by
    have := Pa.pos h
    have := PaAll.pos r
    rw [List.length_cons]
    omega
end
mutual
theorem Pa.sz : ∀ {m n : Nat} {d : PyData}, Pa m n d → szP d ≤ n * (2 * m + 1)
  | m, _, _, .one => by
    rw [Nat.one_mul, show szP (.int 1) = 1 from rfl]
    omega
  | _, n, _, .tup (m := m) (w := w) (ds := ds) j r => by
    have h := PaAll.sz r
    have p := Pa.pos (.tup j r)
    rw [szP, szAll, show szP (.str w) = 1 from rfl, show 2 * (m + 1) + 1 = (2 * m + 1) + 2 by omega, Nat.mul_add]
    omega
theorem PaAll.sz : ∀ {m n : Nat} {ds : List PyData}, PaAll m n ds → szAll ds ≤ n * (2 * m + 1)
  | _, _, _, .nil => Nat.zero_le _
  | m, _, _, .cons (n := n) (k := k) h r => by
    have a := Pa.sz h
    have b := PaAll.sz r
    rw [szAll, Nat.add_mul]
    omega
end
theorem paAll_ones (m : Nat) : ∀ n, PaAll m n (List.replicate n (.int 1))
  | 0 => .nil
  | n + 1 => by
    rw [List.replicate_succ, Nat.add_comm n 1]
    exact .cons .one (paAll_ones m n)
theorem PaAll.snoc {m k : Nat} {d : PyData} (h : Pa m k d) : ∀ {n : Nat} {ds : List PyData}, PaAll m n ds → PaAll m (n + k) (ds ++ [d])
  | _, _, .nil => by
    have := PaAll.cons h .nil
    rw [Nat.add_zero] at this
    rw [Nat.zero_add]
    exact this
  | _, _, .cons x r => by
    rw [Nat.add_assoc]
    exact .cons x (r.snoc h)
theorem joined_of {w : Str} {es : List PyData} (ne : es ≠ []) (h : w = "sums" ∨ (w = "net" ∧ es.length = 2)) : joinedP (.tuple (.str w :: es)) = true := by
  unfold joinedP
  show (decide (es ≠ []) && (decide (w = "sums") || (decide (w = "net") && decide (es.length = 2)))) = true
  rw [decide_eq_true ne, Bool.true_and, Bool.or_eq_true, Bool.and_eq_true]
  rcases h with h | h
  · exact .inl (decide_eq_true h)
  · exact .inr ⟨decide_eq_true h.1, decide_eq_true h.2⟩
/-! ### tests and texts told without what they come from -/
def tWI (z : Str) (i j : Nat) (p : Int → Bool) : TT := fun σ H R => ∃ (w : Str) (m : Int), σ[i]? = some (some (.str w)) ∧ σ[j]? = some (some (.int m)) ∧ R (decide (w = z) && p m) H
def tII (i j : Nat) (p q : Int → Bool) : TT := fun σ H R => ∃ (n m : Int), σ[i]? = some (some (.int n)) ∧ σ[j]? = some (some (.int m)) ∧ R (p n && q m) H
def tIO (i j : Nat) (p q : Int → Bool) : TT := fun σ H R => ∃ (n m : Int), σ[i]? = some (some (.int n)) ∧ σ[j]? = some (some (.int m)) ∧ R (p n || q m) H
theorem pe_wk {X : Cx} {e : Expr} {t : TE} (u : TE) (h : PE X e t) (hw : ∀ σ H R, u σ H R → t σ H R) : PE X e u := ⟨fun pins s σ H Q I hq => h.run pins s σ H Q I (hw σ H Q hq)⟩
/-- one of two texts -/
def uTwo (x y : Str) (i : Nat) : TE := fun σ H Q => ∃ w : Str, σ[i]? = some (some (.str w)) ∧ ∀ z, (z = x ∨ z = y) → Q (.str z) H
/-- one of two texts, by the tape at times -/
def uTape (x y : Str) (i : Nat) : TE := fun σ H Q => ∃ (n : Int) (t c : Addr) (j : Nat), σ[i]? = some (some (.int n)) ∧ σ[0]? = some (some (.ref t)) ∧ Tape H t c j ∧ j < 2 ^ 40 ∧ ∀ z H', ((z = x ∧ n = 1) ∨ z = y) → Tape H' t c (j + 1) → Kp t H H' → Q (.str z) H'
/-- items so far, parts all, behind as many draws -/
structure LS (H0 H : Hp) (t c D : Addr) (m s e : Nat) : Prop where
  tp : Tape H t c e
  kp : Kp t H0 H
  nD : H0 D = none
  nt : D ≠ t
  nc : D ≠ c
  ex : ∃ vs ds, H D = some (.lst vs) ∧ TpAll H vs ds ∧ PaAll m s ds
theorem LS.new {H : Hp} {t c D : Addr} {m e : Nat} (tp : Tape H t c e) (nD : H D = none) : LS H (upd H D (.lst [])) t c D m 0 e :=
  ⟨tp.new nD, Kp.new nD, nD, tp.fresh nD, tp.fresh_c nD, [], [], upd_same, .nil, .nil⟩
theorem LS.put {H0 H H2 : Hp} {t c D : Addr} {m s e e2 n : Nat} {v : V} {d : PyData} (z : LS H0 H t c D m s e) (lim : s ≤ 100000) (tp : Tape H2 t c e2) (kp : Kp t H H2) (tv : Tp H2 v d) (pa : Pa m n d) :
    ∃ acc, H2 D = some (.lst acc) ∧ acc.length < sizeLine ∧ LS H0 (upd H2 D (.lst (acc ++ [v]))) t c D m (s + n) e2 := by
  obtain ⟨vs, ds, hD, ta, pl⟩ := z.ex
  have hD2 := z.tp.sq hD kp
  have l1 := ta.len
  have l2 := pl.pos
  have line : (200000 : Nat) < sizeLine := by decide
  exact ⟨vs, hD2, by omega, tp.mut z.nt z.nc, Kp.mut (z.kp.trans kp) z.nD, z.nD, z.nt, z.nc, _, _, upd_same, ((ta.kt (KT.kp z.tp kp)).snoc tv).kt (KT.lst hD2), pl.snoc pa⟩
def spLPart (n : Nat) : Sp := fun vs H Q _ => ∃ (t c : Addr) (many deep j : Nat), vs = [.ref t, .int many, .int deep] ∧ Tape H t c j ∧ j + 4 * (many * (deep + 1)) < 2 ^ 40 ∧ 1 ≤ many ∧ many ≤ 1000 ∧ many + deep + 1 ≤ n ∧
  ∀ (H' : Hp) (v : V) (d : PyData), Tape H' t c (j + 4 * (many * (deep + 1)) - 2) → Kp t H H' → Tp H' v d → Pa (many + deep) many d → Q v H'
theorem pick_txt {ws : List V} {i : Nat} {v : V} (h : ws[i]? = some v) (a : ws.all (fun x => match x with | .str _ => true | _ => false) = true) : ∃ w, v = .str w := by
  have := List.all_eq_true.mp a v (List.mem_of_getElem? h)
  cases v with
  | str w => exact ⟨w, rfl⟩
  | _ => cases this
section
variable {P : Program} {w : World} {K : PySem.W.Frag} {mg : Str → Option Value} {base : Heap}
theorem has_lpart (T : Top K mg) (h__law_draw : Has P w K mg base 1 "_law_draw" ["_law_tape", "_law_many"] spDraw) (h__law_pick : Has P w K mg base 2 "_law_pick" ["_law_tape", "_law_some"] (spPick K)) :
    ∀ n, ∃ l, l ≤ n + 3 ∧ Has P w K mg base l "_law_part" ["_law_tape", "_law_many", "_law_deep"] (spLPart n)
  | 0 => ⟨0, by omega, has_zero T.d__law_part bd__law_part fun vs H Q E h => by
      obtain ⟨t, c, many, deep, j, _, _, _, h1, _, h2, _⟩ := h
      omega⟩
  | n + 1 => by
    obtain ⟨l, hl, h__law_part⟩ := has_lpart T h__law_draw h__law_pick n
    refine ⟨n + 3 + 1, by omega, has_of (k := n + 3) T.d__law_part sc__law_part bd__law_part (fun vs H Q E h => ?_) (fun f cdv A outer s H vs Q E hr h => ?_)⟩
    · obtain ⟨t, c, many, deep, j, rfl, _⟩ := h
      rfl
    · have hu := hu_of hr
      have nd := sc__law_part.nd
      obtain ⟨t, c, many, deep, j, rfl, tp, lim, m1, m60, lv, k⟩ := h
      refine ⟨_, (pss_cons (ps_set (i := 3) nd rfl (.inl rfl) (pe_op op_add pe_int (pe_has h__law_draw (hr.mono (by omega)) (by rfl) (pa_cons (pv 0) (pa_cons (pe_callB (call_max2 rfl) (by rfl) T.b_max (by decide +kernel) (pa_cons pe_int (pa_cons (pe_op op_sub (pv 1) pe_int) pa_nil))) pa_nil)))))
    (pss_cons (ps_set (i := 4) nd rfl (.inl rfl) (pe_has h__law_pick (hr.mono (by omega)) (by rfl) (pa_cons (pv 0) (pa_cons (pe_lst (pa_cons pe_str (pa_cons pe_str (pa_cons pe_str (pa_cons pe_str (pa_cons pe_str (pa_cons pe_str (pa_cons pe_str pa_nil)))))))) pa_nil))))
    (pss_cons (ps_if (pt_wk (tWI "one" 4 2 (fun n => decide (n > 0))) (PW.pt (pw_and (pt_cmpR op_eq (pv 4) pe_str (nomark _)) (pw_and1 (pt_cmpR op_gt (pv 2) pe_int (nomark _))))) ?one) (pss_one (ps_ret (pe_tup (pa_cons pe_str (pa_cons (pe_has h__law_part (hr.mono (by omega)) (by rfl) (pa_cons (pv 0) (pa_cons (pv 1) (pa_cons (pe_op op_sub (pv 2) pe_int) pa_nil)))) pa_nil))))) pss_nil)
    (pss_cons (ps_if (pt_cmpR op_eq (pv 1) pe_int (nomark _)) (pss_one (ps_ret pe_int)) pss_nil)
    (pss_cons (ps_if (pt_wk (tWI "flat" 4 1 (fun n => decide (n < 7))) (PW.pt (pw_and (pt_cmpR op_eq (pv 4) pe_str (nomark _)) (pw_and1 (pt_cmpR op_lt (pv 1) pe_int (nomark _))))) ?flat) (pss_one (ps_ret (pe_op op_catA (pe_tup (pa_cons pe_str pa_nil)) (pe_op op_repT1 (pe_tup (pa_cons pe_int pa_nil)) (pv 1))))) pss_nil)
    (pss_cons (ps_if (pt_wk (tWI "three" 4 3 (fun n => decide (n > 1))) (PW.pt (pw_and (pt_cmpR op_eq (pv 4) pe_str (nomark _)) (pw_and1 (pt_cmpR op_gt (pv 3) pe_int (nomark _))))) ?three) (pss_cons (ps_set (i := 5) nd rfl (.inl rfl) (pe_tup (pa_cons pe_int (pa_cons (pe_op op_sub (pv 3) pe_int) (pa_cons (pe_op op_sub (pv 1) (pv 3)) pa_nil)))))
    (pss_one (ps_ret (pe_op op_catA (pe_tup (pa_cons pe_str pa_nil)) (pe_callTy call_tuple_of (by rfl) T.b_tuple (by decide +kernel) (pa_cons (pe_lc (own := [("_law_one", 6)]) (by rfl) nd (pi_tup (pv 5)) (blkOk_by (own := [("_law_one", 6)]) (N := nm__law_part) (sc := defScope s__law_part) (by decide +kernel)) (fun _ _ _ _ _ => pg_name (i := 6) nd rfl (.inl rfl)) (fun _ _ _ _ _ => pts_nil) (fun _ _ _ _ _ => (pe_has h__law_part (hr.mono (by omega)) (by rfl) (pa_cons (pv 0) (pa_cons (pv 6) (pa_cons (pv 2) pa_nil)))))) pa_nil)))))) pss_nil)
    (pss_one (ps_ret (pe_tup (pa_cons (pe_wk (uTwo "net" "sums" 4) (pe_ifExp (pt_cmpR op_eq (pv 4) pe_str (nomark _)) pe_str pe_str) ?net) (pa_cons (pe_has h__law_part (hr.mono (by omega)) (by rfl) (pa_cons (pv 0) (pa_cons (pv 3) (pa_cons (pv 2) pa_nil)))) (pa_cons (pe_has h__law_part (hr.mono (by omega)) (by rfl) (pa_cons (pv 0) (pa_cons (pe_op op_sub (pv 1) (pv 3)) (pa_cons (pv 2) pa_nil)))) pa_nil)))))))))))), ?_⟩
      case one =>
        rintro σ H R ⟨w, m, e1, e2, r⟩
        refine ⟨_, e1, rfl, _, rfl, ?_⟩
        by_cases h : w = "one"
        · rw [decide_eq_true h, Bool.true_and] at r
          exact iteT' (by rw [h]) ⟨_, e2, _, _, rfl, rfl, _, rfl, r⟩
        · rw [decide_eq_false h] at r
          exact iteF' (fun z => h (V.str.inj z)) r
      case flat =>
        rintro σ H R ⟨w, m, e1, e2, r⟩
        refine ⟨_, e1, rfl, _, rfl, ?_⟩
        by_cases h : w = "flat"
        · rw [decide_eq_true h, Bool.true_and] at r
          exact iteT' (by rw [h]) ⟨_, e2, _, _, rfl, rfl, _, rfl, r⟩
        · rw [decide_eq_false h] at r
          exact iteF' (fun z => h (V.str.inj z)) r
      case three =>
        rintro σ H R ⟨w, m, e1, e2, r⟩
        refine ⟨_, e1, rfl, _, rfl, ?_⟩
        by_cases h : w = "three"
        · rw [decide_eq_true h, Bool.true_and] at r
          exact iteT' (by rw [h]) ⟨_, e2, _, _, rfl, rfl, _, rfl, r⟩
        · rw [decide_eq_false h] at r
          exact iteF' (fun z => h (V.str.inj z)) r
      case net =>
        rintro σ H R ⟨w, e1, r⟩
        exact ⟨_, e1, rfl, _, rfl, ite2 (fun _ => r _ (.inl rfl)) (fun _ => r _ (.inr rfl))⟩
      have dpos : many * (deep + 1) ≥ many := Nat.le_mul_of_pos_right _ (Nat.succ_pos _)
      obtain ⟨m, em, m0, mb, m2, mm1⟩ : ∃ m : Int, (if (many : Int) - 1 > 1 then (many : Int) - 1 else 1) = m ∧ 0 < m ∧ m ≤ 1000 ∧ (2 ≤ many → m = many - 1) ∧ (many = 1 → m = 1) := ⟨_, rfl, by split <;> omega, by split <;> omega, fun z => by split <;> omega, fun z => by split <;> omega⟩
      refine ⟨_, rfl, _, rfl, _, _, rfl, rfl, _, _, rfl, t, c, m, j, congrArg (fun z => [V.ref t, V.int z]) em, tp, by omega, m0, pow8000 (by omega), fun H1 r a1 b1 tp1 kp1 => ?_⟩
      obtain ⟨x, ex⟩ : ∃ x : Nat, 1 + r = (x : Int) := ⟨(1 + r).toNat, by omega⟩
      refine ⟨_, _, rfl, rfl, ?_⟩
      generalize hv : (fun i j : Int => V.int (i + j)) 1 r = nv
      obtain rfl : nv = V.int (x : Int) := hv.symm.trans (congrArg V.int ex)
      clear hv
      refine ⟨_, rfl, by show 7 ≤ sizeLine; decide, fun d2 n2 => ⟨t, c, d2, _, _, rfl, tp1.new n2, by omega, fun H' kp => .inl (SqL.of (kp d2 _ upd_same (tp1.fresh n2))), by show 0 < 7; decide, by show 7 ≤ 1000000; decide, fun H3 i3 v3 g3 tp3 kp3 => ?_⟩⟩
      obtain ⟨w3, rfl⟩ := pick_txt g3 (by rfl)
      have k3 : Kp t H H3 := kp1.trans ((Kp.new n2).trans kp3)
      clear g3 kp3 n2 tp1 kp1 em
      refine ⟨w3, _, rfl, rfl, ite2 (fun ca => ?_) (fun _ => ?_)⟩
      · -- one part alone
        have ca := of_decide_eq_true (Bool.and_eq_true_iff.mp ca).2
        obtain ⟨e, rfl⟩ : ∃ e, deep = e + 1 := ⟨deep - 1, by omega⟩
        have ms : many * (e + 1 + 1) = many * (e + 1) + many := Nat.mul_succ many (e + 1)
        refine ⟨_, rfl, _, rfl, _, rfl, _, _, rfl, rfl, t, c, many, e, j + 1 + 1, ?_, tp3, by omega, m1, m60, by omega, fun H4 v d tp4 kp4 tv pa => ⟨by show 2 ≤ sizeLine; decide, fun p hp => ?_⟩⟩
        · show [V.ref t, V.int (many : Int), V.int (((e + 1 : Nat) : Int) - 1)] = _
          rw [show ((e + 1 : Nat) : Int) - 1 = (e : Int) by omega]
        · exact k _ _ _ ((tp4.new hp).le (by omega)) ((k3.trans kp4).trans (Kp.new hp)) (.new hp (.cons (.str _) (.cons tv .nil))) (.tup (joined_of (by simp) (.inl rfl)) (.cons pa .nil))
      refine ⟨_, rfl, rfl, _, rfl, ite2 (fun cb => ?_) (fun cb => ?_)⟩
      · have cb : many = 1 := by
          have := V.int.inj (of_decide_eq_true cb)
          omega
        subst cb
        exact k _ _ _ (tp3.le (by omega)) k3 (.int 1) .one
      have cb : 2 ≤ many := by
        have : ¬ many = 1 := fun z => cb (decide_eq_true (by rw [z]; rfl))
        omega
      have em := m2 cb
      refine ⟨w3, _, rfl, rfl, ite2 (fun cc => ?_) (fun _ => ?_)⟩
      · refine ⟨by show 1 ≤ sizeLine; decide, fun p hp => ⟨by show 1 ≤ sizeLine; decide, fun q hq => ⟨_, rfl, .inr ⟨q, many, [.int 1], rfl, rfl, SqT.of upd_same, by simp, by omega, by omega, by decide, fun r hr => ?_⟩⟩⟩⟩
        rw [flat_one, show ((many : Nat) : Int).toNat = many from rfl] at *
        have line : (200000 : Nat) < sizeLine := by decide
        refine tup_catA (same_new hr _ _ (same_new hq _ _ upd_same)) upd_same (by rw [List.length_replicate, List.length_singleton]; omega) fun H' a s ha => ?_
        have s4 : Same H3 H' := (same_new hp).trans ((same_new hq).trans ((same_new hr).trans s))
        exact k _ _ _ ((tp3.same s4).le (by omega)) (k3.trans (Kp.same s4)) (.tup ha (.cons (.str _) (tp_rep (.int 1) many))) ((Pa.tup (m := 0) (joined_of (by intro z; have := congrArg List.length z; rw [List.length_replicate, List.length_nil] at this; omega) (.inl rfl)) (paAll_ones 0 many)).up (by omega))
      have x1 : 1 ≤ x := by omega
      have x2 : x + 1 ≤ many := by omega
      have hX : x * (deep + 1) + (many - x) * (deep + 1) = many * (deep + 1) := by
        rw [← Nat.add_mul, show x + (many - x) = many by omega]
      have x3 : x * (deep + 1) ≥ x := Nat.le_mul_of_pos_right _ (Nat.succ_pos _)
      have x4 : (many - x) * (deep + 1) ≥ many - x := Nat.le_mul_of_pos_right _ (Nat.succ_pos _)
      refine ⟨w3, _, rfl, rfl, ite2 (fun cd => ?_) (fun _ => ?_)⟩
      · -- three
        have cd := of_decide_eq_true (Bool.and_eq_true_iff.mp cd).2
        have hY : (x - 1) * (deep + 1) + (deep + 1) = x * (deep + 1) := by
          rw [← Nat.succ_mul, show (x - 1).succ = x by omega]
        refine ⟨_, rfl, _, _, rfl, rfl, _, rfl, _, rfl, _, _, rfl, rfl, by show 3 ≤ sizeLine; decide, fun S nS => ⟨by show 1 ≤ sizeLine; decide, fun p1 h1 => ?_⟩⟩
        have hS : (upd H3 S (.tup [V.int 1, V.int ((x : Int) - 1), V.int ((many : Int) - (x : Int))])) S = some (.tup [V.int 1, V.int ((x - 1 : Nat) : Int), V.int ((many - x : Nat) : Int)]) := by
          rw [upd_same, show ((x - 1 : Nat) : Int) = (x : Int) - 1 by omega, show ((many - x : Nat) : Int) = (many : Int) - (x : Int) by omega]
        have tpS := (tp3.new nS).new h1 (o := .tup [.str "sums"])
        have kS : Kp t H (upd (upd H3 S (.tup [V.int 1, V.int ((x : Int) - 1), V.int ((many : Int) - (x : Int))])) p1 (.tup [.str "sums"])) := k3.trans ((Kp.new nS).trans (Kp.new h1))
        have hS2 := same_new h1 (o := .tup [.str "sums"]) _ _ hS
        have hp2 : (upd (upd H3 S (.tup [V.int 1, V.int ((x : Int) - 1), V.int ((many : Int) - (x : Int))])) p1 (.tup [.str "sums"])) p1 = some (.tup [.str "sums"]) := upd_same
        generalize upd (upd H3 S (.tup [V.int 1, V.int ((x : Int) - 1), V.int ((many : Int) - (x : Int))])) p1 (.tup [.str "sums"]) = H4 at tpS kS hS2 hp2 ⊢
        refine ⟨_, rfl, S, rfl, ⟨_, SqT.of hS2⟩, fun D nD => lc_tup (xs := [1, x - 1, many - x].map fun y : Nat => V.int (y : Int)) (fun i H' => ∃ e, e + 2 * i ≤ j + 2 + 4 * ((([1, x - 1, many - x].take i).sum) * (deep + 1)) ∧ LS H4 H' t c D (many + deep - 1) (([1, x - 1, many - x].take i).sum) e) ⟨j + 1 + 1, by simp, .new tpS nD⟩ (fun i H' _ z => ?_) (fun i y H' hy z => ?_) (fun H' z => ?_)⟩
        · obtain ⟨e, _, z⟩ := z
          exact SqT.of (KT.kp tpS z.kp _ _ hS2)
        · obtain ⟨e, he, z⟩ := z
          obtain ⟨b, rfl, hb, hl2, hs, hsum, hs2⟩ : ∃ b : Nat, y = V.int (b : Int) ∧ 1 ≤ b ∧ b + 1 ≤ many ∧ ([1, x - 1, many - x].take (i + 1)).sum = ([1, x - 1, many - x].take i).sum + b ∧ ([1, x - 1, many - x].take i).sum + b ≤ many ∧ (i < 2 → ([1, x - 1, many - x].take i).sum + b + 1 ≤ many) := by
            match i, hy with
            | 0, hy => cases hy; exact ⟨1, rfl, by omega, by omega, by simp, by simp; omega, fun _ => by simp; omega⟩
            | 1, hy => cases hy; exact ⟨x - 1, rfl, by omega, by omega, by simp, by simp; omega, fun _ => by simp; omega⟩
            | 2, hy => cases hy; exact ⟨many - x, rfl, by omega, by omega, by simp; omega, by simp; omega, fun z => absurd z (by decide)⟩
            | i + 3, hy => exact absurd hy (by simp)
          have hi : i < 3 := by
            have := (List.getElem?_eq_some_iff.mp hy).1
            simpa using this
          have mu : (([1, x - 1, many - x].take i).sum + b) * (deep + 1) = ([1, x - 1, many - x].take i).sum * (deep + 1) + b * (deep + 1) := Nat.add_mul _ _ _
          have mu2 : (([1, x - 1, many - x].take i).sum + b) * (deep + 1) ≤ many * (deep + 1) := Nat.mul_le_mul_right _ hsum
          have bp : b * (deep + 1) ≥ b := Nat.le_mul_of_pos_right _ (Nat.succ_pos _)
          have mu3 : i < 2 → (([1, x - 1, many - x].take i).sum + b) * (deep + 1) + (deep + 1) ≤ many * (deep + 1) := fun h => by
            rw [← Nat.succ_mul]
            exact Nat.mul_le_mul_right _ (hs2 h)
          have lim2 : e + 4 * (b * (deep + 1)) < 2 ^ 40 := by
            rcases Nat.lt_or_ge i 2 with h | h
            · have := mu3 h
              omega
            · omega
          rw [hs]
          refine ⟨rfl, yes_go ⟨_, rfl, _, rfl, _, rfl, t, c, b, deep, e, rfl, z.tp, lim2, hb, by omega, by omega, fun H5 v d tp5 kp5 tv pa => ?_⟩⟩
          obtain ⟨acc, ha, hb, zz⟩ := z.put (by omega) tp5 kp5 tv (pa.up (by omega))
          exact ⟨acc, ha, hb, _, by omega, zz⟩
        · obtain ⟨e, he, z⟩ := z
          have es : ([1, x - 1, many - x].take ([1, x - 1, many - x].map fun y : Nat => V.int (y : Int)).length).sum = many := by
            simp
            omega
          rw [es] at he z
          obtain ⟨vs, ds, hD, ta, pl⟩ := z.ex
          have l1 := ta.len
          have l2 := pl.pos
          refine ⟨D, _, rfl, .inl ⟨SqL.of hD, fun r nr => ?_⟩⟩
          have line : (200000 : Nat) < sizeLine := by decide
          have hp3 := KT.kp tpS z.kp _ _ hp2
          refine tup_catA (same_new nr _ _ hp3) upd_same (by rw [List.length_singleton]; omega) fun H' a s ha => ?_
          have s4 := (same_new nr).trans s
          have ne : ds ≠ [] := fun z => by
            rw [z] at pl
            cases pl
            omega
          have hl3 : ([1, x - 1, many - x].map fun y : Nat => V.int (y : Int)).length = 3 := rfl
          rw [hl3] at he
          refine k _ _ _ ((z.tp.same s4).le (by omega)) ((kS.trans z.kp).trans (Kp.same s4)) (.tup ha (.cons (.str _) (ta.kt (KT.same s4)))) ?_
          have := Pa.tup (joined_of ne (.inl rfl)) pl
          rw [show many + deep - 1 + 1 = many + deep by omega] at this
          exact this
      -- two
      refine ⟨w3, rfl, fun z hz => ?_⟩
      refine ⟨_, rfl, _, rfl, _, rfl, t, c, x, deep, j + 1 + 1, rfl, tp3, by omega, x1, by omega, by omega, fun H4 v4 d4 tp4 kp4 tv4 pa4 => ?_⟩
      refine ⟨_, rfl, _, rfl, _, rfl, _, _, rfl, rfl, _, rfl, t, c, many - x, deep, _, ?_, tp4, by omega, by omega, by omega, by omega, fun H5 v5 d5 tp5 kp5 tv5 pa5 => ⟨by show 3 ≤ sizeLine; decide, fun p hp => ?_⟩⟩
      · show [V.ref t, V.int ((many : Int) - (x : Int)), V.int (deep : Int)] = _
        rw [show ((many - x : Nat) : Int) = (many : Int) - (x : Int) by omega]
      · have all := PaAll.cons (pa4.up (m' := many + deep - 1) (by omega)) (.cons (pa5.up (m' := many + deep - 1) (by omega)) .nil)
        have pp := Pa.tup (w := z) (joined_of (by simp) (by rcases hz with hz | hz; exact .inr ⟨hz, rfl⟩; exact .inl hz)) all
        rw [show many + deep - 1 + 1 = many + deep by omega, show x + (many - x + 0) = many by omega] at pp
        exact k _ _ _ ((tp5.new hp).le (by omega)) (((k3.trans kp4).trans kp5).trans (Kp.new hp)) (.new hp (.cons (.str _) (.cons (tv4.kt (KT.kp tp4 kp5)) (.cons tv5 .nil)))) pp
end

section
variable {P : Program} {w : World} {K : PySem.W.Frag} {mg : Str → Option Value} {base : Heap}
theorem has_areG (T : Top K mg) (h_is_whole : Has P w K mg base 1 "is_whole" ["thing"] spWhole) (h__is_joined : Has P w K mg base 1 "_is_joined" ["thing"] spJ) : Has P w K mg base 2 "_are_parts" ["things", "around"] spAreG := by
  refine has_of T.d__are_parts sc__are_parts bd__are_parts (fun vs H Q E h => ?_) (fun f cdv A outer s H vs Q E hr h => ?_)
  · obtain ⟨a, o, xs, ds, rfl, _⟩ := h
    rfl
  · have hu := hu_of hr
    have nd := sc__are_parts.nd
    obtain ⟨a, o, xs, ds, rfl, ha, tr, lay, few, k⟩ := h
    refine ⟨_, (pss_cons (ps_set (i := 2) nd rfl (.inl rfl) pe_int)
    (pss_cons (ps_setLc (i := 4) (own := [("thing", 3)]) (by rfl) nd rfl rfl (sw_true rfl rfl rfl (by decide +kernel)) (pi_tup (pv 0)) (blkOk_by (own := [("thing", 3)]) (N := nm__are_parts) (sc := defScope s__are_parts) (by decide +kernel)) (fun _ _ _ _ _ => pg_name (i := 3) nd rfl (.inl rfl)) (fun _ _ _ _ _ => pts_nil) (fun _ _ _ _ _ => (pe_tup (pa_cons (pv 3) (pa_cons (pv 1) pa_nil)))))
    (pss_cons (ps_while PassesOwn.never (pt_truth (pv 4) (by intro _; rfl)) (pss_cons (ps_if (pt_cmpR op_gt (pe_op op_add (pv 2) (pe_callB call_len_seq (by rfl) T.b_len (by decide +kernel) (pa_cons (pv 4) pa_nil))) (pe_const T.c_MOST_ONES (by rfl)) (nomark _)) (pss_one (ps_ret pe_bl)) pss_nil)
    (pss_cons (ps_asg (pe_bm0 PySem.F.plainAttrs_list PySem.F.slot_list_pop PySem.F.type_list_pop mt_pop (pv 4)) (pg_tup (by rfl) (pgs_cons (pg_name (i := 3) nd rfl (.inl rfl)) (pgs_cons (pg_name (i := 5) nd rfl (.inr rfl)) pgs_nil))))
    (pss_one (ps_if (PW.pt (pw_and (pt_val (pe_has h_is_whole (hr.mono (by omega)) (by rfl) (pa_cons (pv 3) pa_nil))) (pw_and1 (pt_cmpR op_eq (pv 3) pe_int (nomark _))))) (pss_one (ps_aug (i := 2) nd rfl (.inl rfl) pe_int ip_add)) (pss_one (ps_if (PW.pt (pw_and (pt_cmpR op_lt (pv 5) (pe_const T.c_MOST_TUPLES (by rfl)) (nomark _)) (pw_and1 (pt_val (pe_has h__is_joined (hr.mono (by omega)) (by rfl) (pa_cons (pv 3) pa_nil)))))) (pss_one (ps_expr (pe_bm PySem.F.plainAttrs_list PySem.F.slot_list_extend PySem.F.type_list_extend mt_extend (pv 4) (pa_cons (pe_lc (own := [("part", 6)]) (by rfl) nd (pi_tup (pe_slice sl_tupA (pv 3) (po_some pe_int) po_none)) (blkOk_by (own := [("part", 6)]) (N := nm__are_parts) (sc := defScope s__are_parts) (by decide +kernel)) (fun _ _ _ _ _ => pg_name (i := 6) nd rfl (.inl rfl)) (fun _ _ _ _ _ => pts_nil) (fun _ _ _ _ _ => (pe_tup (pa_cons (pv 6) (pa_cons (pe_op op_add (pv 5) pe_int) pa_nil))))) pa_nil)))) (pss_one (ps_ret pe_bl)))))))))
    (pss_one (ps_ret pe_bl))))), ?_⟩
    have line : (200000 : Nat) < sizeLine := by decide
    have lx := tr.len
    have ls := len_sz ds
    -- the things, with what is around
    refine ⟨_, rfl, a, rfl, ⟨_, SqT.of ha⟩, fun W nW => lc_relT (fun i y H1 => ∃ d, ds[i]? = some d ∧ PrR H H1 y (d, o)) (fun i y H1 H2 r s => ?_) (fun i y H1 l o' hl r => ?_) (SqT.of ha) nW (by omega) (fun x => rfl) (fun i x hx H1 s1 R g => ?_) (fun H1 ys s1 hW ly ry => ?_)⟩
    · obtain ⟨d, hd, r⟩ := r
      exact ⟨d, hd, r.kt (KT.same s)⟩
    · obtain ⟨d, hd, r⟩ := r
      exact ⟨d, hd, r.kt (KT.lst hl)⟩
    · obtain ⟨d, hd, td⟩ := tr.get hx
      exact ⟨_, rfl, _, rfl, by show 2 ≤ sizeLine; decide, fun p hp => g _ _ (same_new hp) ⟨d, hd, p, x, rfl, upd_same, td⟩⟩
    · have pr := prAll_of (by omega : ys.length = ds.length) ry
      generalize hres : (gBAll (60 - o) ds && decide (onesAll ds ≤ 60)) = res at k
      refine ⟨fun m σ H' => ∃ (v3 v5 v6 : Option V) (n : Nat) (vs : List V) (ps : List (PyData × Nat)), m = szPs ps ∧ σ = [some (.ref a), some (.int o), some (.int n), v3, some (.ref W), v5, v6] ∧ Same H H' ∧ H' W = some (.lst vs) ∧ PrAll H H' vs ps ∧ layPs ps ∧ n ≤ 60 ∧ res = (PGB ps && decide (n + onesPs ps ≤ 60)) ∧ szPs ps ≤ 100000,
          ⟨_, none, none, none, 0, ys, ds.map fun d => (d, o), rfl, rfl, s1, hW, pr, ?_, by omega, ?_, ?_⟩, ?_⟩
      · intro q hq
        obtain ⟨d, hd, rfl⟩ := List.mem_map.mp hq
        exact lay_mem lay d hd
      · have e := PGB_put [] ds o
        rw [List.nil_append, show PGB [] = true from rfl, Bool.true_and] at e
        rw [e, ← hres]
        unfold onesPs
        rw [map_fst, Nat.zero_add]
      · unfold szPs
        rw [map_fst]
        exact few
      clear hres
      rintro m σ H' ⟨v3, v5, v6, n, vs, ps, rfl, rfl, s, hW', pa, ly, n60, er, few'⟩
      have lv := pa.len
      refine ⟨_, rfl, _, .inl ⟨vs, SqL.of hW', rfl⟩, ?_⟩
      by_cases e : vs = []
      · subst e
        cases pa
        have er2 : res = true := by
          rw [er, show PGB [] = true from rfl, Bool.true_and]
          exact decide_eq_true (by show n + 0 ≤ 60; omega)
        rw [er2] at k
        exact iteF (k _ s)
      obtain ⟨vs, y, rfl⟩ := snoc_of2 e
      obtain ⟨qs, q, rfl, pb, pq⟩ := pa.snoc_inv
      have ne : (!(vs ++ [y]).isEmpty) = true := by cases vs <;> rfl
      rw [ne]
      refine iteT ⟨_, fun σ' H' h => h, ?_⟩
      refine ⟨_, rfl, _, rfl, W, _, rfl, .inl (SqL.of hW'), _, _, rfl, rfl, _, _, rfl, rfl, _, rfl, ite2 (fun c => ?_) (fun c => ?_)⟩
      · have c1 : (60 : Int) < (n : Int) + ((vs ++ [y]).length : Nat) := of_decide_eq_true c
        have er2 : res = false := by
          rw [er]
          cases hp : PGB (qs ++ [q]) with
          | false => rfl
          | true =>
            have := PGB_len hp
            rw [Bool.true_and]
            exact decide_eq_false (by omega)
        rw [er2] at k
        exact k _ s
      have c1 : ¬ (60 : Int) < (n : Int) + ((vs ++ [y]).length : Nat) := fun z => c (decide_eq_true z)
      refine ⟨_, rfl, .inl ⟨rfl, _, SqL.of hW'⟩, W, _, y, rfl, rfl, hW', last_snoc, ?_⟩
      rw [dropLast_snoc]
      have k2 : KT H' (upd H' W (.lst vs)) := .lst hW'
      have s2 : Same H (upd H' W (.lst vs)) := same_mut s nW
      have hW2 : (upd H' W (.lst vs)) W = some (.lst vs) := upd_same
      replace pb := pb.kt k2
      replace pq := pq.kt k2
      generalize upd H' W (.lst vs) = H2 at s2 hW2 pb pq
      obtain ⟨b, v, rfl, hb, tv⟩ := pq
      refine ⟨b, _, rfl, SqT.of hb, rfl, _, _, rfl, _, _, rfl, rfl, ?_⟩
      obtain ⟨d, o'⟩ := q
      dsimp only at tv hb
      have lyq : layPs qs := fun z hz => ly z (List.mem_append_left _ hz)
      have ld : d.canLay0 = true := ly (d, o') (List.mem_append_right _ List.mem_cons_self)
      rw [PGB_snoc, onesPs_snoc] at er
      rw [szPs_snoc] at few' ⊢
      have lv2 := pb.len
      have pz := szP_pos d
      dsimp only at er few' ⊢
      rw [List.length_append, List.length_singleton] at c1
      have tv2 := tv.ks (KS.same s2)
      by_cases h1 : d = .int 1
      · subst h1
        cases tv
        refine ⟨_, rfl, _, rfl, .int 1, _, rfl, iteT ⟨_, rfl, rfl, _, rfl, iteT ⟨_, rfl, _, _, rfl, rfl, szPs qs, by omega, _, _, _, n + 1, vs, qs, rfl, rfl, s2, hW2, pb, lyq, by omega, ?_, by omega⟩⟩⟩
        rw [er, show gB (60 - o') (.int 1) = true by rw [gB]; rfl, Bool.and_true, show onesP (.int 1) = 1 from rfl, show n + 1 + onesPs qs = n + (onesPs qs + 1) by omega]
      -- no one
      have fin : gB (60 - o') d = false → Q (.bl false) H2 := fun z => by
        rw [er, z, Bool.and_false, Bool.false_and] at k
        exact k _ s2
      refine ⟨_, rfl, _, rfl, plain_th tv2, _, rfl, ?_⟩
      cases hi : isIntV v with
      | true =>
        obtain ⟨i, rfl⟩ := int_of hi
        cases tv
        have f2 := fin (by rw [gB]; exact decide_eq_false fun z => h1 (by rw [z]))
        refine iteT ⟨_, rfl, rfl, _, rfl, iteF' (fun z => h1 (by rw [V.int.inj z])) ?_⟩
        exact ⟨_, rfl, _, _, rfl, rfl, _, rfl, ite2 (fun _ => ⟨_, rfl, _, _, rfl, tv2, ld, _, rfl, iteF f2⟩) (fun _ => iteF f2)⟩
      | false =>
        refine iteF (iteF ⟨_, rfl, _, _, rfl, rfl, _, rfl, ite2 (fun c2 => ⟨_, rfl, _, _, rfl, tv2, ld, _, rfl, ?_⟩) (fun c2 => iteF (fin (gB_no h1 (.inl ?_))))⟩)
        rotate_left
        · have : ¬ (o' : Int) < 60 := fun z => c2 (decide_eq_true z)
          omega
        have o60 : (o' : Int) < 60 := of_decide_eq_true c2
        cases hj : joinedP d with
        | false => exact iteF (fin (gB_no h1 (.inr hj)))
        | true =>
          obtain ⟨w', es, rfl, ne', _⟩ := joined_inv hj
          clear fin
          cases tv with
          | tup ha' tr0 =>
            cases tr0 with
            | cons tw tr' =>
              rename_i a' v0 xs'
              have eg : gB (60 - o') (.tuple (.str w' :: es)) = gBAll (60 - (o' + 1)) es := by
                have z := gB_tup (k := 60 - (o' + 1)) hj
                rw [show 60 - (o' + 1) + 1 = 60 - o' by omega] at z
                exact z
              rw [eg, onesP, onesAll, show onesP (.str w') = 0 from rfl, Nat.zero_add] at er
              rw [szP, szAll] at few' ⊢
              have lr := tr'.len
              have lz' := len_sz es
              refine iteT ⟨_, rfl, .inl ⟨rfl, _, SqL.of hW2⟩, _, rfl, 1, rfl, piece_dropC (i := 1) rfl (s2 _ _ ha') fun H3 p' s3 hp3 => ?_⟩
              rw [List.drop_succ_cons, List.drop_zero] at hp3
              have hW3 := s3 _ _ hW2
              have s23 := s2.trans s3
              replace pb := pb.kt (KT.same s3)
              refine ⟨p', rfl, ⟨_, SqT.of hp3⟩, fun D hD => lc_relT (fun i y H1 => ∃ d, es[i]? = some d ∧ PrR H H1 y (d, o' + 1)) (fun i y H1 H2 r s => ?_) (fun i y H1 l o' hl r => ?_) (SqT.of hp3) hD (by omega) (fun x => rfl) (fun i x hx H1 s1 R g => ?_) (fun H1 zs s1 hD1 lz rz => ?_)⟩
              · obtain ⟨d, hd, r⟩ := r
                exact ⟨d, hd, r.kt (KT.same s)⟩
              · obtain ⟨d, hd, r⟩ := r
                exact ⟨d, hd, r.kt (KT.lst hl)⟩
              · obtain ⟨d', hd', td'⟩ := tr'.get hx
                exact ⟨_, rfl, _, rfl, _, _, rfl, rfl, by show 2 ≤ sizeLine; decide, fun p hp => g _ _ (same_new hp) ⟨d', hd', p, x, rfl, upd_same, td'⟩⟩
              · have hW4 := s1 _ _ hW3
                have pzs := prAll_of (by omega : zs.length = es.length) rz
                refine ⟨W, D, vs, zs, rfl, rfl, hW4, hD1, by omega, szPs (qs ++ es.map fun d => (d, o' + 1)), ?_, _, _, _, n, vs ++ zs, qs ++ es.map fun d => (d, o' + 1), rfl, rfl, same_mut (s23.trans s1) nW, upd_same, ?_, ?_, n60, ?_, ?_⟩
                · rw [szPs_put]
                  omega
                · exact ((pb.kt (KT.same s1)).app pzs).kt (KT.lst hW4)
                · intro z hz
                  rcases List.mem_append.mp hz with hz | hz
                  · exact lyq z hz
                  · obtain ⟨d, hd, rfl⟩ := List.mem_map.mp hz
                    rw [PyData.canLay0, PyData.canLayAll0, Bool.and_eq_true] at ld
                    exact lay_mem ld.2 d hd
                · rw [PGB_put, onesPs_put]
                  exact er
                · rw [szPs_put]
                  omega
theorem has_part (T : Top K mg) (h__are_parts : Has P w K mg base 2 "_are_parts" ["things", "around"] spAreG) : Has P w K mg base 3 "is_part" ["thing"] spPart := by
  refine has_of T.d_is_part sc_is_part bd_is_part (fun vs H Q E h => ?_) (fun f cdv A outer s H vs Q E hr h => ?_)
  · obtain ⟨v, d, rfl, _⟩ := h
    rfl
  · have hu := hu_of hr
    have nd := sc_is_part.nd
    obtain ⟨v, d, rfl, th, lay, few, k⟩ := h
    refine ⟨_, (pss_one (ps_ret (pe_has h__are_parts (hr.mono (by omega)) (by rfl) (pa_cons (pe_tup (pa_cons (pv 0) pa_nil)) (pa_cons pe_int pa_nil))))), ?_⟩
    refine ⟨_, rfl, by show 1 ≤ sizeLine; decide, fun p hp => ⟨p, 0, [v], [d], rfl, upd_same, .cons (th.ks (KS.same (same_new hp))) .nil, ?_, ?_, fun H' s => ?_⟩⟩
    · rw [PyData.canLayAll0, lay, PyData.canLayAll0]
      rfl
    · rw [szAll, szAll]
      omega
    · rw [gBAll, gBAll, Bool.and_true, onesAll, onesAll, Nat.add_zero]
      exact k H' ((same_new hp).trans s)
theorem has_plan (T : Top K mg) (h__are_parts : Has P w K mg base 2 "_are_parts" ["things", "around"] spAreG) : Has P w K mg base 3 "is_plan" ["thing"] spPlan := by
  refine has_of T.d_is_plan sc_is_plan bd_is_plan (fun vs H Q E h => ?_) (fun f cdv A outer s H vs Q E hr h => ?_)
  · obtain ⟨v, d, rfl, _⟩ := h
    rfl
  · have hu := hu_of hr
    have nd := sc_is_plan.nd
    obtain ⟨v, d, rfl, th, lay, few, k⟩ := h
    refine ⟨_, (pss_cons (ps_if (PW.pt (pw_or (pt_not (pt_val (pe_callB call_isi (by rfl) T.b_isinstance (by decide +kernel) (pa_cons (pv 0) (pa_cons (pe_bltn (v := .ty "tuple") (u := .type "tuple") (by rfl) T.b_tuple (by decide +kernel) (by rfl)) pa_nil))))) (pw_or1 (pt_cmpR op_lt (pe_callB call_len_seq (by rfl) T.b_len (by decide +kernel) (pa_cons (pv 0) pa_nil)) pe_int (nomark _))))) (pss_one (ps_ret pe_bl)) pss_nil)
    (pss_one (ps_ret (pe_and (pe_cmpR (op_inS hr.units) (pe_ix ix_tup (pv 0) pe_int (fun _ _ => rfl)) (pe_tup (pa_cons pe_str (pa_cons pe_str pa_nil))) (by rfl)) (pe_one (pe_has h__are_parts (hr.mono (by omega)) (by rfl) (pa_cons (pe_slice sl_tupA (pv 0) (po_some pe_int) po_none) (pa_cons pe_int pa_nil)))))))), ?_⟩
    refine ⟨_, rfl, _, .ty "tuple", _, _, _, rfl, .ty _, th_ty th, kit_tupl th, _, rfl, ?_⟩
    cases ht : isT d with
    | false =>
      refine iteT (iteT ?_)
      have e : planP d = false := by
        cases d <;> first | rfl | cases ht
      rw [e] at k
      exact k _ (Same.refl _)
    | true =>
      obtain ⟨a, xs, ds, rfl, rfl, ha, tr⟩ := th_tup th ht
      have lx := tr.len
      refine iteF ⟨_, rfl, a, _, rfl, .inr (SqT.of ha), _, _, rfl, rfl, _, rfl, ite2 (fun c0 => ?_) (fun c0 => ?_)⟩
      · have c := of_decide_eq_true c0
        rw [plan_short (by omega)] at k
        exact k _ (Same.refl _)
      · replace c0 : ¬ ((xs.length : Nat) : Int) < 2 := fun z => c0 (decide_eq_true z)
        cases tr with
        | nil => exact absurd (by decide) c0
        | cons h1 h2 =>
          rename_i v0 xs d0 es
          have l2 := h2.len
          have ne : es ≠ [] := fun z => by
            rw [z] at l2
            rw [List.length_cons, l2] at c0
            exact c0 (by decide)
          have hat : atI (v0 :: xs) 0 = some v0 := at_of (j := 0) rfl rfl
          rw [PyData.canLay0, PyData.canLayAll0, Bool.and_eq_true] at lay
          rw [szP, szAll] at few
          refine ⟨_, rfl, a, _, _, _, rfl, rfl, SqT.of ha, hat, by show 2 ≤ sizeLine; decide, fun p hp => ⟨d0, [.str "pairs", .str "codes"], (h1.ks (KS.same (same_new hp))).dp, .tup (SqT.of upd_same) (.cons (.str _) (.cons (.str _) .nil)), lay.1, by decide +kernel, by rfl, _, rfl, ?_⟩⟩
          rw [← plan_eq ne]
          cases h0 : planP (.tuple (d0 :: es)) with
          | false =>
            rw [h0] at k
            exact iteF (k _ (same_new hp))
          | true =>
            rw [h0, Bool.true_and] at k
            refine iteT ⟨_, rfl, 1, rfl, piece_dropC (i := 1) rfl (same_new hp _ _ ha) fun H3 p3 s3 hp3 => ?_⟩
            exact ⟨p3, 1, xs, es, rfl, hp3, h2.ks (KS.same ((same_new hp).trans s3)), lay.2, by omega, fun H' s' => k H' ((same_new hp).trans (s3.trans s'))⟩
end

/-! ### the law's own count of ones -/
def jW (A : Bool) (d : PyData) : Bool := if A = true then joinedP d else planP d
def wsW (A : Bool) : List V := if A = true then [.str "sums", .str "net"] else [.str "pairs", .str "codes"]
def onW (A : Bool) (k : Nat) : PyData → Nat
  | .int i => if A = true ∧ i = 1 then 1 else 0
  | .tuple ds => if (jW A (.tuple ds) && decide (0 < k) && gBAll (k - 1) (ds.drop 1)) = true then onesAll (ds.drop 1) else 0
  | _ => 0
theorem onW_true (k : Nat) (d : PyData) : onW true k d = if gB k d = true then onesP d else 0 := by
  cases d with
  | int i =>
    rw [onW, gB, onesP]
    by_cases h : i = 1
    · rw [if_pos ⟨rfl, h⟩, if_pos (decide_eq_true h)]
    · rw [if_neg fun z => h z.2, if_neg fun z => h (of_decide_eq_true z)]
  | tuple ds =>
    rw [onW, gB, onesP, show jW true (.tuple ds) = joinedP (.tuple ds) from rfl]
    cases hj : joinedP (.tuple ds) with
    | false =>
      rw [Bool.false_and, Bool.false_and, Bool.and_false, Bool.false_and]
      rfl
    | true =>
      obtain ⟨w, es, z, _⟩ := joined_inv hj
      cases z
      rw [Bool.true_and, Bool.and_true, List.drop_succ_cons, List.drop_zero, gTl, onesAll, show onesP (.str w) = 0 from rfl, Nat.zero_add]
  | _ => rw [onW, gB, if_neg (by decide)] <;> (intros; rename_i z; cases z)
theorem onW_zero {k : Nat} {d : PyData} : onW true k d = 0 ↔ gB k d = false := by
  rw [onW_true]
  constructor
  · intro h
    cases e : gB k d with
    | false => rfl
    | true =>
      rw [if_pos e] at h
      have := gB_pos k d e
      omega
  · intro h
    rw [if_neg (by rw [h]; decide)]
def lsW (k : Nat) (es : List PyData) : List Int := es.map fun d => (onW true k d : Int)
theorem lsW_zero {k : Nat} {es : List PyData} : (0 : Int) ∈ lsW k es ↔ gBAll k es = false := by
  rw [gBAll_all]
  unfold lsW
  rw [List.mem_map, ← Bool.not_eq_true, List.all_eq_true]
  constructor
  · rintro ⟨d, hd, e⟩ h
    have := onW_zero.mp (show onW true k d = 0 by omega)
    rw [h d hd] at this
    cases this
  · intro h
    by_cases c : ∃ d, d ∈ es ∧ gB k d = false
    · obtain ⟨d, hd, e⟩ := c
      exact ⟨d, hd, by rw [onW_zero.mpr e]; rfl⟩
    · refine absurd (fun d hd => ?_) h
      cases e : gB k d with
      | true => rfl
      | false => exact absurd ⟨d, hd, e⟩ c
theorem lsW_sum {k : Nat} : ∀ {es : List PyData}, gBAll k es = true → (lsW k es).sum = (onesAll es : Int)
  | [], _ => rfl
  | d :: es, h => by
    rw [gBAll, Bool.and_eq_true] at h
    have e1 := onW_true k d
    rw [if_pos h.1] at e1
    have e2 := lsW_sum h.2
    unfold lsW at e2 ⊢
    rw [List.map_cons, List.sum_cons, e2, e1, onesAll]
    omega
theorem lsW_len (k : Nat) (es : List PyData) : (lsW k es).length = es.length := List.length_map _
/-- a tuple, a text ahead, something behind it, and some way left -/
def okT (k : Nat) : PyData → Bool
  | .tuple (.str _ :: _ :: _) => decide (0 < k)
  | _ => false
theorem okT_on {A : Bool} {k : Nat} {d : PyData} (h : okT k d = false) (hi : (isI d && !isB d) = false) : onW A k d = 0 := by
  cases d with
  | int i => cases hi
  | tuple ds =>
    rw [onW]
    refine if_neg fun z => ?_
    rw [Bool.and_eq_true, Bool.and_eq_true] at z
    have hk := of_decide_eq_true z.1.2
    have hj := z.1.1
    have : ∃ w es, ds = .str w :: es ∧ es ≠ [] := by
      unfold jW at hj
      split at hj
      · obtain ⟨w, es, e, ne, _⟩ := joined_inv hj
        exact ⟨w, es, PyData.tuple.inj e, ne⟩
      · obtain ⟨w, es, e, ne, _⟩ := plan_inv hj
        exact ⟨w, es, PyData.tuple.inj e, ne⟩
    obtain ⟨w, es, rfl, ne⟩ := this
    cases es with
    | nil => exact ne rfl
    | cons x xs =>
      rw [okT, decide_eq_true hk] at h
      cases h
  | _ => rfl
def tNum : TT := fun σ H R => ∃ (v : V) (d : PyData), σ[0]? = some (some v) ∧ Th H v d ∧ R (isI d && !isB d) H
def tOkT : TT := fun σ H R => ∃ (v : V) (d : PyData) (k : Nat), σ[0]? = some (some v) ∧ σ[2]? = some (some (.int (k : Int))) ∧ Th H v d ∧ R (!okT k d) H
def tBad : TT := fun σ H R => ∃ (a b : Addr) (w : Str) (xs : List V) (A : Bool), σ[0]? = some (some (.ref a)) ∧ σ[1]? = some (some (.ref b)) ∧ H a = some (.tup (.str w :: xs)) ∧ H b = some (.lst (wsW A)) ∧
  R (!(inV (.str w) (wsW A) && !(decide (w = "net") && !decide (xs.length = 2)))) H
theorem szAll_mem : ∀ {ds : List PyData} (d : PyData), d ∈ ds → szP d ≤ szAll ds
  | x :: ds, d, h => by
    rw [szAll]
    rcases List.mem_cons.mp h with z | z
    · rw [z]
      omega
    · have := szAll_mem d z
      omega
def spLOnes (n : Nat) : Sp := fun vs H Q _ => ∃ (v : V) (d : PyData) (b : Addr) (A : Bool) (k : Nat), vs = [v, .ref b, .int k] ∧ Th H v d ∧ szP d ≤ 90000 ∧ k + 1 ≤ n ∧ H b = some (.lst (wsW A)) ∧ ∀ H', Same H H' → Q (.int (onW A k d : Nat)) H'
theorem wsW_flat (A : Bool) : (wsW A).all flatV = true := by
  cases A <;> rfl
theorem inW_str (w : Str) (l : List Str) : inV (.str w) (l.map V.str) = decide (w ∈ l) := by
  unfold inV
  rw [List.any_map]
  by_cases h : w ∈ l
  · rw [decide_eq_true h, List.any_eq_true]
    exact ⟨w, h, (str_beqd w w).trans (decide_eq_true rfl)⟩
  · rw [decide_eq_false h, List.any_eq_false]
    intro y hy z
    have z : (y == w) = true := z
    rw [str_beqd] at z
    exact h (of_decide_eq_true z ▸ hy)
theorem two_in {a b w : Str} : decide (w ∈ [a, b]) = (decide (w = a) || decide (w = b)) := by
  by_cases h1 : w = a
  · rw [decide_eq_true h1, decide_eq_true (by rw [h1]; exact List.mem_cons_self), Bool.true_or]
  · by_cases h2 : w = b
    · rw [decide_eq_true h2, decide_eq_true (by rw [h2]; exact List.mem_cons_of_mem _ List.mem_cons_self), Bool.or_true]
    · rw [decide_eq_false h1, decide_eq_false h2, decide_eq_false (fun z => by
        rcases List.mem_cons.mp z with z | z
        · exact h1 z
        · exact h2 (List.mem_singleton.mp z))]
      rfl
theorem jW_eq {A : Bool} {w : Str} {x : PyData} {xs : List PyData} : jW A (.tuple (.str w :: x :: xs)) = (inV (.str w) (wsW A) && !(decide (w = "net") && !decide ((x :: xs).length = 2))) := by
  have ne : x :: xs ≠ [] := by simp
  cases A with
  | true =>
    rw [show wsW true = ([("sums" : Str), ("net" : Str)] : List Str).map V.str from rfl, inW_str, two_in, show jW true (.tuple (.str w :: x :: xs)) = joinedP (.tuple (.str w :: x :: xs)) from rfl]
    show (decide (x :: xs ≠ []) && (decide (w = "sums") || (decide (w = "net") && decide ((x :: xs).length = 2)))) = _
    rw [decide_eq_true ne, Bool.true_and]
    generalize decide ((x :: xs).length = 2) = b
    by_cases h1 : w = "sums"
    · rw [decide_eq_true h1, decide_eq_false (fun z : w = "net" => absurd (h1.symm.trans z) (by decide +kernel))]
      rfl
    · rw [decide_eq_false h1]
      cases decide (w = "net") <;> cases b <;> rfl
  | false =>
    rw [show wsW false = ([("pairs" : Str), ("codes" : Str)] : List Str).map V.str from rfl, inW_str, two_in, show jW false (.tuple (.str w :: x :: xs)) = planP (.tuple (.str w :: x :: xs)) from rfl]
    show (decide (x :: xs ≠ []) && (decide (w = "pairs") || decide (w = "codes"))) = _
    rw [decide_eq_true ne, Bool.true_and]
    by_cases h1 : w = "net"
    · rw [decide_eq_false (fun z : w = "pairs" => absurd (h1.symm.trans z) (by decide +kernel)), decide_eq_false (fun z : w = "codes" => absurd (h1.symm.trans z) (by decide +kernel))]
      rfl
    · rw [decide_eq_false h1, Bool.false_and, Bool.not_false, Bool.and_true]
section
variable {P : Program} {w : World} {K : PySem.W.Frag} {mg : Str → Option Value} {base : Heap}
theorem has_lones (T : Top K mg) : ∀ n, ∃ l, l ≤ n + 1 ∧ Has P w K mg base l "_law_ones" ["_law_thing", "_law_words", "_law_deep"] (spLOnes n)
  | 0 => ⟨0, by omega, has_zero T.d__law_ones bd__law_ones fun vs H Q E h => by
      obtain ⟨v, d, b, A, k, _, _, _, h1, _⟩ := h
      omega⟩
  | n + 1 => by
    obtain ⟨l, hl, h__law_ones⟩ := has_lones T n
    refine ⟨n + 1 + 1, by omega, has_of (k := n + 1) T.d__law_ones sc__law_ones bd__law_ones (fun vs H Q E h => ?_) (fun f cdv A outer s H vs Q E hr h => ?_)⟩
    · obtain ⟨v, d, b, A, k, rfl, _⟩ := h
      rfl
    · have hu := hu_of hr
      have nd := sc__law_ones.nd
      obtain ⟨v, d, b, A, kk, rfl, th, few, lv, hb, k⟩ := h
      refine ⟨_, (pss_cons (ps_if (pt_wk tNum (PW.pt (pw_and (pt_val (pe_callB call_isi (by rfl) T.b_isinstance (by decide +kernel) (pa_cons (pv 0) (pa_cons (pe_bltn (v := .ty "int") (u := .type "int") (by rfl) T.b_int (by decide +kernel) (by rfl)) pa_nil)))) (pw_and1 (pt_not (pt_val (pe_callB call_isi (by rfl) T.b_isinstance (by decide +kernel) (pa_cons (pv 0) (pa_cons (pe_bltn (v := .ty "bool") (u := .type "bool") (by rfl) T.b_bool (by decide +kernel) (by rfl)) pa_nil)))))))) ?num) (pss_one (ps_ret (pe_callTy call_int1 (by rfl) T.b_int (by decide +kernel) (pa_cons (pe_and (pe_cmpR op_eq (pv 0) pe_int (nomark _)) (pe_one (pe_cmpR op_in_seq pe_str (pv 1) (by rfl)))) pa_nil)))) pss_nil)
    (pss_cons (ps_if (pt_wk tOkT (PW.pt (pw_or (pt_not (pt_val (pe_callB call_isi (by rfl) T.b_isinstance (by decide +kernel) (pa_cons (pv 0) (pa_cons (pe_bltn (v := .ty "tuple") (u := .type "tuple") (by rfl) T.b_tuple (by decide +kernel) (by rfl)) pa_nil))))) (pw_or (pt_cmpR op_lt (pe_callB call_len_seq (by rfl) T.b_len (by decide +kernel) (pa_cons (pv 0) pa_nil)) pe_int (nomark _)) (pw_or (pt_cmpR op_eq (pv 2) pe_int (nomark _)) (pw_or1 (pt_not (pt_val (pe_callB call_isi (by rfl) T.b_isinstance (by decide +kernel) (pa_cons (pe_ix ix_tup (pv 0) pe_int (fun _ _ => rfl)) (pa_cons (pe_bltn (v := .ty "str") (u := .type "str") (by rfl) T.b_str (by decide +kernel) (by rfl)) pa_nil)))))))))) ?okt) (pss_one (ps_ret pe_int)) pss_nil)
    (pss_cons (ps_if (pt_wk tBad (PW.pt (pw_or (pt_cmpR op_notIn_seq (pe_ix ix_tup (pv 0) pe_int (fun _ _ => rfl)) (pv 1) (by rfl)) (pw_or1 (PW.pt (pw_and (pt_cmpR op_eq (pe_ix ix_tup (pv 0) pe_int (fun _ _ => rfl)) pe_str (nomark _)) (pw_and1 (pt_cmpR op_ne (pe_callB call_len_seq (by rfl) T.b_len (by decide +kernel) (pa_cons (pv 0) pa_nil)) pe_int (nomark _)))))))) ?bad) (pss_one (ps_ret pe_int)) pss_nil)
    (pss_cons (ps_setLc (i := 3) (own := [("_law_one", 4)]) (by rfl) nd rfl rfl (sw_true rfl rfl rfl (by decide +kernel)) (pi_tup (pe_slice sl_tupA (pv 0) (po_some pe_int) po_none)) (blkOk_by (own := [("_law_one", 4)]) (N := nm__law_ones) (sc := defScope s__law_ones) (by decide +kernel)) (fun _ _ _ _ _ => pg_name (i := 4) nd rfl (.inl rfl)) (fun _ _ _ _ _ => pts_nil) (fun _ _ _ _ _ => (pe_has h__law_ones (hr.mono (by omega)) (by rfl) (pa_cons (pv 4) (pa_cons (pe_lst (pa_cons pe_str (pa_cons pe_str pa_nil))) (pa_cons (pe_op op_sub (pv 2) pe_int) pa_nil))))))
    (pss_one (ps_ret (pe_ifExp (pt_cmpR op_in_seq pe_int (pv 3) (by rfl)) pe_int (pe_callB (cr_sum rfl) (by rfl) T.b_sum (by decide +kernel) (pa_cons (pv 3) pa_nil))))))))), ?_⟩
      case num =>
        rintro σ H R ⟨v, d, e1, th, r⟩
        refine ⟨_, e1, _, .ty "int", _, _, _, rfl, .ty _, th_ty th, kit_int th, _, rfl, ?_⟩
        cases h : isI d with
        | false =>
          rw [h, Bool.false_and] at r
          exact iteF r
        | true =>
          rw [h, Bool.true_and] at r
          exact iteT ⟨_, e1, _, .ty "bool", _, _, _, rfl, .ty _, th_ty th, kit_bool th, _, rfl, r⟩
      case okt =>
        rintro σ H R ⟨v, d, k, e1, e2, th, r⟩
        refine ⟨_, e1, _, .ty "tuple", _, _, _, rfl, .ty _, th_ty th, kit_tupl th, _, rfl, ?_⟩
        cases ht : isT d with
        | false =>
          have e : okT k d = false := by
            cases d <;> first | rfl | cases ht
          rw [e] at r
          exact iteT r
        | true =>
          obtain ⟨a, xs, ds, rfl, rfl, ha, tr⟩ := th_tup th ht
          have lx := tr.len
          refine iteF ⟨_, e1, a, _, rfl, .inr (SqT.of ha), _, _, rfl, rfl, _, rfl, ite2 (fun c0 => ?_) (fun c0 => ?_)⟩
          · have c := of_decide_eq_true c0
            have e : okT k (.tuple ds) = false := by
              match ds, lx with
              | [], _ => rfl
              | [x], _ =>
                cases x <;> rfl
              | x :: y :: ds, lx => exact absurd c (by rw [lx]; simp only [List.length_cons]; omega)
            rw [e] at r
            exact r
          · replace c0 : ¬ ((xs.length : Nat) : Int) < 2 := fun z => c0 (decide_eq_true z)
            cases tr with
            | nil => exact absurd (by decide) c0
            | cons h1 h2 =>
              rename_i v0 xs d0 es
              have l2 := h2.len
              have hat : atI (v0 :: xs) 0 = some v0 := at_of (j := 0) rfl rfl
              cases es with
              | nil =>
                rw [List.length_cons, l2] at c0
                exact absurd (by decide) c0
              | cons d1 es =>
                refine ⟨_, e2, rfl, _, rfl, ite2 (fun c1 => ?_) (fun c1 => ?_)⟩
                · have c1 : k = 0 := by
                    have := V.int.inj (of_decide_eq_true c1)
                    omega
                  subst c1
                  have e : okT 0 (.tuple (d0 :: d1 :: es)) = false := by
                    cases d0 <;> rfl
                  rw [e] at r
                  exact r
                · have c1 : 0 < k := by
                    have : ¬ k = 0 := fun z => c1 (decide_eq_true (by rw [z]; rfl))
                    omega
                  refine ⟨_, e1, a, _, _, _, rfl, rfl, SqT.of ha, hat, _, .ty "str", _, _, _, rfl, .ty _, th_ty h1, kit_str h1, _, rfl, ?_⟩
                  have e : okT k (.tuple (d0 :: d1 :: es)) = isS d0 := by
                    cases d0 <;> first | rfl | (rw [okT, decide_eq_true c1]; rfl)
                  rw [e] at r
                  exact r
      case bad =>
        rintro σ H R ⟨a, b, w', xs, A, e1, e2, ha, hb, r⟩
        have hat : atI (V.str w' :: xs) 0 = some (.str w') := at_of (j := 0) rfl rfl
        refine ⟨_, e1, a, _, _, _, rfl, rfl, SqT.of ha, hat, _, e2, b, _, rfl, .inl (SqL.of hb), rfl, wsW_flat A, _, rfl, ?_⟩
        rw [if_pos rfl]
        cases hin : inV (.str w') (wsW A) with
        | false =>
          rw [hin] at r
          exact iteT r
        | true =>
          rw [hin, Bool.true_and, Bool.not_not] at r
          refine iteF ⟨_, e1, a, _, _, _, rfl, rfl, SqT.of ha, hat, rfl, _, rfl, ?_⟩
          by_cases h3 : w' = "net"
          · rw [decide_eq_true h3, Bool.true_and] at r
            refine iteT' (by rw [h3]) ⟨_, e1, a, _, rfl, .inr (SqT.of ha), rfl, _, rfl, ?_⟩
            have e3 : decide (V.int ((V.str w' :: xs).length : Nat) = V.int 3) = decide (xs.length = 2) := by
              refine decide_eq_decide.mpr ⟨fun y => ?_, fun y => ?_⟩
              · have y2 := V.int.inj y
                rw [List.length_cons] at y2
                omega
              · rw [List.length_cons, y]
                rfl
            rw [← e3] at r
            exact r
          · rw [decide_eq_false h3, Bool.false_and] at r
            exact iteF' (fun z => h3 (V.str.inj z)) r
      refine ⟨v, d, rfl, th, ?_⟩
      cases hi : (isI d && !isB d) with
      | true =>
        obtain ⟨i, rfl, rfl⟩ : ∃ i, d = .int i ∧ v = .int i := by
          cases th <;> first | exact ⟨_, rfl, rfl⟩ | cases hi
        refine iteT ⟨_, rfl, rfl, _, rfl, ?_⟩
        have kk' := k H (Same.refl _)
        rw [onW] at kk'
        by_cases h1 : i = 1
        · subst h1
          refine iteT' rfl ⟨_, rfl, b, _, rfl, .inl (SqL.of hb), rfl, wsW_flat A, .inr ⟨_, rfl, ?_⟩⟩
          cases A with
          | true =>
            rw [if_pos ⟨rfl, rfl⟩] at kk'
            exact kk'
          | false =>
            rw [if_neg (by simp)] at kk'
            exact kk'
        · rw [if_neg fun z => h1 z.2] at kk'
          exact iteF' (fun z => h1 (V.int.inj z)) (.inr ⟨false, rfl, kk'⟩)
      | false =>
        refine iteF ⟨v, d, kk, rfl, rfl, th, ?_⟩
        cases ho : okT kk d with
        | false =>
          have e := okT_on (A := A) ho hi
          have k' := k H (Same.refl _)
          rw [e] at k'
          exact iteT k'
        | true =>
          obtain ⟨w', d1, es, rfl, k0⟩ : ∃ w' d1 es, d = .tuple (.str w' :: d1 :: es) ∧ 0 < kk := by
            unfold okT at ho
            split at ho
            · exact ⟨_, _, _, rfl, of_decide_eq_true ho⟩
            · cases ho
          refine iteF ?_
          cases th with
          | tup ha tr =>
            rename_i a xs
            cases tr with
            | cons h1 h2 =>
              rename_i v0 xs
              cases h1
              have l2 := h2.len
              have hat : atI (V.str w' :: xs) 0 = some (.str w') := at_of (j := 0) rfl rfl
              have lsz := len_sz (d1 :: es)
              rw [szP, szAll] at few
              have e0 := jW_eq (A := A) (w := w') (x := d1) (xs := es)
              have zero : jW A (.tuple (.str w' :: d1 :: es)) = false → Q (.int 0) H := fun z => by
                have k' := k H (Same.refl _)
                rw [onW, z, Bool.false_and, Bool.false_and, if_neg (by decide)] at k'
                exact k'
              refine ⟨a, b, w', xs, A, rfl, rfl, ha, hb, ?_⟩
              rw [l2, ← e0]
              cases hj : jW A (.tuple (.str w' :: d1 :: es)) with
              | false => exact iteT (zero hj)
              | true =>
                have on : onW A kk (.tuple (.str w' :: d1 :: es)) = if gBAll (kk - 1) (d1 :: es) = true then onesAll (d1 :: es) else 0 := by
                  rw [onW, hj, decide_eq_true k0, Bool.true_and, Bool.true_and, List.drop_succ_cons, List.drop_zero]
                rw [on] at k
                clear zero e0 on
                refine iteF ⟨_, rfl, 1, rfl, piece_dropC (i := 1) rfl ha fun H3 p3 s3 hp3 => ⟨p3, rfl, ⟨_, SqT.of hp3⟩, fun D hD => lc_relT (fun i y _ => ∃ z, (lsW (kk - 1) (d1 :: es))[i]? = some z ∧ y = V.int z) (fun _ _ _ _ r _ => r) (fun _ _ _ _ _ _ r => r) (SqT.of hp3) hD (by rw [List.drop_succ_cons, List.drop_zero]; omega) (fun x => rfl) (fun i x hx H1 s1 R g => ?_) (fun H1 ys s1 hD1 ly ry => ?_)⟩⟩
                · rw [List.drop_succ_cons, List.drop_zero] at hx
                  obtain ⟨d', hd', td'⟩ := h2.get hx
                  refine ⟨_, rfl, by show 2 ≤ sizeLine; decide, fun q nq => ⟨_, rfl, _, _, rfl, rfl, x, d', q, true, kk - 1, ?_, td'.ks (KS.same ((s3.trans s1).trans (same_new nq))), ?_, by omega, upd_same, fun H' s' => g _ _ ((same_new nq).trans s') ⟨_, ?_, rfl⟩⟩⟩
                  · show [x, V.ref q, V.int ((kk : Int) - 1)] = _
                    rw [show (kk : Int) - 1 = ((kk - 1 : Nat) : Int) by omega]
                  · have := szAll_mem _ (List.mem_of_getElem? hd')
                    omega
                  · unfold lsW
                    rw [List.getElem?_map, hd']
                    rfl
                · rw [List.drop_succ_cons, List.drop_zero] at ly
                  have ey : ys = (lsW (kk - 1) (d1 :: es)).map V.int := eq_of_get (by rw [List.length_map, lsW_len, ly, l2]) fun i y hy => by
                    obtain ⟨z, hz, rfl⟩ := ry i y hy
                    rw [List.getElem?_map, hz]
                    rfl
                  subst ey
                  refine ⟨_, rfl, D, _, rfl, .inl (SqL.of hD1), rfl, flat_l _, _, rfl, ?_⟩
                  rw [if_neg (by decide), inV_l]
                  by_cases h0 : (0 : Int) ∈ lsW (kk - 1) (d1 :: es)
                  · rw [lsW_zero.mp h0, if_neg (by decide)] at k
                    exact iteT' h0 (k _ (s3.trans s1))
                  · have g1 : gBAll (kk - 1) (d1 :: es) = true := by
                      cases e : gBAll (kk - 1) (d1 :: es) with
                      | true => rfl
                      | false => exact absurd (lsW_zero.mpr e) h0
                    rw [g1, if_pos rfl] at k
                    refine iteF' h0 ⟨_, rfl, D, lsW (kk - 1) (d1 :: es), rfl, SqL.of hD1, ?_⟩
                    rw [lsW_sum g1]
                    exact k _ (s3.trans s1)
end

/-! ### plans as a law draws them -/
def spLPlan (N : Nat) : Sp := fun vs H Q _ => ∃ (t c : Addr) (many j : Nat) (most : Int), vs = [.ref t, .int many, .int most] ∧ Tape H t c j ∧ j + 12 * many + 20 < 2 ^ 40 ∧ 1 ≤ many ∧ many ≤ 1000 ∧ many + 3 ≤ N ∧
  ∀ (H' : Hp) (v : V) (z : Str) (ds : List PyData), Tape H' t c (j + 12 * many + 3) → Kp t H H' → Tp H' v (.tuple (.str z :: ds)) → (z = "pairs" ∨ (z = "codes" ∧ most = 1)) → PaAll (many + 2) many ds → Q v H'
section
variable {P : Program} {w : World} {K : PySem.W.Frag} {mg : Str → Option Value} {base : Heap}
theorem has_lplan (T : Top K mg) (h__law_draw : Has P w K mg base 1 "_law_draw" ["_law_tape", "_law_many"] spDraw) {l N : Nat} (hl : l ≤ N + 3) (h__law_part : Has P w K mg base l "_law_part" ["_law_tape", "_law_many", "_law_deep"] (spLPart N)) :
    Has P w K mg base (N + 4) "_law_plan" ["_law_tape", "_law_many", "_law_most"] (spLPlan N) := by
  refine has_of (k := N + 3) T.d__law_plan sc__law_plan bd__law_plan (fun vs H Q E h => ?_) (fun f cdv A outer s H vs Q E hr h => ?_)
  · obtain ⟨t, c, many, j, most, rfl, _⟩ := h
    rfl
  · have hu := hu_of hr
    have nd := sc__law_plan.nd
    obtain ⟨t, c, many, j, most, rfl, tp, lim, m1, m60, lv, k⟩ := h
    refine ⟨_, (pss_cons (ps_asg (pe_tup (pa_cons (pe_wk (uTape "codes" "pairs" 2) (pe_ifExp (PW.pt (pw_and (pt_cmpR op_eq (pv 2) pe_int (nomark _)) (pw_and1 (pt_cmpR op_eq (pe_has h__law_draw (hr.mono (by omega)) (by rfl) (pa_cons (pv 0) (pa_cons pe_int pa_nil))) pe_int (nomark _))))) pe_str pe_str) ?word) (pa_cons pe_int pa_nil))) (pg_tup (by rfl) (pgs_cons (pg_name (i := 3) nd rfl (.inl rfl)) (pgs_cons (pg_name (i := 4) nd rfl (.inr rfl)) pgs_nil))))
    (pss_cons (ps_par (i := 5) (j := 6) (by rfl) nd rfl rfl (by decide) rfl rfl (pa_cons (pe_has h__law_draw (hr.mono (by omega)) (by rfl) (pa_cons (pv 0) (pa_cons pe_int pa_nil))) (pa_cons (pe_op op_add pe_int (pe_has h__law_draw (hr.mono (by omega)) (by rfl) (pa_cons (pv 0) (pa_cons (pe_callB (call_max2 rfl) (by rfl) T.b_max (by decide +kernel) (pa_cons pe_int (pa_cons (pe_op op_sub (pv 1) pe_int) pa_nil))) pa_nil)))) pa_nil)) (by rfl))
    (pss_cons (ps_if (pt_wk (tIO 5 1 (fun n => decide (n = 0)) (fun n => decide (n = 1))) (PW.pt (pw_or (pt_cmpR op_eq (pv 5) pe_int (nomark _)) (pw_or1 (pt_cmpR op_eq (pv 1) pe_int (nomark _))))) ?flat) (pss_one (ps_ret (pe_op op_catA (pe_tup (pa_cons (pv 3) pa_nil)) (pe_op op_repT1 (pe_tup (pa_cons pe_int pa_nil)) (pv 1))))) pss_nil)
    (pss_cons (ps_if (pt_wk (tII 5 1 (fun n => decide (n = 1)) (fun n => decide (n > 2))) (PW.pt (pw_and (pt_cmpR op_eq (pv 5) pe_int (nomark _)) (pw_and1 (pt_cmpR op_gt (pv 1) pe_int (nomark _))))) ?three) (pss_cons (ps_set (i := 7) nd rfl (.inl rfl) (pe_tup (pa_cons (pv 6) (pa_cons pe_int (pa_cons (pe_op op_sub (pe_op op_sub (pv 1) (pv 6)) pe_int) pa_nil)))))
    (pss_one (ps_ret (pe_op op_catA (pe_tup (pa_cons (pv 3) pa_nil)) (pe_callTy call_tuple_of (by rfl) T.b_tuple (by decide +kernel) (pa_cons (pe_lc (own := [("_law_one", 8)]) (by rfl) nd (pi_tup (pv 7)) (blkOk_by (own := [("_law_one", 8)]) (N := nm__law_plan) (sc := defScope s__law_plan) (by decide +kernel)) (fun _ _ _ _ _ => pg_name (i := 8) nd rfl (.inl rfl)) (fun _ _ _ _ _ => pts_one (pt_cmpR op_gt (pv 8) pe_int (nomark _))) (fun _ _ _ _ _ => (pe_has h__law_part (hr.mono (by omega)) (by rfl) (pa_cons (pv 0) (pa_cons (pv 8) (pa_cons (pv 4) pa_nil)))))) pa_nil)))))) pss_nil)
    (pss_one (ps_ret (pe_tup (pa_cons (pv 3) (pa_cons (pe_has h__law_part (hr.mono (by omega)) (by rfl) (pa_cons (pv 0) (pa_cons (pv 6) (pa_cons (pv 4) pa_nil)))) (pa_cons (pe_has h__law_part (hr.mono (by omega)) (by rfl) (pa_cons (pv 0) (pa_cons (pe_op op_sub (pv 1) (pv 6)) (pa_cons (pv 4) pa_nil)))) pa_nil)))))))))), ?_⟩
    case word =>
      rintro σ H R ⟨n, t, c, j, e1, e2, tp, lim, r⟩
      refine ⟨_, e1, rfl, _, rfl, ite2 (fun c0 => ?_) (fun _ => iteF (r _ _ (.inr rfl) (tp.le (by omega)) (Kp.refl _)))⟩
      have c1 : n = 1 := V.int.inj (of_decide_eq_true c0)
      exact ⟨_, e2, t, c, 3, j, rfl, tp, lim, by decide, pow8000 (by decide), fun H1 r1 a1 b1 tp1 kp1 => ⟨rfl, _, rfl, ite2 (fun _ => r _ _ (.inl ⟨rfl, c1⟩) tp1 kp1) (fun _ => r _ _ (.inr rfl) tp1 kp1)⟩⟩
    case flat =>
      rintro σ H R ⟨n, m, e1, e2, r⟩
      replace r : R (decide (n = 0) || decide (m = 1)) H := r
      refine ⟨_, e1, rfl, _, rfl, ?_⟩
      by_cases h : n = 0
      · rw [decide_eq_true h, Bool.true_or] at r
        exact iteT' (by rw [h]) r
      · rw [decide_eq_false h, Bool.false_or] at r
        refine iteF' (fun z => h (V.int.inj z)) ⟨_, e2, rfl, _, rfl, ?_⟩
        rw [show decide (V.int m = V.int 1) = decide (m = 1) from decide_eq_decide.mpr ⟨fun z => V.int.inj z, fun z => by rw [z]⟩]
        exact r
    case three =>
      rintro σ H R ⟨n, m, e1, e2, r⟩
      replace r : R (decide (n = 1) && decide (m > 2)) H := r
      refine ⟨_, e1, rfl, _, rfl, ?_⟩
      by_cases h : n = 1
      · rw [decide_eq_true h, Bool.true_and] at r
        exact iteT' (by rw [h]) ⟨_, e2, _, _, rfl, rfl, _, rfl, r⟩
      · rw [decide_eq_false h, Bool.false_and] at r
        exact iteF' (fun z => h (V.int.inj z)) r
    have line : (200000 : Nat) < sizeLine := by decide
    refine ⟨most, t, c, j, rfl, rfl, tp, by omega, fun z H1 hz tp1 kp1 => ⟨by show 2 ≤ sizeLine; decide, fun p hp => ⟨p, _, rfl, SqT.of upd_same, rfl, _, _, rfl, _, _, rfl, rfl, ?_⟩⟩⟩
    have tp2 := tp1.new hp (o := .tup [.str z, .int 2])
    have k2 : Kp t H (upd H1 p (.tup [.str z, .int 2])) := kp1.trans (Kp.new hp)
    generalize upd H1 p (.tup [.str z, .int 2]) = H2 at tp2 k2 ⊢
    clear kp1 tp1 hp
    replace hz : z = "pairs" ∨ (z = "codes" ∧ most = 1) := hz.symm
    obtain ⟨m, em, m0, mb, m2, mm1⟩ : ∃ m : Int, (if (many : Int) - 1 > 1 then (many : Int) - 1 else 1) = m ∧ 0 < m ∧ m ≤ 1000 ∧ (2 ≤ many → m = many - 1) ∧ (many = 1 → m = 1) := ⟨_, rfl, by split <;> omega, by split <;> omega, fun z => by split <;> omega, fun z => by split <;> omega⟩
    refine ⟨_, rfl, t, c, 4, j + 1, rfl, tp2, by omega, by decide, pow8000 (by decide), fun H3 r3 a3 b3 tp3 kp3 => ?_⟩
    refine ⟨_, rfl, _, rfl, _, _, rfl, rfl, _, _, rfl, t, c, m, j + 1 + 1, congrArg (fun z => [V.ref t, V.int z]) em, tp3, by omega, m0, pow8000 (by omega), fun H4 r a1 b1 tp4 kp4 => ?_⟩
    obtain ⟨x, ex⟩ : ∃ x : Nat, 1 + r = (x : Int) := ⟨(1 + r).toNat, by omega⟩
    refine ⟨_, _, rfl, rfl, ?_⟩
    generalize hv : (fun i j : Int => V.int (i + j)) 1 r = nv
    obtain rfl : nv = V.int (x : Int) := hv.symm.trans (congrArg V.int ex)
    have k4 : Kp t H H4 := (k2.trans kp3).trans kp4
    clear hv kp3 kp4 k2 tp2 tp3 em
    refine ⟨_, _, rfl, r3, many, rfl, rfl, ite2 (fun _ => ?_) (fun cb => ?_)⟩
    · -- ones alone
      refine ⟨_, rfl, by show 1 ≤ sizeLine; decide, fun p hp => ⟨by show 1 ≤ sizeLine; decide, fun q hq => ⟨_, rfl, ?_⟩⟩⟩
      have s1 : Same H4 (upd (upd H4 p (.tup [.str z])) q (.tup [.int 1])) := (same_new hp).trans (same_new hq)
      have hp2 := same_new hq (o := .tup [.int 1]) _ _ (show (upd H4 p (.tup [.str z])) p = some (.tup [.str z]) from upd_same)
      have hq2 : (upd (upd H4 p (.tup [.str z])) q (.tup [.int 1])) q = some (.tup [.int 1]) := upd_same
      generalize upd (upd H4 p (.tup [.str z])) q (.tup [.int 1]) = H5 at s1 hp2 hq2 ⊢
      by_cases c1 : many = 1
      · subst c1
        refine .inl ⟨q, [.int 1], rfl, rfl, SqT.of hq2, ?_⟩
        refine tup_catA hp2 hq2 (by show 2 ≤ sizeLine; decide) fun H' a s ha => ?_
        have s4 := s1.trans s
        exact k _ _ _ _ ((tp4.same s4).le (by omega)) (k4.trans (Kp.same s4)) (.tup ha (.cons (.str _) (.cons (.int 1) .nil))) hz (paAll_ones _ 1)
      · refine .inr ⟨q, many, [.int 1], rfl, rfl, SqT.of hq2, by simp, by omega, by omega, by decide, fun r hr => ?_⟩
        rw [flat_one, show ((many : Nat) : Int).toNat = many from rfl] at *
        refine tup_catA (same_new hr _ _ hp2) upd_same (by rw [List.length_replicate, List.length_singleton]; omega) fun H' a s ha => ?_
        have s4 : Same H4 H' := s1.trans ((same_new hr).trans s)
        exact k _ _ _ _ ((tp4.same s4).le (by omega)) (k4.trans (Kp.same s4)) (.tup ha (.cons (.str _) (tp_rep (.int 1) many))) hz (paAll_ones _ many)
    have cb : 2 ≤ many := by
      have : ¬ many = 1 := fun z => cb (by
        rw [Bool.or_eq_true]
        exact .inr (decide_eq_true (by rw [z]; rfl)))
      omega
    have em := m2 cb
    have x1 : 1 ≤ x := by omega
    have x2 : x + 1 ≤ many := by omega
    refine ⟨r3, many, rfl, rfl, ite2 (fun _ => ?_) (fun _ => ?_)⟩
    · -- three
      refine ⟨_, rfl, _, rfl, _, rfl, _, _, rfl, rfl, _, _, rfl, rfl, by show 3 ≤ sizeLine; decide, fun S nS => ⟨_, rfl, by show 1 ≤ sizeLine; decide, fun p1 h1 => ?_⟩⟩
      have hS : (upd H4 S (.tup [V.int (x : Int), V.int 1, V.int ((many : Int) - (x : Int) - 1)])) S = some (.tup [V.int (x : Int), V.int ((1 : Nat) : Int), V.int ((many - x - 1 : Nat) : Int)]) := by
        rw [upd_same, show ((many - x - 1 : Nat) : Int) = (many : Int) - (x : Int) - 1 by omega]
        rfl
      have tpS := (tp4.new nS (o := .tup [V.int (x : Int), V.int 1, V.int ((many : Int) - (x : Int) - 1)])).new h1 (o := .tup [.str z])
      have kS : Kp t H (upd (upd H4 S (.tup [V.int (x : Int), V.int 1, V.int ((many : Int) - (x : Int) - 1)])) p1 (.tup [.str z])) := k4.trans ((Kp.new nS).trans (Kp.new h1))
      have hS2 := same_new h1 (o := .tup [.str z]) _ _ hS
      have hp2 : (upd (upd H4 S (.tup [V.int (x : Int), V.int 1, V.int ((many : Int) - (x : Int) - 1)])) p1 (.tup [.str z])) p1 = some (.tup [.str z]) := upd_same
      generalize upd (upd H4 S (.tup [V.int (x : Int), V.int 1, V.int ((many : Int) - (x : Int) - 1)])) p1 (.tup [.str z]) = H5 at tpS kS hS2 hp2 ⊢
      refine ⟨_, rfl, S, rfl, ⟨_, SqT.of hS2⟩, fun D nD => lc_tup (xs := [x, 1, many - x - 1].map fun y : Nat => V.int (y : Int)) (fun i H' => ∃ e, e ≤ j + 3 + 12 * (([x, 1, many - x - 1].take i).sum) ∧ LS H5 H' t c D (many + 2) (([x, 1, many - x - 1].take i).sum) e) ⟨j + 1 + 1 + 1, by simp, .new tpS nD⟩ (fun i H' _ z => ?_) (fun i y H' hy z => ?_) (fun H' z => ?_)⟩
      · obtain ⟨e, _, z⟩ := z
        exact SqT.of (KT.kp tpS z.kp _ _ hS2)
      · obtain ⟨e, he, z⟩ := z
        obtain ⟨b, rfl, hl2, hs, hsum⟩ : ∃ b : Nat, y = V.int (b : Int) ∧ b + 1 ≤ many ∧ ([x, 1, many - x - 1].take (i + 1)).sum = ([x, 1, many - x - 1].take i).sum + b ∧ ([x, 1, many - x - 1].take i).sum + b ≤ many := by
          match i, hy with
          | 0, hy => cases hy; exact ⟨x, rfl, by omega, by simp, by simp; omega⟩
          | 1, hy => cases hy; exact ⟨1, rfl, by omega, by simp, by simp; omega⟩
          | 2, hy => cases hy; exact ⟨many - x - 1, rfl, by omega, by simp; omega, by simp; omega⟩
          | i + 3, hy => exact absurd hy (by simp)
        rw [hs]
        refine ⟨rfl, _, rfl, _, _, rfl, rfl, _, rfl, ?_⟩
        by_cases hb : 0 < b
        · refine iteT' (by omega) ⟨_, rfl, _, rfl, _, rfl, t, c, b, 2, e, rfl, z.tp, by omega, hb, by omega, by omega, fun H6 v d tp6 kp6 tv pa => ?_⟩
          obtain ⟨acc, ha, hb, zz⟩ := z.put (by omega) tp6 kp6 tv (pa.up (by omega))
          exact ⟨acc, ha, hb, _, by omega, zz⟩
        · obtain rfl : b = 0 := by omega
          exact iteF' (by omega) ⟨e, he, z⟩
      · obtain ⟨e, he, z⟩ := z
        have es : ([x, 1, many - x - 1].take ([x, 1, many - x - 1].map fun y : Nat => V.int (y : Int)).length).sum = many := by
          simp
          omega
        rw [es] at he z
        obtain ⟨vs, ds, hD, ta, pl⟩ := z.ex
        have l1 := ta.len
        have l2 := pl.pos
        refine ⟨D, _, rfl, .inl ⟨SqL.of hD, fun r nr => ?_⟩⟩
        have hp3 := KT.kp tpS z.kp _ _ hp2
        refine tup_catA (same_new nr _ _ hp3) upd_same (by rw [List.length_singleton]; omega) fun H' a s ha => ?_
        have s4 := (same_new nr).trans s
        exact k _ _ _ _ ((z.tp.same s4).le (by omega)) ((kS.trans z.kp).trans (Kp.same s4)) (.tup ha (.cons (.str _) (ta.kt (KT.same s4)))) hz pl
    -- two
    refine ⟨_, rfl, _, rfl, _, rfl, _, rfl, t, c, x, 2, j + 1 + 1 + 1, rfl, tp4, by omega, x1, by omega, by omega, fun H6 v6 d6 tp6 kp6 tv6 pa6 => ?_⟩
    refine ⟨_, rfl, _, rfl, _, rfl, _, _, rfl, rfl, _, rfl, t, c, many - x, 2, _, ?_, tp6, by omega, by omega, by omega, by omega, fun H7 v7 d7 tp7 kp7 tv7 pa7 => ⟨by show 3 ≤ sizeLine; decide, fun p hp => ?_⟩⟩
    · show [V.ref t, V.int ((many : Int) - (x : Int)), V.int 2] = _
      rw [show ((many - x : Nat) : Int) = (many : Int) - (x : Int) by omega]
      rfl
    · have all := PaAll.cons (pa6.up (m' := many + 2) (by omega)) (.cons (pa7.up (m' := many + 2) (by omega)) .nil)
      rw [show x + (many - x + 0) = many by omega] at all
      exact k _ _ _ _ ((tp7.new hp).le (by omega)) (((k4.trans kp6).trans kp7).trans (Kp.new hp)) (.new hp (.cons (.str _) (.cons (tv6.kt (KT.kp tp6 kp7)) (.cons tv7 .nil)))) hz all
end

/-! ### things spoilt at a place -/
inductive Tree : Nat → PyData → Prop
  | one {m : Nat} {i : Int} : Tree m (.int i)
  | tup {m : Nat} {ds : List PyData} {w : Str} : (∀ d ∈ ds, Tree m d) → Tree (m + 1) (.tuple (.str w :: ds))
/-- a thing of such a size -/
def TE (H : Hp) (B : Nat) (v : V) : Prop := ∃ d, Th H v d ∧ d.canLay0 = true ∧ szP d ≤ B
def AT (H : Hp) (B : Nat) (xs : List V) : Prop := ∀ x ∈ xs, TE H B x
/-- a tuple of such a size -/
def Tq (H : Hp) (r : Addr) (B : Nat) : Prop := ∃ xs ds, H r = some (.tup xs) ∧ ThAll H xs ds ∧ PyData.canLayAll0 ds = true ∧ szAll ds ≤ B
theorem TE.ks {H H' : Hp} {B : Nat} {v : V} (s : KS H H') (h : TE H B v) : TE H' B v := by
  obtain ⟨d, a, b, c⟩ := h
  exact ⟨d, a.ks s, b, c⟩
theorem TE.mono {H : Hp} {B C : Nat} {v : V} (h : TE H B v) (l : B ≤ C) : TE H C v := by
  obtain ⟨d, a, b, c⟩ := h
  exact ⟨d, a, b, by omega⟩
theorem AT.ks {H H' : Hp} {B : Nat} {xs : List V} (s : KS H H') (h : AT H B xs) : AT H' B xs := fun x hx => (h x hx).ks s
theorem AT.nil {H : Hp} {B : Nat} : AT H B [] := fun x h => by cases h
theorem AT.cons {H : Hp} {B : Nat} {x : V} {xs : List V} (h : TE H B x) (r : AT H B xs) : AT H B (x :: xs) := fun y hy => by
  rcases List.mem_cons.mp hy with rfl | hy
  · exact h
  · exact r y hy
theorem AT.app {H : Hp} {B : Nat} {xs ys : List V} (h : AT H B xs) (r : AT H B ys) : AT H B (xs ++ ys) := fun y hy => by
  rcases List.mem_append.mp hy with hy | hy
  · exact h y hy
  · exact r y hy
theorem AT.rep {H : Hp} {B n : Nat} {xs : List V} (h : AT H B xs) : AT H B (List.replicate n xs).flatten := fun y hy => by
  obtain ⟨l, hl, hy⟩ := List.mem_flatten.mp hy
  rw [List.eq_of_mem_replicate hl] at hy
  exact h y hy
theorem Tq.ks {H H' : Hp} {B : Nat} {r : Addr} (s : KS H H') (h : Tq H r B) : Tq H' r B := by
  obtain ⟨xs, ds, a, b, c, d⟩ := h
  exact ⟨xs, ds, (s _ _).1 a, b.ks s, c, d⟩
theorem Tq.te {H : Hp} {B : Nat} {r : Addr} (h : Tq H r B) : TE H (B + 1) (.ref r) := by
  obtain ⟨xs, ds, a, b, c, d⟩ := h
  exact ⟨.tuple ds, .tup a b, by rw [PyData.canLay0]; exact c, by rw [szP]; omega⟩
theorem te_tq {H : Hp} {B : Nat} {a : Addr} {xs : List V} (h : TE H B (.ref a)) (ha : H a = some (.tup xs)) : Tq H a B := by
  obtain ⟨d, th, lay, sz⟩ := h
  cases th with
  | lst e _ =>
    rw [ha] at e
    cases e
  | tup e r =>
    rename_i ds
    rw [ha] at e
    cases e
    rw [PyData.canLay0] at lay
    rw [szP] at sz
    exact ⟨_, ds, ha, r, lay, by omega⟩
theorem all_th {H : Hp} {B : Nat} : ∀ {xs : List V}, AT H B xs → ∃ ds, ThAll H xs ds ∧ PyData.canLayAll0 ds = true ∧ szAll ds ≤ B * xs.length
  | [], _ => ⟨[], .nil, by rw [PyData.canLayAll0], Nat.zero_le _⟩
  | x :: xs, h => by
    obtain ⟨d, a, b, c⟩ := h x List.mem_cons_self
    obtain ⟨ds, a2, b2, c2⟩ := all_th fun y hy => h y (List.mem_cons_of_mem _ hy)
    refine ⟨d :: ds, .cons a a2, ?_, ?_⟩
    · rw [PyData.canLayAll0, b, b2]
      rfl
    · rw [szAll, List.length_cons, Nat.mul_succ]
      omega
theorem tq_new {H : Hp} {B C : Nat} {p : Addr} {xs : List V} (h : AT H B xs) (np : H p = none) (l : B * xs.length ≤ C) : Tq (upd H p (.tup xs)) p C := by
  obtain ⟨ds, a, b, c⟩ := all_th (h.ks (KS.same (same_new (o := .tup xs) np)))
  exact ⟨xs, ds, upd_same, a, b, by omega⟩
theorem tl_new {H : Hp} {B : Nat} {p : Addr} {xs : List V} (h : AT H B xs) (np : H p = none) : TE (upd H p (.lst xs)) 1 (.ref p) := by
  obtain ⟨ds, a, b, c⟩ := all_th (h.ks (KS.same (same_new (o := .lst xs) np)))
  exact ⟨.list ds, .lst upd_same a, by rw [PyData.canLay0]; exact b, Nat.le_refl _⟩
theorem szAll_take (i : Nat) (ds : List PyData) : szAll (ds.take i) ≤ szAll ds := by
  have := szAll_app (ds.take i) (ds.drop i)
  rw [List.take_append_drop] at this
  omega
theorem szAll_drop (i : Nat) (ds : List PyData) : szAll (ds.drop i) ≤ szAll ds := by
  have := szAll_app (ds.take i) (ds.drop i)
  rw [List.take_append_drop] at this
  omega
theorem lay_take {i : Nat} {ds : List PyData} (h : PyData.canLayAll0 ds = true) : PyData.canLayAll0 (ds.take i) = true := lay_of fun d hd => lay_mem h d (List.mem_of_mem_take hd)
theorem lay_drop {i : Nat} {ds : List PyData} (h : PyData.canLayAll0 ds = true) : PyData.canLayAll0 (ds.drop i) = true := lay_of fun d hd => lay_mem h d (List.mem_of_mem_drop hd)
theorem lay_app {a b : List PyData} (h : PyData.canLayAll0 a = true) (k : PyData.canLayAll0 b = true) : PyData.canLayAll0 (a ++ b) = true := lay_of fun d hd => by
  rcases List.mem_append.mp hd with z | z
  · exact lay_mem h d z
  · exact lay_mem k d z
theorem sz_split {ds : List PyData} {i : Nat} {d : PyData} (h : ds[i]? = some d) : szAll (ds.take i) + szP d + szAll (ds.drop (i + 1)) = szAll ds := by
  obtain ⟨hi, e⟩ := List.getElem?_eq_some_iff.mp h
  have := szAll_app (ds.take i) (ds.drop i)
  rw [List.take_append_drop, List.drop_eq_getElem_cons hi, e, szAll] at this
  omega
section
variable {K : PySem.W.Frag} {H : Hp} {a b : Addr} {Q : VK} {B C : Nat}
theorem tq_slice {lo hi : Option Int} (h : Tq H a B) (k : ∀ H' r, Same H H' → Tq H' r B → Q (.ref r) H') : rSlA K (.ref a) lo hi H Q := by
  obtain ⟨xs, ds, ha, ta, lay, sz⟩ := h
  refine ⟨a, xs, rfl, SqT.of ha, fun _ => k H a (Same.refl _) ⟨xs, ds, ha, ta, lay, sz⟩, fun _ p hp => k _ p (same_new hp) ?_⟩
  unfold cutV
  refine ⟨_, _, upd_same, ((ta.drop _).take _).ks (KS.same (same_new hp)), lay_take (lay_drop lay), ?_⟩
  have h1 := szAll_take (HT.sIx xs.length xs.length hi - HT.sIx xs.length 0 lo) (ds.drop (HT.sIx xs.length 0 lo))
  have h2 := szAll_drop (HT.sIx xs.length 0 lo) ds
  omega
theorem tq_sliceC {σ : L2.St} {lo : Option Int} (h : Tq H a B) (k : ∀ H' r, Same H H' → Tq H' r B → Q (.ref r) H') : tNoPart σ H fun u H3 => rSlA K (.ref a) lo u H3 Q := tq_slice h k
theorem tq_cat (h : Tq H a B) (g : Tq H b C) (l : B + C ≤ 1000000) (k : ∀ H' r, Same H H' → Tq H' r (B + C) → Q (.ref r) H') : rCatA K (.ref a) (.ref b) H Q := by
  obtain ⟨xs, ds, ha, ta, lay, sz⟩ := h
  obtain ⟨ys, es, hb, tb, lay2, sz2⟩ := g
  have l1 := ta.len
  have l2 := tb.len
  have l3 := len_sz ds
  have l4 := len_sz es
  have line : (2000000 : Nat) < sizeLine := by decide
  refine tup_catA ha hb (by omega) fun H' r s hr => k H' r s ⟨_, _, hr, (ta.ks (KS.same s)).app (tb.ks (KS.same s)), lay_app lay lay2, ?_⟩
  rw [szAll_app]
  omega
end
theorem te_str {H : Hp} {z : Str} (h : PyData.canLay0 (.str z) = true) : TE H 1 (.str z) := ⟨_, .str z, h, Nat.le_refl _⟩
theorem te_int {H : Hp} (i : Int) : TE H 1 (.int i) := ⟨_, .int i, rfl, Nat.le_refl _⟩
theorem te_bl {H : Hp} (b : Bool) : TE H 1 (.bl b) := ⟨_, .bl b, rfl, Nat.le_refl _⟩
theorem te_non {H : Hp} : TE H 1 .non := ⟨_, .non, rfl, Nat.le_refl _⟩
def spBent (n : Nat) : Sp := fun vs H Q _ => ∃ (t c : Addr) (v : V) (d : PyData) (j m : Nat), vs = [.ref t, v] ∧ Tape H t c j ∧ j + 2 * n + 20 < 2 ^ 40 ∧ Th H v d ∧ Tree m d ∧ m + 1 ≤ n ∧ d.canLay0 = true ∧ szP d ≤ 10000 ∧
  ∀ H' v', Tape H' t c (j + 2 * n + 10) → Kp t H H' → TE H' (2 * szP d + 20) v' → Q v' H'
/-- a tuple with more than one item, and a draw -/
def tBent : TT := fun σ H R => ∃ (v : V) (d : PyData) (t c : Addr) (j : Nat), σ[0]? = some (some (.ref t)) ∧ σ[1]? = some (some v) ∧ Th H v d ∧ Tape H t c j ∧ j < 2 ^ 40 ∧
  ∀ b H', (b = true → ∃ d0 d1 ds, d = .tuple (d0 :: d1 :: ds)) → Tape H' t c (j + 1) → Kp t H H' → R b H'
theorem te_list {H : Hp} {p : Addr} {xs : List V} {ds : List PyData} (ta : ThAll H xs ds) (lay : PyData.canLayAll0 ds = true) (np : H p = none) : TE (upd H p (.lst xs)) 1 (.ref p) :=
  ⟨.list ds, .lst upd_same (ta.ks (KS.same (same_new np))), by rw [PyData.canLay0]; exact lay, Nat.le_refl _⟩
/-- what is known while the things to pick from are made -/
structure Kn (H0 H : Hp) (t c : Addr) (e B : Nat) (v0 : V) (d0 : PyData) (xs : List V) : Prop where
  tp : Tape H t c e
  kp : Kp t H0 H
  th : Th H v0 d0
  all : AT H B xs
section
variable {H0 H : Hp} {t c : Addr} {e B : Nat} {v0 : V} {d0 : PyData} {xs : List V}
theorem Kn.same {H' : Hp} (z : Kn H0 H t c e B v0 d0 xs) (s : Same H H') : Kn H0 H' t c e B v0 d0 xs := ⟨z.tp.same s, z.kp.trans (Kp.same s), z.th.ks (KS.same s), z.all.ks (KS.same s)⟩
theorem Kn.call {H' : Hp} {e' : Nat} (z : Kn H0 H t c e B v0 d0 xs) (tp : Tape H' t c e') (kp : Kp t H H') : Kn H0 H' t c e' B v0 d0 xs := ⟨tp, z.kp.trans kp, z.th.ks (KS.kp z.tp kp), z.all.ks (KS.kp z.tp kp)⟩
theorem Kn.add {v : V} (z : Kn H0 H t c e B v0 d0 xs) (h : TE H B v) : Kn H0 H t c e B v0 d0 (v :: xs) := ⟨z.tp, z.kp, z.th, .cons h z.all⟩
theorem Kn.tup {p : Addr} {ys : List V} {b : Nat} (z : Kn H0 H t c e B v0 d0 xs) (np : H p = none) (h : AT H b ys) (l : b * ys.length + 1 ≤ B) : Kn H0 (upd H p (.tup ys)) t c e B v0 d0 (.ref p :: xs) :=
  (z.same (same_new np)).add ((tq_new h np (Nat.le_refl _)).te.mono l)
theorem Kn.lst {p : Addr} {ys : List V} {b : Nat} (z : Kn H0 H t c e B v0 d0 xs) (np : H p = none) (h : AT H b ys) (l : 1 ≤ B) : Kn H0 (upd H p (.lst ys)) t c e B v0 d0 (.ref p :: xs) :=
  (z.same (same_new np)).add ((tl_new h np).mono l)
/-- the list to pick from -/
def LL (H : Hp) (L : Addr) (B n : Nat) : Prop := ∃ ys, H L = some (.lst ys) ∧ AT H B ys ∧ ys.length ≤ n ∧ 0 < ys.length
theorem LL.ks {H H' : Hp} {L : Addr} {B n : Nat} (s : KS H H') (h : LL H L B n) : LL H' L B n := by
  obtain ⟨ys, a, b, c, d⟩ := h
  exact ⟨ys, (s _ _).2 a, b.ks s, c, d⟩
theorem Kn.list {L : Addr} {ys : List V} {n : Nat} (z : Kn H0 H t c e B v0 d0 xs) (np : H L = none) (A : AT H B ys) (l : ys.length ≤ n) (p : 0 < ys.length) : Kn H0 (upd H L (.lst ys)) t c e B v0 d0 xs ∧ LL (upd H L (.lst ys)) L B n :=
  ⟨z.same (same_new np), ys, upd_same, A.ks (KS.same (same_new np)), l, p⟩
theorem Kn.at_tup {a : Addr} {ds : List PyData} (z : Kn H0 H t c e B (.ref a) (.tuple ds) xs) : ∃ ys, H a = some (.tup ys) ∧ ThAll H ys ds := by
  have h := z.th
  cases h with
  | tup ha ta => exact ⟨_, ha, ta⟩
theorem Kn.tqa {a : Addr} {ds : List PyData} (z : Kn H0 H t c e B (.ref a) (.tuple ds) xs) (lay : PyData.canLayAll0 ds = true) : Tq H a (szAll ds) := by
  have h := z.th
  cases h with
  | tup ha ta => exact ⟨_, ds, ha, ta, lay, Nat.le_refl _⟩
end
section
variable {P : Program} {w : World} {K : PySem.W.Frag} {mg : Str → Option Value} {base : Heap}
theorem has_bent (T : Top K mg) (h__law_draw : Has P w K mg base 1 "_law_draw" ["_law_tape", "_law_many"] spDraw) (h__law_pick : Has P w K mg base 2 "_law_pick" ["_law_tape", "_law_some"] (spPick K)) :
    ∀ n, ∃ l, l ≤ n + 3 ∧ Has P w K mg base l "_law_bent" ["_law_tape", "_law_thing"] (spBent n)
  | 0 => ⟨0, by omega, has_zero T.d__law_bent bd__law_bent fun vs H Q E h => by
      obtain ⟨t, c, v, d, j, m, _, _, _, _, _, h1, _⟩ := h
      omega⟩
  | n + 1 => by
    obtain ⟨l, hl, h__law_bent⟩ := has_bent T h__law_draw h__law_pick n
    refine ⟨n + 3 + 1, by omega, has_of (k := n + 3) T.d__law_bent sc__law_bent bd__law_bent (fun vs H Q E h => ?_) (fun f cdv A outer s H vs Q E hr h => ?_)⟩
    · obtain ⟨t, c, v, d, j, m, rfl, _⟩ := h
      rfl
    · have hu := hu_of hr
      have nd := sc__law_bent.nd
      obtain ⟨t, c, v, d, j, m, rfl, tp, lim, th, tr, lv, lay, few, k⟩ := h
      refine ⟨_, (pss_cons (ps_if (pt_wk tBent (PW.pt (pw_and (pt_val (pe_callB call_isi (by rfl) T.b_isinstance (by decide +kernel) (pa_cons (pv 1) (pa_cons (pe_bltn (v := .ty "tuple") (u := .type "tuple") (by rfl) T.b_tuple (by decide +kernel) (by rfl)) pa_nil)))) (pw_and (pt_cmpR op_gt (pe_callB call_len_seq (by rfl) T.b_len (by decide +kernel) (pa_cons (pv 1) pa_nil)) pe_int (nomark _)) (pw_and1 (pt_cmpR op_gt (pe_has h__law_draw (hr.mono (by omega)) (by rfl) (pa_cons (pv 0) (pa_cons pe_int pa_nil))) pe_int (nomark _)))))) ?into) (pss_cons (ps_set (i := 2) nd rfl (.inl rfl) (pe_op op_add pe_int (pe_has h__law_draw (hr.mono (by omega)) (by rfl) (pa_cons (pv 0) (pa_cons (pe_op op_sub (pe_callB call_len_seq (by rfl) T.b_len (by decide +kernel) (pa_cons (pv 1) pa_nil)) pe_int) pa_nil)))))
    (pss_one (ps_ret (pe_op op_catA (pe_op op_catA (pe_slice sl_tupA (pv 1) po_none (po_some (pv 2))) (pe_tup (pa_cons (pe_has h__law_bent (hr.mono (by omega)) (by rfl) (pa_cons (pv 0) (pa_cons (pe_ix ix_tup (pv 1) (pv 2) (fun _ _ => rfl)) pa_nil))) pa_nil))) (pe_slice sl_tupA (pv 1) (po_some (pe_op op_add (pv 2) pe_int)) po_none))))) pss_nil)
    (pss_cons (ps_set (i := 3) nd rfl (.inl rfl) (pe_has h__law_pick (hr.mono (by omega)) (by rfl) (pa_cons (pv 0) (pa_cons (pe_lst (pa_cons pe_str (pa_cons pe_str (pa_cons pe_str (pa_cons pe_str (pa_cons pe_str (pa_cons pe_str (pa_cons pe_str (pa_cons pe_int (pa_cons pe_non pa_nil)))))))))) pa_nil))))
    (pss_cons (ps_set (i := 4) nd rfl (.inl rfl) (pe_lst (pa_cons pe_bl (pa_cons pe_int (pa_cons pe_int (pa_cons (pe_un un_neg pe_int) (pa_cons (pe_op op_pow pe_int pe_int) (pa_cons pe_non (pa_cons pe_str (pa_cons pe_str (pa_cons (pe_tup pa_nil) (pa_cons (pe_tup (pa_cons pe_int pa_nil)) (pa_cons (pe_tup (pa_cons pe_str pa_nil)) (pa_cons (pe_tup (pa_cons pe_str (pa_cons pe_int pa_nil))) (pa_cons (pe_lst (pa_cons pe_int pa_nil)) (pa_cons (pe_tup (pa_cons (pv 3) (pa_cons pe_int (pa_cons pe_int pa_nil)))) (pa_cons (pv 3) pa_nil)))))))))))))))))
    (pss_cons (ps_if (pt_val (pe_callB call_isi (by rfl) T.b_isinstance (by decide +kernel) (pa_cons (pv 1) (pa_cons (pe_bltn (v := .ty "tuple") (u := .type "tuple") (by rfl) T.b_tuple (by decide +kernel) (by rfl)) pa_nil)))) (pss_cons (ps_set (i := 2) nd rfl (.inl rfl) (pe_op op_add pe_int (pe_has h__law_draw (hr.mono (by omega)) (by rfl) (pa_cons (pv 0) (pa_cons (pe_callB call_len_seq (by rfl) T.b_len (by decide +kernel) (pa_cons (pv 1) pa_nil)) pa_nil)))))
    (pss_cons (ps_set (i := 4) nd rfl (.inl rfl) (pe_op op_cat (pv 4) (pe_op op_rep (pe_lst (pa_cons (pe_op op_catA (pe_tup (pa_cons (pe_has h__law_pick (hr.mono (by omega)) (by rfl) (pa_cons (pv 0) (pa_cons (pe_lst (pa_cons (pe_lst pa_nil) (pa_cons (pe_lst (pa_cons pe_str pa_nil)) (pa_cons (pe_tup (pa_cons pe_str pa_nil)) (pa_cons (pv 1) pa_nil))))) pa_nil))) pa_nil)) (pe_slice sl_tupA (pv 1) (po_some pe_int) po_none)) pa_nil)) pe_int)))
    (pss_cons (ps_set (i := 4) nd rfl (.inl rfl) (pe_op op_cat (pv 4) (pe_op op_rep (pe_lst (pa_cons (pe_callTy call_list_of (by rfl) T.b_list (by decide +kernel) (pa_cons (pv 1) pa_nil)) (pa_cons (pe_slice sl_tupA (pv 1) (po_some pe_int) po_none) (pa_cons (pe_slice sl_tupA (pv 1) po_none (po_some (pe_un un_neg pe_int))) (pa_cons (pe_op op_catA (pv 1) (pe_tup (pa_cons pe_int pa_nil))) (pa_cons (pe_op op_catA (pe_tup (pa_cons (pv 3) pa_nil)) (pe_slice sl_tupA (pv 1) (po_some pe_int) po_none)) (pa_cons (pe_op op_catA (pe_slice sl_tupA (pv 1) po_none (po_some (pv 2))) (pe_tup (pa_cons (pe_tup pa_nil) pa_nil))) pa_nil))))))) pe_int)))
    (pss_one (ps_set (i := 4) nd rfl (.inl rfl) (pe_op op_cat (pv 4) (pe_op op_rep (pe_lst (pa_cons (pe_op op_catA (pe_op op_catA (pe_slice sl_tupA (pv 1) po_none (po_some (pv 2))) (pe_tup (pa_cons pe_int pa_nil))) (pe_slice sl_tupA (pv 1) (po_some (pv 2)) po_none)) (pa_cons (pe_tup (pa_cons (pv 1) pa_nil)) (pa_cons (pe_op op_catA (pe_slice sl_tupA (pv 1) po_none (po_some pe_int)) (pe_tup (pa_cons (pe_slice sl_tupA (pv 1) (po_some pe_int) po_none) pa_nil))) pa_nil)))) pe_int))))))) pss_nil)
    (pss_one (ps_ret (pe_has h__law_pick (hr.mono (by omega)) (by rfl) (pa_cons (pv 0) (pa_cons (pv 4) pa_nil))))))))), ?_⟩
      case into =>
        rintro σ H R ⟨v, d, t, c, j, e1, e2, th, tp, lim, r⟩
        refine ⟨_, e2, _, .ty "tuple", _, _, _, rfl, .ty _, th_ty th, kit_tupl th, _, rfl, ?_⟩
        cases ht : isT d with
        | false => exact iteF (r _ _ (fun z => by cases z) (tp.le (by omega)) (Kp.refl _))
        | true =>
          obtain ⟨a, xs, ds, rfl, rfl, ha, ta⟩ := th_tup th ht
          have lx := ta.len
          refine iteT ⟨_, e2, a, _, rfl, .inr (SqT.of ha), _, _, rfl, rfl, _, rfl, ite2 (fun c0 => ?_) (fun c0 => r _ _ (fun z => by cases z) (tp.le (by omega)) (Kp.refl _))⟩
          have c1 : ((xs.length : Nat) : Int) > 1 := of_decide_eq_true c0
          refine ⟨_, e1, t, c, 3, j, rfl, tp, lim, by decide, pow8000 (by decide), fun H1 r1 a1 b1 tp1 kp1 => ⟨_, _, rfl, rfl, _, rfl, r _ _ (fun _ => ?_) tp1 kp1⟩⟩
          match ds, lx with
          | [], lx => rw [lx] at c1; exact absurd c1 (by decide)
          | [x], lx => rw [lx, List.length_singleton] at c1; exact absurd c1 (by decide)
          | x :: y :: ds, _ => exact ⟨x, y, ds, rfl⟩
      have line : (200000 : Nat) < sizeLine := by decide
      refine ⟨v, d, t, c, j, rfl, rfl, th, tp, by omega, fun b H1 hb tp1 kp1 => ?_⟩
      have th1 := th.ks (KS.kp tp kp1)
      cases b with
      | true =>
        obtain ⟨d0, d1, ds, rfl⟩ := hb rfl
        clear hb
        obtain ⟨a, xs, _, rfl, e, ha, ta⟩ := th_tup th1 rfl
        cases e
        have lx := ta.len
        rw [List.length_cons, List.length_cons] at lx
        have lz := len_sz (d0 :: d1 :: ds)
        rw [List.length_cons, List.length_cons] at lz
        rw [szP] at few
        rw [PyData.canLay0] at lay
        cases tr with
        | tup tm =>
          rename_i m w0
          refine iteT ⟨_, rfl, _, rfl, a, _, rfl, .inr (SqT.of ha), _, _, rfl, rfl, t, c, ((xs.length : Nat) : Int) - 1, j + 1, rfl, tp1, by omega, by omega, pow8000 (by omega), fun H2 r a2 b2 tp2 kp2 => ⟨_, _, rfl, rfl, ?_⟩⟩
          obtain ⟨x, ex⟩ : ∃ x : Nat, 1 + r = (x : Int) := ⟨(1 + r).toNat, by omega⟩
          generalize hv : (fun i j : Int => V.int (i + j)) 1 r = nv
          obtain rfl : nv = V.int (x : Int) := hv.symm.trans (congrArg V.int ex)
          clear hv
          have x1 : 1 ≤ x := by omega
          have x2 : x < xs.length := by omega
          have ha2 := (KS.kp tp1 kp2 a xs).1 ha
          have ta2 := ta.ks (KS.kp tp1 kp2)
          have hy : xs[x]? = some xs[x] := List.getElem?_eq_getElem x2
          obtain ⟨dx, hdx, tdx⟩ := ta2.get hy
          have hat : atI xs (x : Int) = some xs[x] := at_of (j := x) rfl hy
          have sp := sz_split hdx
          have lyx : dx.canLay0 = true := lay_mem lay dx (List.mem_of_getElem? hdx)
          have tx : Tree m dx := by
            obtain ⟨x', rfl⟩ : ∃ x', x = x' + 1 := ⟨x - 1, by omega⟩
            exact tm dx (List.mem_of_getElem? (i := x') hdx)
          refine ⟨_, rfl, _, rfl, _, rfl, piece_take (n := x) rfl ha2 fun H3 r3 s3 h3 => ?_⟩
          have q3 : Tq H3 r3 (szAll (List.take x (.str w0 :: d1 :: ds))) := ⟨_, _, h3, (ta2.take x).ks (KS.same s3), lay_take lay, Nat.le_refl _⟩
          refine ⟨_, rfl, _, rfl, _, rfl, a, _, _, _, rfl, rfl, SqT.of (s3 _ _ ha2), hat, t, c, xs[x], dx, j + 1 + 1, m, rfl, tp2.same s3, by omega, tdx.ks (KS.same s3), tx, by omega, lyx, by omega, fun H4 v4 tp4 kp4 te4 => ⟨by show 1 ≤ sizeLine; decide, fun p hp => ?_⟩⟩
          have k34 := KS.kp (tp2.same s3) kp4
          have q4 : Tq (upd H4 p (.tup [v4])) p (2 * szP dx + 20) := tq_new (AT.cons te4 AT.nil) hp (by simp)
          refine tq_cat ((q3.ks k34).ks (KS.same (same_new hp))) q4 (by omega) fun H5 r5 s5 q5 => ?_
          have s45 : Same H4 H5 := (same_new hp).trans s5
          have ha5 : H5 a = some (.tup xs) := s45 _ _ ((k34 a xs).1 (s3 _ _ ha2))
          refine ⟨_, rfl, _, rfl, _, _, rfl, rfl, _, rfl, piece_dropC (m := (x : Int) + 1) (i := x + 1) rfl ha5 fun H6 r6 s6 h6 => ?_⟩
          have q6 : Tq H6 r6 (szAll (List.drop (x + 1) (.str w0 :: d1 :: ds))) := ⟨_, _, h6, ((((ta2.ks (KS.same s3)).ks k34).ks (KS.same s45)).drop (x + 1)).ks (KS.same s6), lay_drop lay, Nat.le_refl _⟩
          refine tq_cat (q5.ks (KS.same s6)) q6 (by omega) fun H7 r7 s7 q7 => ?_
          have kf : Kp t H H7 := (((kp1.trans kp2).trans (Kp.same s3)).trans kp4).trans (Kp.same (s45.trans (s6.trans s7)))
          refine k _ _ ((tp4.same (s45.trans (s6.trans s7))).le (by omega)) kf (q7.te.mono ?_)
          rw [szP]
          omega
      | false =>
        clear hb
        refine iteF ⟨_, rfl, by show 9 ≤ sizeLine; decide, fun q1 n1 => ⟨t, c, q1, _, _, rfl, tp1.new n1, by omega, fun H' kp => .inl (SqL.of (kp q1 _ upd_same (tp1.fresh n1))), by show 0 < 9; decide, by show 9 ≤ 1000000; decide, fun H2 i2 v2 g2 tp2 kp2 => ?_⟩⟩
        have wd : ∀ H, TE H 1 v2 := by
          have mm := List.mem_of_getElem? g2
          simp only [List.mem_cons, List.not_mem_nil, or_false] at mm
          intro H'
          rcases mm with z | z | z | z | z | z | z | z | z <;> rw [z] <;> first | exact te_int _ | exact te_non | exact te_str (by decide +kernel)
        have kk2 : Kp t H H2 := kp1.trans ((Kp.new n1).trans kp2)
        have th2 := th1.ks (KS.kp tp1 ((Kp.new n1).trans kp2))
        clear g2 kp2 n1 tp1 kp1 th1
        have pz := szP_pos d
        have z0 : Kn H H2 t c (j + 1 + 1) (2 * szP d + 20) v d [v] := ⟨tp2, kk2, th2, .cons ⟨d, th2, lay, by omega⟩ .nil⟩
        refine ⟨_, rfl, _, _, rfl, rfl, ⟨by decide, by decide, by decide⟩, by show 0 ≤ sizeLine; decide, fun p1 m1 => ⟨by show 1 ≤ sizeLine; decide, fun p2 m2 => ⟨by show 1 ≤ sizeLine; decide, fun p3 m3 => ⟨by show 2 ≤ sizeLine; decide, fun p4 m4 => ⟨by show 1 ≤ sizeLine; decide, fun p5 m5 => ⟨_, rfl, by show 3 ≤ sizeLine; decide, fun p6 m6 => ⟨_, rfl, by show 15 ≤ sizeLine; decide, fun L mL => ?_⟩⟩⟩⟩⟩⟩⟩
        have o1 : ∀ H, AT H 1 [V.int 1] := fun H => .cons (te_int 1) .nil
        have os : ∀ H, TE H 1 (V.str "sums") := fun H => te_str (by decide +kernel)
        have z1 := z0.tup (b := 1) m1 AT.nil (by show 1 * 0 + 1 ≤ _; omega)
        have z2 := z1.tup m2 (o1 _) (by show 1 * 1 + 1 ≤ _; omega)
        have z3 := z2.tup (b := 1) m3 (.cons (os _) .nil) (by show 1 * 1 + 1 ≤ _; omega)
        have z4 := z3.tup (b := 1) m4 (.cons (te_str (z := "net") (by decide +kernel)) (o1 _)) (by show 1 * 2 + 1 ≤ _; omega)
        have z5 := z4.lst m5 (o1 _) (by omega)
        have z6 := z5.tup (b := 1) m6 (.cons (wd _) (.cons (te_int 1) (o1 _))) (by show 1 * 3 + 1 ≤ _; omega)
        have s1 : ∀ {H x}, TE H 1 x → TE H (2 * szP d + 20) x := fun h => h.mono (by omega)
        obtain ⟨z7, l7⟩ := z6.list (n := 15) (ys := [.bl true, .int 0, .int 2, .int (-1), .int (10 ^ (30 : Int).toNat), .non, .str "1", .str "sums", .ref p1, .ref p2, .ref p3, .ref p4, .ref p5, .ref p6, v2]) mL
          (.cons (s1 (te_bl true)) (.cons (s1 (te_int 0)) (.cons (s1 (te_int 2)) (.cons (s1 (te_int _)) (.cons (s1 (te_int _)) (.cons (s1 te_non) (.cons (s1 (te_str (z := "1") (by decide +kernel))) (.cons (s1 (os _)) (.cons (z6.all _ (by simp)) (.cons (z6.all _ (by simp)) (.cons (z6.all _ (by simp)) (.cons (z6.all _ (by simp)) (.cons (z6.all _ (by simp)) (.cons (z6.all _ (by simp)) (.cons (s1 (wd _)) .nil)))))))))))))))
          (Nat.le_refl _) (by show 0 < 15; decide)
        refine ⟨_, rfl, _, .ty "tuple", _, _, _, rfl, .ty _, th_ty z7.th, kit_tupl z7.th, _, rfl, ?_⟩
        cases ht : isT d with
        | false =>
          obtain ⟨ys, hL, A7, c7, c8⟩ := l7
          exact iteF ⟨_, rfl, _, rfl, t, c, L, ys, _, rfl, z7.tp, by omega, fun H' kp => .inl (SqL.of (z7.tp.sq hL kp)), c8, by omega, fun H' i v' g tp' kp' => k _ _ (tp'.le (by omega)) (z7.kp.trans kp') ((A7.ks (KS.kp z7.tp kp')) v' (List.mem_of_getElem? g))⟩
        | true =>
          obtain ⟨a, ds, rfl, rfl⟩ : ∃ a ds, v = .ref a ∧ d = .tuple ds := by
            obtain ⟨a, _, ds, e1, e2, _⟩ := th_tup z7.th ht
            exact ⟨a, ds, e1, e2⟩
          rw [PyData.canLay0] at lay
          have eB : szP (.tuple ds) = szAll ds + 1 := by rw [szP]
          have dpos : 1 ≤ ds.length := by
            cases tr with
            | tup _ => exact Nat.succ_le_succ (Nat.zero_le _)
          have dsz := len_sz ds
          obtain ⟨xs7, ha7, ta7⟩ := z7.at_tup
          have x7 := ta7.len
          refine iteT ⟨_, rfl, _, rfl, a, _, rfl, .inr (SqT.of ha7), t, c, ((xs7.length : Nat) : Int), j + 1 + 1, rfl, z7.tp, by omega, by omega, pow8000 (by omega), fun H8 r8 a8 b8 tp8 kp8 => ⟨_, _, rfl, rfl, ?_⟩⟩
          generalize hv : (fun i j : Int => V.int (i + j)) 1 r8 = nv
          obtain ⟨x, rfl⟩ : ∃ x : Int, nv = V.int x := ⟨_, hv.symm⟩
          clear hv
          have z8 := z7.call tp8 kp8
          have l8 := l7.ks (KS.kp z7.tp kp8)
          clear z0 z1 z2 z3 z4 z5 z6 l7 kp8 tp8 ha7 ta7 tp2 kk2 th2
          -- a word made otherwise
          refine ⟨_, rfl, _, rfl, by show 0 ≤ sizeLine; decide, fun q1 w1 => ⟨by show 1 ≤ sizeLine; decide, fun q2 w2 => ⟨by show 1 ≤ sizeLine; decide, fun q3 w3 => ⟨_, rfl, by show 4 ≤ sizeLine; decide, fun q4 w4 => ?_⟩⟩⟩⟩
          have zS : Kn H H8 t c (j + 1 + 1 + 1) (szAll ds + 1) (.ref a) (.tuple ds) [.ref a] := ⟨z8.tp, z8.kp, z8.th, .cons ⟨.tuple ds, z8.th, by rw [PyData.canLay0]; exact lay, by omega⟩ .nil⟩
          have y1 := zS.lst (b := 1) w1 AT.nil (by omega)
          have y2 := y1.lst (b := 1) w2 (.cons (os _) .nil) (by omega)
          have y3 := y2.tup (b := 1) w3 (.cons (os _) .nil) (by show 1 * 1 + 1 ≤ _; omega)
          obtain ⟨y4, hq4⟩ := y3.list (n := 4) (ys := [.ref q1, .ref q2, .ref q3, .ref a]) w4 (.cons (y3.all _ (by simp)) (.cons (y3.all _ (by simp)) (.cons (y3.all _ (by simp)) (.cons (y3.all _ (by simp)) .nil)))) (Nat.le_refl _) (by show 0 < 4; decide)
          have s84 := ((same_new w1).trans (same_new w2)).trans ((same_new w3).trans (same_new (o := .lst [.ref q1, .ref q2, .ref q3, .ref a]) w4))
          have z9 := z8.same s84
          have l9 := l8.ks (KS.same s84)
          obtain ⟨ys4, hL4, A4, c4, c4'⟩ := hq4
          refine ⟨t, c, q4, ys4, _, rfl, y4.tp, by omega, fun H' kp => .inl (SqL.of (y4.tp.sq hL4 kp)), c4', by omega, fun H9 i9 v9 g9 tp9 kp9 => ?_⟩
          have t9 : TE H9 (szAll ds + 1) v9 := (A4.ks (KS.kp y4.tp kp9)) v9 (List.mem_of_getElem? g9)
          have z10 := z9.call tp9 kp9
          have l10 := l9.ks (KS.kp z9.tp kp9)
          clear l8 l9 z7 zS y1 y2 y3 y4 s84 hL4 A4 z8 z9 g9
          refine ⟨by show 1 ≤ sizeLine; decide, fun q5 w5 => ?_⟩
          have t5 := tq_new (.cons t9 .nil) w5 (C := szAll ds + 1) (by show (szAll ds + 1) * 1 ≤ _; omega)
          have z11 := z10.same (same_new (o := .tup [v9]) w5)
          refine ⟨_, rfl, 1, rfl, tq_sliceC (z11.tqa lay) fun G1 r1 u1 f1 => tq_cat (t5.ks (KS.same u1)) f1 (by omega) fun G2 r2 u2 f2 => ⟨by show 1 ≤ sizeLine; decide, fun q6 w6 => ?_⟩⟩
          have z12 := z11.same (u1.trans u2)
          have l12 := l10.ks (KS.same ((same_new (o := .tup [v9]) w5).trans (u1.trans u2)))
          obtain ⟨c1, hc1, Ac1, lc1, pc1⟩ := l12
          have f2' := f2.te.mono (show szAll ds + 1 + szAll ds + 1 ≤ 2 * szP (.tuple ds) + 20 by omega)
          refine ⟨q6, 2, [.ref r2], rfl, rfl, upd_same, by decide, by decide, by show 1 * 2 ≤ sizeLine; decide, fun q7 w7 => ⟨L, q7, c1, _, rfl, rfl, same_new w7 _ _ (same_new w6 _ _ hc1), upd_same, by show c1.length + 2 ≤ sizeLine; omega, fun q8 w8 => ?_⟩⟩
          have u67 := (same_new w6).trans (same_new (o := .lst (List.replicate (2 : Int).toNat [V.ref r2]).flatten) w7)
          obtain ⟨z13, l13⟩ := (z12.same u67).list (n := 20) (ys := c1 ++ (List.replicate (2 : Int).toNat [V.ref r2]).flatten) w8 ((Ac1.ks (KS.same u67)).app (AT.rep (.cons (f2'.ks (KS.same u67)) .nil))) (by rw [List.length_append]; show c1.length + 2 ≤ 20; omega) (by rw [List.length_append]; omega)
          clear z10 z11 z12 l10 t9 t5 f1 f2 f2' u67 hc1 Ac1 u1 u2
          -- places bent
          obtain ⟨xs8, ha8, ta8⟩ := z13.at_tup
          refine ⟨_, rfl, _, rfl, a, _, rfl, .inr (SqT.of ha8), fun e1 v1 => ?_⟩
          have b1 := (z13.same (same_new (o := .lst xs8) v1)).add ((te_list ta8 lay v1).mono (show 1 ≤ 2 * szP (.tuple ds) + 20 by omega))
          have m1 := l13.ks (KS.same (same_new (o := .lst xs8) v1))
          refine ⟨_, rfl, 1, rfl, tq_sliceC (b1.tqa lay) fun G3 r3 u3 f3 => ⟨_, rfl, _, rfl, _, rfl, tq_slice ((b1.same u3).tqa lay) fun G4 r4 u4 f4 => ⟨_, rfl, by show 1 ≤ sizeLine; decide, fun e4 v4 => ?_⟩⟩⟩
          have b2 := (b1.same u3).add (f3.te.mono (show szAll ds + 1 ≤ 2 * szP (.tuple ds) + 20 by omega))
          have b3 := (b2.same u4).add (f4.te.mono (show szAll ds + 1 ≤ 2 * szP (.tuple ds) + 20 by omega))
          have b3' := b3.same (same_new (o := .tup [V.int 1]) v4)
          have m3 := m1.ks (KS.same ((u3.trans u4).trans (same_new (o := .tup [V.int 1]) v4)))
          have t4 := tq_new (o1 _) v4 (C := 1) (by show 1 * 1 ≤ _; omega)
          refine tq_cat (b3'.tqa lay) t4 (by omega) fun G5 r5 u5 f5 => ⟨_, rfl, by show 1 ≤ sizeLine; decide, fun e5 v5 => ?_⟩
          have b5 := (b3'.same u5).add (f5.te.mono (show szAll ds + 1 + 1 ≤ 2 * szP (.tuple ds) + 20 by omega))
          have b5' := b5.same (same_new (o := .tup [v2]) v5)
          have m5 := m3.ks (KS.same (u5.trans (same_new (o := .tup [v2]) v5)))
          have t5 := tq_new (.cons (wd _) .nil) v5 (C := 1) (by show 1 * 1 ≤ _; omega)
          refine ⟨_, rfl, 1, rfl, tq_sliceC (b5'.tqa lay) fun G6 r6 u6 f6 => tq_cat (t5.ks (KS.same u6)) f6 (by omega) fun G7 r7 u7 f7 => ?_⟩
          have b7 := (b5'.same (u6.trans u7)).add (f7.te.mono (show 1 + szAll ds + 1 ≤ 2 * szP (.tuple ds) + 20 by omega))
          have m7 := m5.ks (KS.same (u6.trans u7))
          refine ⟨_, rfl, _, rfl, _, rfl, tq_slice (b7.tqa lay) fun G8 r8 u8 f8 => ⟨by show 0 ≤ sizeLine; decide, fun e6 v6 => ⟨by show 1 ≤ sizeLine; decide, fun e7 v7 => ?_⟩⟩⟩
          have t6 : TE _ 1 (.ref e6) := (tq_new (B := 1) (xs := []) (C := 0) AT.nil v6 (by show 1 * 0 ≤ 0; omega)).te
          have t7 := tq_new (.cons t6 .nil) v7 (C := 1) (by show 1 * 1 ≤ _; omega)
          have u67 := (same_new (o := .tup []) v6).trans (same_new (o := .tup [V.ref e6]) v7)
          refine tq_cat (f8.ks (KS.same u67)) t7 (by omega) fun G9 r9 u9 f9 => ⟨by show 6 ≤ sizeLine; decide, fun e8 v8 => ?_⟩
          have b9 := (b7.same (u8.trans (u67.trans u9))).add (f9.te.mono (show szAll ds + 1 + 1 ≤ 2 * szP (.tuple ds) + 20 by omega))
          have m9 := m7.ks (KS.same (u8.trans (u67.trans u9)))
          clear b1 b2 b3 b3' b5 b5' b7 m1 m3 m5 m7 t4 t5 t6 t7 f3 f4 f5 f6 f7 f8 f9 z13 l13 ha8 ta8
          obtain ⟨c2, hc2, Ac2, lc2, pc2⟩ := m9
          refine ⟨e8, 2, [.ref e1, .ref r3, .ref r4, .ref r5, .ref r7, .ref r9], rfl, rfl, upd_same, by decide, by decide, by show 6 * 2 ≤ sizeLine; decide, fun e9 v9 => ⟨q8, e9, c2, _, rfl, rfl, same_new v9 _ _ (same_new v8 _ _ hc2), upd_same, by show c2.length + 12 ≤ sizeLine; omega, fun q9 w9 => ?_⟩⟩
          have six : AT _ (2 * szP (.tuple ds) + 20) [.ref e1, .ref r3, .ref r4, .ref r5, .ref r7, .ref r9] := .cons (b9.all _ (by simp)) (.cons (b9.all _ (by simp)) (.cons (b9.all _ (by simp)) (.cons (b9.all _ (by simp)) (.cons (b9.all _ (by simp)) (.cons (b9.all _ (by simp)) .nil)))))
          have u89 := (same_new v8).trans (same_new (o := .lst (List.replicate (2 : Int).toNat [V.ref e1, .ref r3, .ref r4, .ref r5, .ref r7, .ref r9]).flatten) v9)
          obtain ⟨z14, l14⟩ := (b9.same u89).list (n := 40) (ys := c2 ++ (List.replicate (2 : Int).toNat [V.ref e1, .ref r3, .ref r4, .ref r5, .ref r7, .ref r9]).flatten) w9 ((Ac2.ks (KS.same u89)).app (AT.rep (six.ks (KS.same u89)))) (by rw [List.length_append]; show c2.length + 12 ≤ 40; omega) (by rw [List.length_append]; omega)
          clear six u89 hc2 Ac2 b9 u3 u4 u5 u6 u7 u8 u9 u67
          -- a part more, one around it, one within
          refine ⟨_, rfl, _, rfl, _, rfl, _, rfl, tq_slice (z14.tqa lay) fun J1 g1 u1 f1 => ⟨by show 1 ≤ sizeLine; decide, fun h1 x1 => ?_⟩⟩
          have d1 := (z14.same u1).same (same_new (o := .tup [V.int 1]) x1)
          have t1 := tq_new (o1 _) x1 (C := 1) (by show 1 * 1 ≤ _; omega)
          refine tq_cat (f1.ks (KS.same (same_new x1))) t1 (by omega) fun J2 g2 u2 f2 => ?_
          have d2 := d1.same u2
          refine ⟨_, rfl, _, rfl, _, rfl, tq_sliceC (d2.tqa lay) fun J3 g3 u3 f3 => tq_cat (f2.ks (KS.same u3)) f3 (by omega) fun J4 g4 u4 f4 => ⟨_, rfl, by show 1 ≤ sizeLine; decide, fun h2 x2 => ?_⟩⟩
          have d4 := (d2.same (u3.trans u4)).add (f4.te.mono (show szAll ds + 1 + szAll ds + 1 ≤ 2 * szP (.tuple ds) + 20 by omega))
          have ta : TE _ (szAll ds + 1) (.ref a) := (d4.tqa lay).te
          have d5 := d4.tup x2 (.cons ta .nil) (by show (szAll ds + 1) * 1 + 1 ≤ _; omega)
          refine ⟨_, rfl, _, rfl, tq_slice (lo := none) (hi := some 1) (d5.tqa lay) fun J5 g5 u5 f5 => ⟨_, rfl, 1, rfl, tq_sliceC ((d5.same u5).tqa lay) fun J6 g6 u6 f6 => ⟨by show 1 ≤ sizeLine; decide, fun h3 x3 => ?_⟩⟩⟩
          have t3 := tq_new (.cons f6.te .nil) x3 (C := szAll ds + 1) (by show (szAll ds + 1) * 1 ≤ _; omega)
          refine tq_cat ((f5.ks (KS.same u6)).ks (KS.same (same_new x3))) t3 (by omega) fun J7 g7 u7 f7 => ⟨by show 3 ≤ sizeLine; decide, fun h4 x4 => ?_⟩
          have d7 := (d5.same ((u5.trans u6).trans ((same_new (o := .tup [V.ref g6]) x3).trans u7))).add (f7.te.mono (show szAll ds + (szAll ds + 1) + 1 ≤ 2 * szP (.tuple ds) + 20 by omega))
          have n7 := l14.ks (KS.same (((u1.trans (same_new (o := .tup [V.int 1]) x1)).trans (u2.trans (u3.trans u4))).trans ((same_new (o := .tup [V.ref a]) x2).trans ((u5.trans u6).trans ((same_new (o := .tup [V.ref g6]) x3).trans u7)))))
          clear d1 d2 d4 d5 t1 t3 ta f1 f2 f3 f4 f5 f6 f7 z14 l14
          obtain ⟨c3, hc3, Ac3, lc3, pc3⟩ := n7
          refine ⟨h4, 2, [.ref g4, .ref h2, .ref g7], rfl, rfl, upd_same, by decide, by decide, by show 3 * 2 ≤ sizeLine; decide, fun h5 x5 => ⟨q9, h5, c3, _, rfl, rfl, same_new x5 _ _ (same_new x4 _ _ hc3), upd_same, by show c3.length + 6 ≤ sizeLine; omega, fun q10 x6 => ?_⟩⟩
          have three : AT _ (2 * szP (.tuple ds) + 20) [.ref g4, .ref h2, .ref g7] := .cons (d7.all _ (by simp)) (.cons (d7.all _ (by simp)) (.cons (d7.all _ (by simp)) .nil))
          have u45 := (same_new x4).trans (same_new (o := .lst (List.replicate (2 : Int).toNat [V.ref g4, .ref h2, .ref g7]).flatten) x5)
          obtain ⟨z15, l15⟩ := (d7.same u45).list (n := 60) (ys := c3 ++ (List.replicate (2 : Int).toNat [V.ref g4, .ref h2, .ref g7]).flatten) x6 ((Ac3.ks (KS.same u45)).app (AT.rep (three.ks (KS.same u45)))) (by rw [List.length_append]; show c3.length + 6 ≤ 60; omega) (by rw [List.length_append]; omega)
          obtain ⟨ys, hL, A7, c7, c8⟩ := l15
          exact ⟨_, rfl, _, rfl, t, c, q10, ys, _, rfl, z15.tp, by omega, fun H' kp => .inl (SqL.of (z15.tp.sq hL kp)), c8, by omega, fun H' i v' g tp' kp' => k _ _ (tp'.le (by omega)) (z15.kp.trans kp') ((A7.ks (KS.kp z15.tp kp')) v' (List.mem_of_getElem? g))⟩
end

/-! ### the law -/
theorem Tree.up : ∀ {m : Nat} {d : PyData}, Tree m d → ∀ {m' : Nat}, m ≤ m' → Tree m' d
  | _, _, .one, _, _ => .one
  | _, _, .tup _, 0, h => absurd h (by omega)
  | _, _, .tup k, m' + 1, h => .tup fun d hd => Tree.up (k d hd) (Nat.le_of_succ_le_succ h)
mutual
theorem Pa.tree : ∀ {m n : Nat} {d : PyData}, Pa m n d → Tree m d ∧ d.canLay0 = true
  | _, _, _, .one => ⟨.one, rfl⟩
  | _, _, _, .tup (w := w) j r => by
    have h := PaAll.tree r
    refine ⟨.tup fun d hd => (h d hd).1, ?_⟩
    rw [PyData.canLay0, PyData.canLayAll0, Bool.and_eq_true]
    refine ⟨?_, lay_of fun d hd => (h d hd).2⟩
    obtain ⟨w', es, z, _, e⟩ := joined_inv j
    cases z
    rcases e with rfl | ⟨rfl, _⟩ <;> decide +kernel
theorem PaAll.tree : ∀ {m n : Nat} {ds : List PyData}, PaAll m n ds → ∀ d ∈ ds, Tree m d ∧ d.canLay0 = true
  | _, _, _, .nil, d, h => by cases h
  | _, _, _, .cons x r, d, h => by
    rcases List.mem_cons.mp h with z | z
    · rw [z]
      exact Pa.tree x
    · exact PaAll.tree r d z
end
def TD (H : Hp) (v : V) (m B : Nat) : Prop := ∃ d, Tp H v d ∧ Tree m d ∧ d.canLay0 = true ∧ szP d ≤ B
theorem TD.kt {H H' : Hp} {v : V} {m B : Nat} (s : KT H H') (h : TD H v m B) : TD H' v m B := by
  obtain ⟨d, a, b⟩ := h
  exact ⟨d, a.kt s, b⟩
theorem TD.up {H : Hp} {v : V} {m m' B B' : Nat} (h : TD H v m B) (l : m ≤ m') (l' : B ≤ B') : TD H v m' B' := by
  obtain ⟨d, a, b, c, e⟩ := h
  exact ⟨d, a, b.up l, c, by omega⟩
theorem td_pa {H : Hp} {v : V} {m n : Nat} {d : PyData} (t : Tp H v d) (p : Pa m n d) (hm : m ≤ 15) (hn : n ≤ 12) : TD H v 15 1000 := by
  have z := p.sz
  have e : n * (2 * m + 1) ≤ 12 * 31 := Nat.mul_le_mul hn (by omega)
  exact ⟨d, t, p.tree.1.up hm, p.tree.2, by omega⟩
theorem td_plan {H : Hp} {v : V} {m n : Nat} {z : Str} {ds : List PyData} (t : Tp H v (.tuple (.str z :: ds))) (p : PaAll m n ds) (hm : m ≤ 14) (hn : n ≤ 12) (hz : PyData.canLay0 (.str z) = true) : TD H v 15 1000 := by
  have s := p.sz
  have e : n * (2 * m + 1) ≤ 12 * 29 := Nat.mul_le_mul hn (by omega)
  refine ⟨_, t, (Tree.tup fun d hd => (p.tree d hd).1).up (by omega), ?_, ?_⟩
  · rw [PyData.canLay0, PyData.canLayAll0, hz, lay_of fun d hd => (p.tree d hd).2]
    rfl
  · rw [szP, szAll, show szP (.str z) = 1 from rfl]
    omega
/-- a tuple more around such things -/
theorem TD.tup {H : Hp} {p : Addr} {z : Str} {xs : List V} {ds : List PyData} {m B : Nat} (np : H p = none) (ta : TpAll H xs ds) (h : ∀ d ∈ ds, Tree m d ∧ d.canLay0 = true) (hz : PyData.canLay0 (.str z) = true) (l : szAll ds + 2 ≤ B) : TD (upd H p (.tup (.str z :: xs))) (.ref p) (m + 1) B := by
  refine ⟨.tuple (.str z :: ds), .new np (.cons (.str _) ta), .tup fun d hd => (h d hd).1, ?_, ?_⟩
  · rw [PyData.canLay0, PyData.canLayAll0, hz, lay_of fun d hd => (h d hd).2]
    rfl
  · rw [szP, szAll, show szP (.str z) = 1 from rfl]
    omega
theorem ones_tree (n : Nat) : ∀ d ∈ List.replicate n (PyData.int 1), Tree 0 d ∧ d.canLay0 = true := fun d hd => by
  rw [List.eq_of_mem_replicate hd]
  exact ⟨.one, rfl⟩
theorem szAll_ones : ∀ n, szAll (List.replicate n (.int 1)) = n
  | 0 => rfl
  | n + 1 => by
    rw [List.replicate_succ, szAll, szAll_ones n, show szP (.int 1) = 1 from rfl]
    omega
/-- what stands between two deeds of a turn -/
def CP (a t c : Addr) (n m B : Nat) : L2.St → Hp → Prop := fun σ H => ∃ (v2 v4 v6 v7 v8 v9 v10 v11 : Option V) (way : Int) (v : V), σ = [some (.ref a), some (.ref t), v2, some (.int way), v4, some v, v6, v7, v8, v9, v10, v11] ∧ Tape H t c n ∧ TD H v m B
def CE (a t c : Addr) (n B : Nat) : L2.St → Hp → Prop := fun σ H => ∃ (v2 v4 v6 v7 v8 v9 v10 v11 : Option V) (way : Int) (v : V), σ = [some (.ref a), some (.ref t), v2, some (.int way), v4, some v, v6, v7, v8, v9, v10, v11] ∧ Tape H t c n ∧ TE H B v
def tBend : TT := fun σ H R => ∃ (way : Int) (t c : Addr) (j : Nat), σ[3]? = some (some (.int way)) ∧ σ[1]? = some (some (.ref t)) ∧ Tape H t c j ∧ j < 2 ^ 40 ∧ ∀ b H', Tape H' t c (j + 1) → Kp t H H' → R b H'
def res (d : PyData) : Nat → Bool
  | 0 => decide (1 ≤ onW true 60 d) && decide (onW true 60 d ≤ 60)
  | _ => decide (1 ≤ onW false 60 d) && decide (onW false 60 d ≤ 60)
theorem res0 (d : PyData) : (gB 60 d && decide (onesP d ≤ 60)) = res d 0 := by
  rw [res, onW_true]
  cases h : gB 60 d with
  | false => rfl
  | true =>
    have := gB_pos 60 d h
    rw [if_pos rfl, decide_eq_true this]
theorem res1 (d : PyData) : (planP d && (gBAll 59 (tlP d) && decide (onesAll (tlP d) ≤ 60))) = res d 1 := by
  show _ = (decide (1 ≤ onW false 60 d) && decide (onW false 60 d ≤ 60))
  cases d with
  | tuple ds =>
    rw [onW, show jW false (.tuple ds) = planP (.tuple ds) from rfl, show decide (0 < 60) = true from rfl, Bool.and_true, show tlP (.tuple ds) = ds.drop 1 from rfl, show 60 - 1 = 59 from rfl]
    cases h : planP (.tuple ds) with
    | false => rfl
    | true =>
      rw [Bool.true_and, Bool.true_and]
      cases h2 : gBAll 59 (ds.drop 1) with
      | false => rfl
      | true =>
        obtain ⟨w, es, e, ne, _⟩ := plan_inv h
        cases e
        rw [List.drop_succ_cons, List.drop_zero] at h2 ⊢
        have := gBAll_pos 59 es h2
        have : 1 ≤ es.length := List.length_pos_iff.mpr ne
        rw [if_pos rfl, decide_eq_true (show 1 ≤ onesAll es by omega)]
  | int i =>
    rw [onW, if_neg (by simp)]
    rfl
  | _ => rfl
theorem showy_two (a b : Bool) : Showy (.list [.bool a, .bool b]) := by
  cases a <;> cases b <;> exact ⟨by rfl, by rfl, by decide, by decide +kernel⟩
def row1 (z : Int) : PyData := .tuple (.str "sums" :: List.replicate z.toNat (.int 1))
theorem two_of {ys : List V} {f : Nat → V} {n : Nat} (l : ys.length = n) (h : ∀ (i : Nat) y, ys[i]? = some y → y = f i) (e : n = 2 := by rfl) : ys = [f 0, f 1] := by
  subst e
  match ys, l, h with
  | [y0, y1], _, h => rw [h 0 y0 rfl, h 1 y1 rfl]
  | [], l, _ => exact absurd l (by simp)
  | [_], l, _ => exact absurd l (by simp)
  | _ :: _ :: _ :: _, l, _ => exact absurd l (by simp)
theorem rows_tree (l : List Int) : ∀ d ∈ l.map row1, Tree 1 d ∧ d.canLay0 = true := fun d hd => by
  obtain ⟨z, _, rfl⟩ := List.mem_map.mp hd
  refine ⟨Tree.tup fun d hd => (ones_tree _ d hd).1, ?_⟩
  unfold row1
  rw [PyData.canLay0, PyData.canLayAll0, lay_of fun d hd => (ones_tree _ d hd).2]
  decide +kernel
theorem rows_sz : ∀ l : List Int, (∀ z ∈ l, z ≤ 62) → szAll (l.map row1) ≤ 64 * l.length
  | [], _ => Nat.zero_le _
  | z :: l, h => by
    have a := h z List.mem_cons_self
    have b := rows_sz l fun y hy => h y (List.mem_cons_of_mem _ hy)
    rw [List.map_cons, szAll, List.length_cons]
    unfold row1
    rw [szP, szAll, szAll_ones, show szP (.str "sums") = 1 from rfl]
    unfold row1 at b
    omega

/-! ### the law itself -/
def spLaw (K : PySem.W.Frag) : Sp := fun vs H Q _ => ∃ (a : Addr) (ns : List Int), vs = [.ref a] ∧ SqL K H a (ns.map V.int) ∧ ns.length ≤ 63 ∧ ∀ H', Q (.bl true) H'
section
variable {P : Program} {w : World} {K : PySem.W.Frag} {mg : Str → Option Value} {base : Heap}
theorem ok_law {f : Addr} {fd : FuncData} (F : Fun K "law" "law" s_law f fd) (T : Top K mg) (h__law_begun : Has P w K mg base 1 "_law_begun" ["_law_script"] (spBegun K)) (h__law_draw : Has P w K mg base 1 "_law_draw" ["_law_tape", "_law_many"] spDraw)
    (h__law_pick : Has P w K mg base 2 "_law_pick" ["_law_tape", "_law_some"] (spPick K)) {lp : Nat} (hlp : lp ≤ 19) (h__law_part : Has P w K mg base lp "_law_part" ["_law_tape", "_law_many", "_law_deep"] (spLPart 16))
    (h__law_plan : Has P w K mg base 20 "_law_plan" ["_law_tape", "_law_many", "_law_most"] (spLPlan 16)) {lb : Nat} (hlb : lb ≤ 100) (h__law_bent : Has P w K mg base lb "_law_bent" ["_law_tape", "_law_thing"] (spBent 97))
    {lo : Nat} (hlo : lo ≤ 62) (h__law_ones : Has P w K mg base lo "_law_ones" ["_law_thing", "_law_words", "_law_deep"] (spLOnes 61)) (h_is_part : Has P w K mg base 3 "is_part" ["thing"] spPart) (h_is_plan : Has P w K mg base 3 "is_plan" ["thing"] spPlan) :
    FnG P w K mg base 110 f fd ["_law_script"] (spLaw K) := by
  refine fnG F sc_law (fun vs H Q E h => ?_) (fun cdv Ar outer s H vs Q E hr hgd h => ?_)
  · obtain ⟨a, ns, rfl, _⟩ := h
    rfl
  · have hu := hu_of hr
    have nd := sc_law.nd
    obtain ⟨a, ns, rfl, hS, hl, k⟩ := h
    refine ⟨_, (pss_cons (ps_set (i := 1) nd rfl (.inl rfl) (pe_has h__law_begun (hr.mono (by omega)) (by rfl) (pa_cons (pv 0) pa_nil)))
    (pss_cons (ps_for PassesOwn.never rfl (pi_range1 (by rfl) T.b_range (pa_cons pe_int pa_nil)) (pg_name (i := 2) nd rfl (.inl rfl))
      (pss_cons (ps_par (i := 3) (j := 4) (by rfl) nd rfl rfl (by decide) rfl rfl (pa_cons (pe_has h__law_draw (hr.mono (by omega)) (by rfl) (pa_cons (pv 1) (pa_cons pe_int pa_nil))) (pa_cons (pe_op op_add pe_int (pe_has h__law_draw (hr.mono (by omega)) (by rfl) (pa_cons (pv 1) (pa_cons pe_int pa_nil)))) pa_nil)) (by rfl))
    (C8.pss_cut (ps_set (i := 5) nd rfl (.inr rfl) (pe_ifExp (pt_cmpR op_eq (pe_has h__law_draw (hr.mono (by omega)) (by rfl) (pa_cons (pv 1) (pa_cons pe_int pa_nil))) pe_int (nomark _)) (pe_has h__law_plan (hr.mono (by omega)) (by rfl) (pa_cons (pv 1) (pa_cons (pv 4) (pa_cons (pe_has h__law_draw (hr.mono (by omega)) (by rfl) (pa_cons (pv 1) (pa_cons pe_int pa_nil))) pa_nil)))) (pe_has h__law_part (hr.mono (by omega)) (by rfl) (pa_cons (pv 1) (pa_cons (pv 4) (pa_cons pe_int pa_nil))))))
    (C8.pss_cut (ps_if (pt_cmpR op_eq (pv 3) pe_int (nomark _)) (pss_one (ps_set (i := 5) nd rfl (.inr rfl) (pe_op op_catA (pe_has h__law_pick (hr.mono (by omega)) (by rfl) (pa_cons (pv 1) (pa_cons (pe_lst (pa_cons (pe_tup (pa_cons pe_str pa_nil)) (pa_cons (pe_tup (pa_cons pe_str pa_nil)) (pa_cons (pe_tup (pa_cons pe_str pa_nil)) (pa_cons (pe_tup (pa_cons pe_str (pa_cons pe_int pa_nil))) pa_nil))))) pa_nil))) (pe_op op_repT1 (pe_tup (pa_cons pe_int pa_nil)) (pe_op op_add pe_int (pe_has h__law_draw (hr.mono (by omega)) (by rfl) (pa_cons (pv 1) (pa_cons pe_int pa_nil)))))))) pss_nil)
    (C8.pss_cut (ps_if (pt_cmpR op_eq (pv 3) pe_int (nomark _)) (pss_cons (ps_set (i := 6) nd rfl (.inl rfl) (pe_op op_cat (pe_lst (pa_cons (pe_op op_add pe_int (pe_has h__law_draw (hr.mono (by omega)) (by rfl) (pa_cons (pv 1) (pa_cons pe_int pa_nil)))) pa_nil)) (pe_op op_rep (pe_lst (pa_cons (pe_op op_add pe_int (pe_has h__law_draw (hr.mono (by omega)) (by rfl) (pa_cons (pv 1) (pa_cons pe_int pa_nil)))) pa_nil)) (pe_has h__law_draw (hr.mono (by omega)) (by rfl) (pa_cons (pv 1) (pa_cons pe_int pa_nil))))))
    (pss_cons (ps_expr (pe_bm PySem.F.plainAttrs_list PySem.F.slot_list_append PySem.F.type_list_append mt_append (pv 6) (pa_cons (pe_op op_add (pe_op op_sub pe_int (pe_callB (cr_sum rfl) (by rfl) T.b_sum (by decide +kernel) (pa_cons (pv 6) pa_nil))) (pe_has h__law_draw (hr.mono (by omega)) (by rfl) (pa_cons (pv 1) (pa_cons pe_int pa_nil)))) pa_nil)))
    (pss_cons (ps_set (i := 7) nd rfl (.inl rfl) (pe_has h__law_pick (hr.mono (by omega)) (by rfl) (pa_cons (pv 1) (pa_cons (pe_lst (pa_cons pe_str (pa_cons pe_str (pa_cons pe_str (pa_cons pe_str pa_nil))))) pa_nil))))
    (pss_one (ps_set (i := 5) nd rfl (.inr rfl) (pe_op op_catA (pe_tup (pa_cons (pv 7) pa_nil)) (pe_callTy call_tuple_of (by rfl) T.b_tuple (by decide +kernel) (pa_cons (pe_lc (own := [("_law_one", 11)]) (by rfl) nd (pi_list (pv 6)) (blkOk_by (own := [("_law_one", 11)]) (N := nm_law) (sc := defScope s_law) (by decide +kernel)) (fun _ _ _ _ _ => pg_name (i := 11) nd rfl (.inl rfl)) (fun _ _ _ _ _ => pts_nil) (fun _ _ _ _ _ => (pe_op (op_catAK (K := K) rfl) (pe_tup (pa_cons pe_str pa_nil)) (pe_op (op_repT1K (K := K) rfl) (pe_tup (pa_cons pe_int pa_nil)) (pv 11))))) pa_nil)))))))) pss_nil)
    (C8.pss_cut (ps_if (pt_cmpR op_eq (pv 3) pe_int (nomark _)) (pss_cons (ps_set (i := 5) nd rfl (.inr rfl) pe_int)
    (pss_cons (ps_for PassesOwn.never rfl (pi_range1 (by rfl) T.b_range (pa_cons (pe_has h__law_pick (hr.mono (by omega)) (by rfl) (pa_cons (pv 1) (pa_cons (pe_lst (pa_cons (pe_op op_add pe_int (pe_has h__law_draw (hr.mono (by omega)) (by rfl) (pa_cons (pv 1) (pa_cons pe_int pa_nil)))) (pa_cons (pe_op op_add pe_int (pe_has h__law_draw (hr.mono (by omega)) (by rfl) (pa_cons (pv 1) (pa_cons pe_int pa_nil)))) (pa_cons pe_int pa_nil)))) pa_nil))) pa_nil)) (pg_name (i := 8) nd rfl (.inl rfl))
      (pss_one (ps_set (i := 5) nd rfl (.inr rfl) (pe_ifExp (pt_cmpR op_eq (pe_has h__law_draw (hr.mono (by omega)) (by rfl) (pa_cons (pv 1) (pa_cons pe_int pa_nil))) pe_int (nomark _)) (pe_tup (pa_cons pe_str (pa_cons pe_int (pa_cons (pv 5) pa_nil)))) (pe_tup (pa_cons pe_str (pa_cons (pv 5) pa_nil)))))))
    (pss_one (ps_set (i := 5) nd rfl (.inr rfl) (pe_has h__law_pick (hr.mono (by omega)) (by rfl) (pa_cons (pv 1) (pa_cons (pe_lst (pa_cons (pv 5) (pa_cons (pe_tup (pa_cons pe_str (pa_cons (pv 5) pa_nil))) (pa_cons (pe_tup (pa_cons pe_str (pa_cons (pv 5) pa_nil))) (pa_cons (pe_tup (pa_cons pe_str (pa_cons (pv 5) pa_nil))) pa_nil))))) pa_nil))))))) pss_nil)
    (C8.pss_cut (ps_if (pt_wk tBend (PW.pt (pw_or (pt_cmpR op_gt (pv 3) pe_int (nomark _)) (pw_or1 (pt_cmpR op_eq (pe_has h__law_draw (hr.mono (by omega)) (by rfl) (pa_cons (pv 1) (pa_cons pe_int pa_nil))) pe_int (nomark _))))) ?bend) (pss_one (ps_set (i := 5) nd rfl (.inr rfl) (pe_has h__law_bent (hr.mono (by omega)) (by rfl) (pa_cons (pv 1) (pa_cons (pv 5) pa_nil))))) pss_nil)
    (pss_cons (ps_setLc (i := 9) (own := [("_law_words", 10)]) (by rfl) nd rfl rfl (sw_true rfl rfl rfl (by decide +kernel)) (pi_tup (pe_tup (pa_cons (pe_lst (pa_cons pe_str (pa_cons pe_str pa_nil))) (pa_cons (pe_lst (pa_cons pe_str (pa_cons pe_str pa_nil))) pa_nil)))) (blkOk_by (own := [("_law_words", 10)]) (N := nm_law) (sc := defScope s_law) (by decide +kernel)) (fun _ _ _ _ _ => pg_name (i := 10) nd rfl (.inl rfl)) (fun _ _ _ _ _ => pts_nil) (fun _ _ _ _ _ => (pe_chain op_le op_le pe_int (pe_has h__law_ones (hr.mono (by omega)) (by rfl) (pa_cons (pv 5) (pa_cons (pv 10) (pa_cons pe_int pa_nil)))) pe_int)))
    (pss_one (ps_if (pt_cmpR op_ne (pe_callB (call_reprW hgd hr.units) (by rfl) T.b_repr (by decide +kernel) (pa_cons (pe_lst (pa_cons (pe_has h_is_part (hr.mono (by omega)) (by rfl) (pa_cons (pv 5) pa_nil)) (pa_cons (pe_has h_is_plan (hr.mono (by omega)) (by rfl) (pa_cons (pv 5) pa_nil)) pa_nil))) pa_nil)) (pe_callB (call_reprW hgd hr.units) (by rfl) T.b_repr (by decide +kernel) (pa_cons (pv 9) pa_nil)) (nomark _)) (pss_one (ps_ret pe_bl)) pss_nil))))))))))
    (pss_one (ps_ret pe_bl)))), ?_⟩
    case bend =>
      rintro σ H R ⟨way, t, c, j, e1, e2, tp, lim, r⟩
      refine ⟨_, e1, _, _, rfl, rfl, _, rfl, ite2 (fun _ => r _ _ (tp.le (by omega)) (Kp.refl _)) (fun _ => ?_)⟩
      exact ⟨_, e2, t, c, 5, j, rfl, tp, lim, by decide, pow8000 (by decide), fun H1 r1 a1 b1 tp1 kp1 => ⟨rfl, _, rfl, r _ _ tp1 kp1⟩⟩
    have line : (5000000 : Nat) < sizeLine := by decide
    refine ⟨_, rfl, a, ns, rfl, hS, hl, fun H1 t c ht hc sm tp => ?_⟩
    refine ⟨6, rfl, by decide, by decide, for_range (lo := 0) (fun i σ H2 => ∃ v2 v3 v4 v5 v6 v7 v8 v9 v10 v11, σ = [some (.ref a), some (.ref t), v2, v3, v4, v5, v6, v7, v8, v9, v10, v11] ∧ Tape H2 t c (1000 * i)) ⟨none, none, none, none, none, none, none, none, none, none, rfl, tp⟩ ?_ ?_⟩
    · rintro i σ H2 hi ⟨v2, v3, v4, v5, v6, v7, v8, v9, v10, v11, rfl, tp2⟩
      have hi2 : i < 6 := hi
      refine ⟨_, rfl, t, c, 8, _, rfl, tp2, by omega, by decide, pow8000 (by decide), fun H3 r3 a3 b3 tp3 kp3 => ⟨_, rfl, t, c, 12, _, rfl, tp3, by omega, by decide, pow8000 (by decide), fun H4 r4 a4 b4 tp4 kp4 => ⟨_, _, rfl, rfl, ?_⟩⟩⟩
      obtain ⟨mn, em⟩ : ∃ mn : Nat, 1 + r4 = (mn : Int) := ⟨(1 + r4).toNat, by omega⟩
      generalize hv : (fun i j : Int => V.int (i + j)) 1 r4 = nv
      obtain rfl : nv = V.int (mn : Int) := hv.symm.trans (congrArg V.int em)
      clear hv
      refine ⟨_, _, rfl, ?_⟩
      -- a plan or a part
      refine ⟨CP a t c (1000 * i + 300) 15 1000, ?_, ?_⟩
      · refine ⟨_, rfl, t, c, 2, _, rfl, tp4, by omega, by decide, pow8000 (by decide), fun H5 r5 a5 b5 tp5 kp5 => ⟨rfl, _, rfl, ite2 (fun _ => ?_) (fun _ => ?_)⟩⟩
        · refine ⟨_, rfl, _, rfl, _, rfl, t, c, 3, _, rfl, tp5, by omega, by decide, pow8000 (by decide), fun H6 r6 a6 b6 tp6 kp6 => ⟨t, c, mn, _, r6, rfl, tp6, by omega, by omega, by omega, by omega, fun H7 v z ds tp7 kp7 tv hz pl => ?_⟩⟩
          exact ⟨_, _, _, _, _, _, _, _, _, _, rfl, tp7.le (by omega), td_plan tv pl (by omega) (by omega) (by rcases hz with rfl | ⟨rfl, _⟩ <;> decide +kernel)⟩
        · refine ⟨_, rfl, _, rfl, t, c, mn, 3, _, rfl, tp5, by omega, by omega, by omega, by omega, fun H7 v d tp7 kp7 tv pa => ?_⟩
          exact ⟨_, _, _, _, _, _, _, _, _, _, rfl, tp7.le (by omega), td_pa tv pa (by omega) (by omega)⟩
      rintro σ H5 ⟨v2, v4, v6, v7, v8, v9, v10, v11, way, v, rfl, tp5, td5⟩
      -- near sixty, flat
      refine ⟨CP a t c (1000 * i + 302) 15 1000, ?_, ?_⟩
      · refine ⟨_, rfl, rfl, _, rfl, ite2 (fun _ => ?_) (fun _ => ⟨_, _, _, _, _, _, _, _, _, _, rfl, tp5.le (by omega), td5⟩)⟩
        refine ⟨_, rfl, by show 1 ≤ sizeLine; decide, fun p1 m1 => ⟨by show 1 ≤ sizeLine; decide, fun p2 m2 => ⟨by show 1 ≤ sizeLine; decide, fun p3 m3 => ⟨by show 2 ≤ sizeLine; decide, fun p4 m4 => ⟨by show 4 ≤ sizeLine; decide, fun L mL => ?_⟩⟩⟩⟩⟩
        have s3 := (same_new (o := .tup [V.str "pairs"]) m1).trans (same_new (o := .tup [V.str "sums"]) m2)
        have s4 := (same_new (o := .tup [V.str "codes"]) m3).trans ((same_new (o := .tup [V.str "net", .int 1]) m4).trans (same_new (o := .lst [V.ref p1, .ref p2, .ref p3, .ref p4]) mL))
        have f1 := ((same_new (o := .tup [V.str "sums"]) m2).trans s4) p1 _ upd_same
        have f2 := s4 p2 _ upd_same
        have f3 := ((same_new (o := .tup [V.str "net", .int 1]) m4).trans (same_new (o := .lst [V.ref p1, .ref p2, .ref p3, .ref p4]) mL)) p3 _ upd_same
        have f4 := (same_new (o := .lst [V.ref p1, .ref p2, .ref p3, .ref p4]) mL) p4 _ upd_same
        refine ⟨t, c, L, [.ref p1, .ref p2, .ref p3, .ref p4], _, rfl, tp5.same (s3.trans s4), by omega, fun H' kp => .inl (SqL.of ((tp5.same (s3.trans s4)).sq upd_same kp)), by show 0 < 4; decide, by show 4 ≤ 1000000; decide, fun H6 i6 v6' g6 tp6 kp6 => ?_⟩
        have kt6 := KT.kp (tp5.same (s3.trans s4)) kp6
        obtain ⟨p, z, n, rfl, hp, hz, hn⟩ : ∃ (p : Addr) (z : Str) (n : Nat), v6' = .ref p ∧ H6 p = some (.tup (.str z :: List.replicate n (.int 1))) ∧ PyData.canLay0 (.str z) = true ∧ n ≤ 1 := by
          have mm := List.mem_of_getElem? g6
          simp only [List.mem_cons, List.not_mem_nil, or_false] at mm
          rcases mm with e | e | e | e
          · exact ⟨p1, "pairs", 0, e, kt6 _ _ f1, by decide +kernel, by decide⟩
          · exact ⟨p2, "sums", 0, e, kt6 _ _ f2, by decide +kernel, by decide⟩
          · exact ⟨p3, "codes", 0, e, kt6 _ _ f3, by decide +kernel, by decide⟩
          · exact ⟨p4, "net", 1, e, kt6 _ _ f4, by decide +kernel, by decide⟩
        refine ⟨by show 1 ≤ sizeLine; decide, fun q nq => ⟨_, rfl, t, c, 3, _, rfl, tp6.new nq, by omega, by decide, pow8000 (by decide), fun H7 r7 a7 b7 tp7 kp7 => ⟨_, _, rfl, rfl, .inr ⟨q, 59 + r7, [.int 1], rfl, rfl, SqT.of (KT.kp (tp6.new nq) kp7 _ _ upd_same), by simp, by omega, by omega, by decide, fun u nu => ?_⟩⟩⟩⟩
        rw [flat_one]
        have hp7 := KT.kp (tp6.new nq) kp7 _ _ (same_new (o := .tup [V.int 1]) nq _ _ hp)
        refine tup_catA (same_new nu _ _ hp7) upd_same (by rw [List.length_cons, List.length_replicate, List.length_replicate]; omega) fun H8 g s8 hg => ?_
        have eq : (V.str z :: List.replicate n (.int 1)) ++ List.replicate (59 + r7).toNat (.int 1) = .str z :: List.replicate (n + (59 + r7).toNat) (.int 1) := by
          rw [List.cons_append, List.replicate_append_replicate]
        rw [eq] at hg
        refine ⟨_, _, _, _, _, _, _, _, _, _, rfl, ((tp7.new nu).same s8).le (by omega), .tuple (.str z :: List.replicate (n + (59 + r7).toNat) (.int 1)), .tup hg (.cons (.str _) (tp_rep (.int 1) _)), (Tree.tup (m := 0) fun d hd => (ones_tree _ d hd).1).up (by omega), ?_, ?_⟩
        · rw [PyData.canLay0, PyData.canLayAll0, hz, lay_of fun d hd => (ones_tree _ d hd).2]
          rfl
        · rw [szP, szAll, szAll_ones, show szP (.str z) = 1 from rfl]
          omega
      clear tp5 td5
      rintro σ H5 ⟨v2, v4, v6, v7, v8, v9, v10, v11, way, v, rfl, tp5, td5⟩
      -- near sixty, in rows
      refine ⟨CP a t c (1000 * i + 312) 15 1000, ?_, ?_⟩
      · refine ⟨_, rfl, rfl, _, rfl, ite2 (fun _ => ?_) (fun _ => ⟨_, _, _, _, _, _, _, _, _, _, rfl, tp5.le (by omega), td5⟩)⟩
        refine ⟨_, rfl, t, c, 40, _, rfl, tp5, by omega, by decide, pow8000 (by decide), fun H6 r6 a6 b6 tp6 kp6 => ⟨_, _, rfl, rfl, by show 1 ≤ sizeLine; decide, fun L1 n1 => ⟨_, rfl, t, c, 18, _, rfl, tp6.new n1, by omega, by decide, pow8000 (by decide), fun H7 r7 a7 b7 tp7 kp7 => ⟨_, _, rfl, rfl, by show 1 ≤ sizeLine; decide, fun L2 n2 => ⟨_, rfl, t, c, 2, _, rfl, tp7.new n2, by omega, by decide, pow8000 (by decide), fun H8 r8 a8 b8 tp8 kp8 => ?_⟩⟩⟩⟩⟩
        have h1 : H8 L1 = some (.lst [V.int (1 + r6)]) := (tp7.new n2).sq (same_new n2 _ _ ((tp6.new n1).sq upd_same kp7)) kp8
        have h2 : H8 L2 = some (.lst [V.int (1 + r7)]) := (tp7.new n2).sq upd_same kp8
        refine ⟨L2, r8, [V.int (1 + r7)], rfl, rfl, h2, by omega, by omega, by show 1 * r8.toNat ≤ sizeLine; omega, fun L3 n3 => ⟨L1, L3, [V.int (1 + r6)], _, rfl, rfl, same_new n3 _ _ h1, upd_same, by rw [flat_one, List.length_replicate]; show 1 + r8.toNat ≤ sizeLine; omega, fun S nS => ?_⟩⟩
        obtain ⟨l, el, hl3⟩ : ∃ l : List Int, [V.int (1 + r6)] ++ (List.replicate r8.toNat [V.int (1 + r7)]).flatten = l.map V.int ∧ (l = [1 + r6] ∨ l = [1 + r6, 1 + r7]) := by
          rcases (by omega : r8 = 0 ∨ r8 = 1) with e | e
          · rw [e]
            exact ⟨[1 + r6], rfl, .inl rfl⟩
          · rw [e]
            exact ⟨[1 + r6, 1 + r7], rfl, .inr rfl⟩
        have hS := (upd_same : (upd (upd H8 L3 (.lst (List.replicate r8.toNat [V.int (1 + r7)]).flatten)) S (.lst ([V.int (1 + r6)] ++ (List.replicate r8.toNat [V.int (1 + r7)]).flatten))) S = some (.lst ([V.int (1 + r6)] ++ (List.replicate r8.toNat [V.int (1 + r7)]).flatten)))
        have tp9 := (tp8.new n3 (o := .lst (List.replicate r8.toNat [V.int (1 + r7)]).flatten)).new nS (o := .lst ([V.int (1 + r6)] ++ (List.replicate r8.toNat [V.int (1 + r7)]).flatten))
        have St := (tp8.new n3 (o := .lst (List.replicate r8.toNat [V.int (1 + r7)]).flatten)).fresh nS
        have Sc := (tp8.new n3 (o := .lst (List.replicate r8.toNat [V.int (1 + r7)]).flatten)).fresh_c nS
        generalize upd (upd H8 L3 (.lst (List.replicate r8.toNat [V.int (1 + r7)]).flatten)) S (.lst ([V.int (1 + r6)] ++ (List.replicate r8.toNat [V.int (1 + r7)]).flatten)) = H9 at hS tp9 ⊢
        rw [el] at hS
        have lb : l.length ≤ 2 ∧ (∀ z ∈ l, 1 ≤ z ∧ z ≤ 62) ∧ 1 ≤ l.sum ∧ l.sum ≤ 58 := by
          rcases hl3 with rfl | rfl
          · refine ⟨by simp, fun z hz => ?_, ?_, ?_⟩ <;> simp at * <;> omega
          · refine ⟨by simp, fun z hz => ?_, ?_, ?_⟩
            · rcases List.mem_cons.mp hz with e | e
              · omega
              · have := List.mem_singleton.mp e
                omega
            · show 1 ≤ 1 + r6 + (1 + r7 + 0)
              omega
            · show 1 + r6 + (1 + r7 + 0) ≤ 58
              omega
        clear el hl3 h1 h2 kp6 kp7 kp8 tp6 tp7 tp8 n1 n2 n3 nS
        refine ⟨_, rfl, .inl ⟨rfl, _, SqL.of hS⟩, _, rfl, S, l, rfl, SqL.of hS, _, _, rfl, rfl, _, rfl, t, c, 4, _, rfl, tp9, by omega, by decide, pow8000 (by decide), fun H10 r10 a10 b10 tp10 kp10 => ⟨_, _, rfl, rfl, ?_⟩⟩
        generalize hv : (fun i j : Int => V.int (i + j)) (59 - l.sum) r10 = nv
        obtain rfl : nv = V.int (59 - l.sum + r10) := hv.symm
        clear hv
        have hS10 := tp9.sq hS kp10
        refine ⟨S, _, _, rfl, rfl, hS10, by rw [List.length_map]; omega, ?_⟩
        have hS11 : (upd H10 S (.lst (l.map V.int ++ [V.int (59 - l.sum + r10)]))) S = some (.lst ((l ++ [59 - l.sum + r10]).map V.int)) := by
          rw [upd_same, List.map_append]
          rfl
        have tp11 : Tape (upd H10 S (.lst (l.map V.int ++ [V.int (59 - l.sum + r10)]))) t c _ := tp10.mut St Sc
        generalize upd H10 S (.lst (l.map V.int ++ [V.int (59 - l.sum + r10)])) = H11 at hS11 tp11 ⊢
        have lb' : (l ++ [59 - l.sum + r10]).length ≤ 3 ∧ ∀ z ∈ l ++ [59 - l.sum + r10], 1 ≤ z ∧ z ≤ 62 := by
          refine ⟨by rw [List.length_append, List.length_singleton]; omega, fun z hz => ?_⟩
          rcases List.mem_append.mp hz with e | e
          · exact lb.2.1 z e
          · have := List.mem_singleton.mp e
            omega
        generalize l ++ [59 - l.sum + r10] = l' at hS11 lb'
        clear lb hS10 hS tp10 kp10 tp9
        refine ⟨_, rfl, by show 4 ≤ sizeLine; decide, fun L5 n5 => ⟨t, c, L5, _, _, rfl, tp11.new n5, by omega, fun H' kp => .inl (SqL.of (kp L5 _ upd_same (tp11.fresh n5))), by show 0 < 4; decide, by show 4 ≤ 1000000; decide, fun H12 i12 v12 g12 tp12 kp12 => ?_⟩⟩
        obtain ⟨z, rfl, hz⟩ : ∃ z, v12 = .str z ∧ PyData.canLay0 (.str z) = true := by
          have mm := List.mem_of_getElem? g12
          simp only [List.mem_cons, List.not_mem_nil, or_false] at mm
          rcases mm with e | e | e | e <;> exact ⟨_, e, by decide +kernel⟩
        have hS12 := (tp11.new n5).sq (same_new n5 _ _ hS11) kp12
        clear g12 hS11 kp12 n5
        refine ⟨_, rfl, by show 1 ≤ sizeLine; decide, fun p np => ?_⟩
        have hS13 := same_new (o := .tup [V.str z]) np _ _ hS12
        have hp13 : (upd H12 p (.tup [V.str z])) p = some (.tup [V.str z]) := upd_same
        have tp13 := tp12.new np (o := .tup [V.str z])
        generalize upd H12 p (.tup [V.str z]) = H13 at hS13 hp13 tp13 ⊢
        refine ⟨_, rfl, S, rfl, ⟨_, SqL.of hS13⟩, fun D nD => lc_list (xs := l'.map V.int) (fun i H' => TpT H13 H' D ((l'.take i).map row1)) (TpT.new nD) (fun i H' _ z => SqL.of (z.s _ _ hS13)) (fun i x H' hx z => ?_) (fun H' z' => ?_)⟩
        · obtain ⟨y, rfl, hy⟩ := int_at hx
          have yb := lb'.2 y (List.mem_of_getElem? hy)
          refine ⟨rfl, yes_go ⟨by show 1 ≤ sizeLine; decide, fun p1 m1 => ⟨by show 1 ≤ sizeLine; decide, fun p2 m2 => ⟨_, rfl, ?_⟩⟩⟩⟩
          have e : (l'.take (i + 1)).map row1 = (l'.take i).map row1 ++ [row1 y] := by
            rw [List.take_add_one, hy, List.map_append]
            rfl
          rw [e]
          have sm : ((l'.take i).map row1).length < sizeLine := by
            have := List.length_take_le' i l'
            rw [List.length_map]
            omega
          have q1 := same_new (o := .tup [V.int 1]) m2 _ _ (show (upd H' p1 (.tup [V.str "sums"])) p1 = some (.tup [V.str "sums"]) from upd_same)
          have s12 := (same_new (o := .tup [V.str "sums"]) m1).trans (same_new (o := .tup [V.int 1]) m2)
          by_cases y1 : y = 1
          · subst y1
            refine .inl ⟨p2, [.int 1], rfl, rfl, SqT.of upd_same, tup_catA q1 upd_same (by show 2 ≤ sizeLine; decide) fun H'' g s hg => ?_⟩
            exact z.put nD (s12.trans s) sm (.tup hg (.cons (.str _) (.cons (.int 1) .nil)))
          · refine .inr ⟨p2, y, [.int 1], rfl, rfl, SqT.of upd_same, by simp, by omega, by omega, by decide, fun u nu => ?_⟩
            rw [flat_one]
            refine tup_catA (same_new nu _ _ q1) upd_same (by rw [List.length_replicate, List.length_singleton]; omega) fun H'' g s hg => ?_
            exact z.put nD (s12.trans ((same_new nu).trans s)) sm (.tup hg (.cons (.str _) (tp_rep (.int 1) _)))
        · rw [List.length_map, List.take_length] at z'
          obtain ⟨ys, hD, ta⟩ := z'.ex
          have ly := ta.len
          rw [List.length_map] at ly
          refine ⟨D, _, rfl, .inl ⟨SqL.of hD, fun r nr => ?_⟩⟩
          refine tup_catA (same_new nr _ _ (z'.s _ _ hp13)) upd_same (by rw [List.length_singleton]; omega) fun H'' g s hg => ?_
          have s4 := (same_new nr).trans s
          have rt := rows_tree l'
          refine ⟨_, _, _, _, _, _, _, _, _, _, rfl, (tp13.same (z'.s.trans s4)).le (by omega), .tuple (.str z :: l'.map row1), .tup hg (.cons (.str _) (ta.kt (KT.same s4))), (Tree.tup fun d hd => (rt d hd).1).up (by omega), ?_, ?_⟩
          · rw [PyData.canLay0, PyData.canLayAll0, hz, lay_of fun d hd => (rt d hd).2]
            rfl
          · have := rows_sz l' fun z hz => (lb'.2 z hz).2
            rw [szP, szAll, show szP (.str z) = 1 from rfl]
            omega
      clear tp5 td5
      rintro σ H5 ⟨v2, v4, v6, v7, v8, v9, v10, v11, way, v, rfl, tp5, td5⟩
      -- far within
      refine ⟨CP a t c (1000 * i + 430) 96 1000, ?_, ?_⟩
      · refine ⟨_, rfl, rfl, _, rfl, ite2 (fun _ => ?_) (fun _ => ⟨_, _, _, _, _, _, _, _, _, _, rfl, tp5.le (by omega), td5.up (by omega) (by omega)⟩)⟩
        refine ⟨_, rfl, _, rfl, t, c, 4, _, rfl, tp5, by omega, by decide, pow8000 (by decide), fun H6 r6 a6 b6 tp6 kp6 => ⟨_, _, rfl, rfl, _, rfl, t, c, 4, _, rfl, tp6, by omega, by decide, pow8000 (by decide), fun H7 r7 a7 b7 tp7 kp7 => ⟨_, _, rfl, rfl, by show 3 ≤ sizeLine; decide, fun L nL => ⟨t, c, L, _, _, rfl, tp7.new nL, by omega, fun H' kp => .inl (SqL.of (kp L _ upd_same (tp7.fresh nL))), by show 0 < 3; decide, by show 3 ≤ 1000000; decide, fun H8 i8 v8' g8 tp8 kp8 => ?_⟩⟩⟩⟩
        obtain ⟨z8, rfl, m8⟩ := pick_int (zs := [57 + r6, 57 + r7, 95]) g8
        have zb : 57 ≤ z8 ∧ z8 ≤ 95 := by
          simp only [List.mem_cons, List.not_mem_nil, or_false] at m8
          omega
        obtain ⟨n, rfl⟩ : ∃ n : Nat, z8 = (n : Int) := ⟨z8.toNat, by omega⟩
        refine ⟨n, rfl, by omega, by omega, for_range (lo := 0) (fun k σ H' => ∃ (v8 : Option V) (x : V), σ = [some (.ref a), some (.ref t), v2, some (.int way), v4, some x, v6, v7, v8, v9, v10, v11] ∧ Tape H' t c (1000 * i + 315 + k) ∧ TD H' x k (4 * k + 1)) ⟨_, _, rfl, tp8.le (by omega), .int 1, .int 1, .one, rfl, Nat.le_refl _⟩ ?_ ?_⟩
        · rintro k σ H9 hk ⟨v8, x, rfl, tp9, td9⟩
          refine ⟨_, rfl, t, c, 40, _, rfl, tp9, by omega, by decide, pow8000 (by decide), fun H10 r10 a10 b10 tp10 kp10 => ⟨rfl, _, rfl, ?_⟩⟩
          obtain ⟨d, tv, tr, ly, sz⟩ := td9.kt (KT.kp tp9 kp10)
          refine ite2 (fun _ => ⟨_, rfl, by show 3 ≤ sizeLine; decide, fun p np => ⟨_, _, rfl, (tp10.new np).le (by omega), ?_⟩⟩) (fun _ => ⟨_, rfl, by show 2 ≤ sizeLine; decide, fun p np => ⟨_, _, rfl, (tp10.new np).le (by omega), ?_⟩⟩)
          · refine TD.tup np (.cons (.int 1) (.cons tv .nil)) (fun d' hd => ?_) (by decide +kernel) ?_
            · rcases List.mem_cons.mp hd with e | e
              · rw [e]
                exact ⟨.one, rfl⟩
              · rw [List.mem_singleton.mp e]
                exact ⟨tr, ly⟩
            · rw [szAll, szAll, szAll, show szP (.int 1) = 1 from rfl]
              omega
          · refine TD.tup np (.cons tv .nil) (fun d' hd => ?_) (by decide +kernel) ?_
            · rw [List.mem_singleton.mp hd]
              exact ⟨tr, ly⟩
            · rw [szAll, szAll]
              omega
        · rintro σ H9 ⟨v8, x, rfl, tp9, td9⟩
          obtain ⟨d, tv, tr, ly, sz⟩ := td9
          have all1 : ∀ d' ∈ [d], Tree n d' ∧ d'.canLay0 = true := fun d' hd => by
            rw [List.mem_singleton.mp hd]
            exact ⟨tr, ly⟩
          have sz1 : szAll [d] + 2 ≤ 1000 := by
            rw [szAll, szAll]
            omega
          refine ⟨_, rfl, _, rfl, _, rfl, by show 2 ≤ sizeLine; decide, fun p1 m1 => ⟨_, rfl, by show 2 ≤ sizeLine; decide, fun p2 m2 => ⟨_, rfl, by show 2 ≤ sizeLine; decide, fun p3 m3 => ⟨by show 4 ≤ sizeLine; decide, fun L nL => ?_⟩⟩⟩⟩
          have k1 := KT.new (o := .tup [V.str "pairs", x]) m1
          have k2 := KT.new (o := .tup [V.str "codes", x]) m2
          have k3 := KT.new (o := .tup [V.str "sums", x]) m3
          have k4 := KT.new (o := .lst [x, .ref p1, .ref p2, .ref p3]) nL
          have e1 := (TD.tup (z := "pairs") m1 (.cons tv .nil) all1 (by decide +kernel) sz1).kt (k2.trans (k3.trans k4))
          have e2 := (TD.tup (z := "codes") m2 (.cons (tv.kt k1) .nil) all1 (by decide +kernel) sz1).kt (k3.trans k4)
          have e3 := (TD.tup (z := "sums") m3 (.cons (tv.kt (k1.trans k2)) .nil) all1 (by decide +kernel) sz1).kt k4
          have e0 := tv.kt ((k1.trans k2).trans (k3.trans k4))
          have tpL := (((tp9.new m1 (o := .tup [V.str "pairs", x])).new m2 (o := .tup [V.str "codes", x])).new m3 (o := .tup [V.str "sums", x])).new nL (o := .lst [x, .ref p1, .ref p2, .ref p3])
          refine ⟨t, c, L, [x, .ref p1, .ref p2, .ref p3], _, rfl, tpL, by omega, fun H' kp => .inl (SqL.of (tpL.sq upd_same kp)), by show 0 < 4; decide, by show 4 ≤ 1000000; decide, fun H10 i10 v10' g10 tp10 kp10 => ?_⟩
          refine ⟨_, _, _, _, _, _, _, _, _, _, rfl, tp10.le (by omega), ?_⟩
          have mm := List.mem_of_getElem? g10
          simp only [List.mem_cons, List.not_mem_nil, or_false] at mm
          have kt := KT.kp tpL kp10
          rcases mm with e | e | e | e <;> rw [e]
          · exact ⟨d, e0.kt kt, tr.up (by omega), ly, by omega⟩
          · exact (e1.kt kt).up (by omega) (by omega)
          · exact (e2.kt kt).up (by omega) (by omega)
          · exact (e3.kt kt).up (by omega) (by omega)
      clear tp5 td5
      rintro σ H5 ⟨v2, v4, v6, v7, v8, v9, v10, v11, way, v, rfl, tp5, td5⟩
      -- spoilt
      refine ⟨CE a t c (1000 * i + 700) 30000, ?_, ?_⟩
      · refine ⟨way, t, c, _, rfl, rfl, tp5, by omega, fun b H6 tp6 kp6 => ?_⟩
        obtain ⟨d, tv, tr, ly, sz⟩ := td5.kt (KT.kp tp5 kp6)
        cases b with
        | true => exact iteT ⟨_, rfl, _, rfl, t, c, v, d, _, 96, rfl, tp6, by omega, tv.th, tr, by omega, ly, by omega, fun H7 v' tp7 kp7 te => ⟨_, _, _, _, _, _, _, _, _, _, rfl, tp7.le (by omega), te.mono (by omega)⟩⟩
        | false => exact iteF ⟨_, _, _, _, _, _, _, _, _, _, rfl, tp6.le (by omega), d, tv.th, ly, by omega⟩
      clear tp5 td5
      rintro σ H6 ⟨v2, v4, v6, v7, v8, v9, v10, v11, way, v, rfl, tp6, d, th, lay, sz⟩
      -- what is due
      refine ⟨by show 2 ≤ sizeLine; decide, fun w1 x1 => ⟨by show 2 ≤ sizeLine; decide, fun w2 x2 => ⟨by show 2 ≤ sizeLine; decide, fun W nW => ?_⟩⟩⟩
      have s6 := ((same_new (o := .lst [V.str "sums", .str "net"]) x1).trans (same_new (o := .lst [V.str "pairs", .str "codes"]) x2)).trans (same_new (o := .tup [V.ref w1, .ref w2]) nW)
      have hw1 := ((same_new (o := .lst [V.str "pairs", .str "codes"]) x2).trans (same_new (o := .tup [V.ref w1, .ref w2]) nW)) w1 _ upd_same
      have hw2 := (same_new (o := .tup [V.ref w1, .ref w2]) nW) w2 _ upd_same
      have hW : (upd (upd (upd H6 w1 (.lst [V.str "sums", .str "net"])) w2 (.lst [V.str "pairs", .str "codes"])) W (.tup [V.ref w1, .ref w2])) W = some (.tup [V.ref w1, .ref w2]) := upd_same
      have tp7 := tp6.same s6
      have th7 := th.ks (KS.same s6)
      generalize upd (upd (upd H6 w1 (.lst [V.str "sums", .str "net"])) w2 (.lst [V.str "pairs", .str "codes"])) W (.tup [V.ref w1, .ref w2]) = H7 at s6 hw1 hw2 hW tp7 th7 ⊢
      refine ⟨W, rfl, ⟨_, SqT.of hW⟩, fun D nD => lc_relT (fun i y _ => y = V.bl (res d i)) (fun _ _ _ _ r _ => r) (fun _ _ _ _ _ _ r => r) (SqT.of hW) nD (by show 2 ≤ 1000000; decide) (fun x => rfl) (fun j x hx H8 s8 R g => ?_) (fun H8 ys s8 hD ly ry => ?_)⟩
      · obtain ⟨A, wa, hwa, rfl, er⟩ : ∃ (A : Bool) (wa : Addr), H7 wa = some (.lst (wsW A)) ∧ x = .ref wa ∧ res d j = (decide (1 ≤ onW A 60 d) && decide (onW A 60 d ≤ 60)) := by
          match j, hx with
          | 0, hx => exact ⟨true, w1, hw1, (Option.some.inj hx).symm, rfl⟩
          | 1, hx => exact ⟨false, w2, hw2, (Option.some.inj hx).symm, rfl⟩
          | j + 2, hx => exact absurd hx (by simp)
        refine ⟨_, rfl, _, rfl, v, d, wa, A, 60, rfl, th7.ks (KS.same s8), by omega, by omega, s8 _ _ hwa, fun H' s' => ⟨_, _, rfl, rfl, _, rfl, ?_⟩⟩
        have gg := g (.bl (res d j)) H' s' rfl
        rw [er] at gg
        by_cases h1 : 1 ≤ onW A 60 d
        · rw [decide_eq_true h1, Bool.true_and] at gg
          refine iteT' (by omega) ⟨_, _, rfl, rfl, ?_⟩
          have e : decide (((onW A 60 d : Nat) : Int) ≤ 60) = decide (onW A 60 d ≤ 60) := decide_eq_decide.mpr ⟨fun z => by omega, fun z => by omega⟩
          rw [← e] at gg
          exact gg
        · rw [decide_eq_false h1] at gg
          exact iteF' (by omega) gg
      · have ey := two_of (f := fun i => V.bl (res d i)) ly ry
        subst ey
        have tp8 := tp7.same s8
        have th8 := th7.ks (KS.same s8)
        refine ⟨_, rfl, v, d, rfl, th8, lay, by omega, fun H9 s9 => ?_⟩
        rw [res0 d]
        refine ⟨_, rfl, v, d, rfl, th8.ks (KS.same s9), lay, by omega, fun H10 s10 => ?_⟩
        rw [res1 d]
        refine ⟨by show 2 ≤ sizeLine; decide, fun Z nZ => ?_⟩
        have s3 := s9.trans (s10.trans (same_new (o := .lst [V.bl (res d 0), .bl (res d 1)]) nZ))
        have hD3 := s3 _ _ hD
        refine ⟨.inr (.inr ⟨Z, .list [.bool (res d 0), .bool (res d 1)], rfl, .lst (SqL.of upd_same) (.cons (.bl _) (.cons (.bl _) .nil)), showy_two _ _, ?_⟩)⟩
        refine ⟨_, rfl, ⟨.inr (.inr ⟨D, .list [.bool (res d 0), .bool (res d 1)], rfl, .lst (SqL.of hD3) (.cons (.bl _) (.cons (.bl _) .nil)), showy_two _ _, ?_⟩)⟩⟩
        refine ⟨rfl, _, rfl, iteNS rfl ?_⟩
        exact ⟨_, _, _, _, _, _, _, _, _, _, rfl, ((tp8.same s3)).le (by omega)⟩
    · rintro σ H2 ⟨v2, v3, v4, v5, v6, v7, v8, v9, v10, v11, rfl, tp2⟩
      exact k H2
theorem at_law {f : Addr} {fd : FuncData} (F : Fun K "law" "law" s_law f fd) (T : Top K mg) : RunAt P w K mg base f fd ["_law_script"] (spLaw K) := by
  have d := has_draw (P := P) (w := w) (base := base) T
  have p : Has P w K mg base 2 "_law_pick" ["_law_tape", "_law_some"] (spPick K) := by
    obtain ⟨f, fd, hm, hk, hb, F⟩ := (has_pick T d).ex
    exact ⟨f, fd, hm, hk, hb, F.imp fun vs H Q E h => .inl h⟩
  obtain ⟨lp, hlp, hp⟩ := has_lpart T d p 16
  obtain ⟨lb, hlb, hb⟩ := has_bent T d p 97
  obtain ⟨lo, hlo, ho⟩ := has_lones (P := P) (w := w) (base := base) T 61
  have ar := has_areG (P := P) (w := w) (base := base) T (has_whole T) (has_isjoined T)
  exact (ok_law F T (has_begun T) d p hlp hp (has_lplan T d hlp hp) hlb hb hlo ho (has_part T ar) (has_plan T ar)).at_ ⟨rfl, by decide, by decide⟩
end

theorem all_mk {l : PySem.W.OpenLaw} {w : World} {K : PySem.W.Frag} {h : Heap} {mg : Str → Option Value} {fa : Addr} (X : K.In h) (G : h.Ns mainGlobals mg) (hfa : mg "law" = some (.ref fa))
    {f0 : Addr} {od0 an0 : Option Addr} {sl0 : Array (Option Value)} {oc0 kV0 dc0 pm0 cd0 ct0 : Value}
    (a0 : PySem.W.nsIn K mainGlobals "is_whole" = some (some (.ref f0))) (l0 : K.lookup f0 = some ⟨oc0, od0, .func (PySem.W.fnOf "is_whole" "is_whole" (defArgs s_is_whole) (defBody s_is_whole) (defScope s_is_whole) .none kV0 dc0 pm0 an0 cd0 ct0), sl0⟩) (cc0 : PySem.W.codeIn K cd0 "is_whole" = true) (k0 : PySem.W.keepIn K (.ref f0) = true)
    {f1 : Addr} {od1 an1 : Option Addr} {sl1 : Array (Option Value)} {oc1 kV1 dc1 pm1 cd1 ct1 : Value}
    (a1 : PySem.W.nsIn K mainGlobals "is_part" = some (some (.ref f1))) (l1 : K.lookup f1 = some ⟨oc1, od1, .func (PySem.W.fnOf "is_part" "is_part" (defArgs s_is_part) (defBody s_is_part) (defScope s_is_part) .none kV1 dc1 pm1 an1 cd1 ct1), sl1⟩) (cc1 : PySem.W.codeIn K cd1 "is_part" = true) (k1 : PySem.W.keepIn K (.ref f1) = true)
    {f2 : Addr} {od2 an2 : Option Addr} {sl2 : Array (Option Value)} {oc2 kV2 dc2 pm2 cd2 ct2 : Value}
    (a2 : PySem.W.nsIn K mainGlobals "is_plan" = some (some (.ref f2))) (l2 : K.lookup f2 = some ⟨oc2, od2, .func (PySem.W.fnOf "is_plan" "is_plan" (defArgs s_is_plan) (defBody s_is_plan) (defScope s_is_plan) .none kV2 dc2 pm2 an2 cd2 ct2), sl2⟩) (cc2 : PySem.W.codeIn K cd2 "is_plan" = true) (k2 : PySem.W.keepIn K (.ref f2) = true)
    {f3 : Addr} {od3 an3 : Option Addr} {sl3 : Array (Option Value)} {oc3 kV3 dc3 pm3 cd3 ct3 : Value}
    (a3 : PySem.W.nsIn K mainGlobals "_are_parts" = some (some (.ref f3))) (l3 : K.lookup f3 = some ⟨oc3, od3, .func (PySem.W.fnOf "_are_parts" "_are_parts" (defArgs s__are_parts) (defBody s__are_parts) (defScope s__are_parts) .none kV3 dc3 pm3 an3 cd3 ct3), sl3⟩) (cc3 : PySem.W.codeIn K cd3 "_are_parts" = true) (k3 : PySem.W.keepIn K (.ref f3) = true)
    {f4 : Addr} {od4 an4 : Option Addr} {sl4 : Array (Option Value)} {oc4 kV4 dc4 pm4 cd4 ct4 : Value}
    (a4 : PySem.W.nsIn K mainGlobals "_is_joined" = some (some (.ref f4))) (l4 : K.lookup f4 = some ⟨oc4, od4, .func (PySem.W.fnOf "_is_joined" "_is_joined" (defArgs s__is_joined) (defBody s__is_joined) (defScope s__is_joined) .none kV4 dc4 pm4 an4 cd4 ct4), sl4⟩) (cc4 : PySem.W.codeIn K cd4 "_is_joined" = true) (k4 : PySem.W.keepIn K (.ref f4) = true)
    {f5 : Addr} {od5 an5 : Option Addr} {sl5 : Array (Option Value)} {oc5 kV5 dc5 pm5 cd5 ct5 : Value}
    (a5 : PySem.W.nsIn K mainGlobals "_law_begun" = some (some (.ref f5))) (l5 : K.lookup f5 = some ⟨oc5, od5, .func (PySem.W.fnOf "_law_begun" "_law_begun" (defArgs s__law_begun) (defBody s__law_begun) (defScope s__law_begun) .none kV5 dc5 pm5 an5 cd5 ct5), sl5⟩) (cc5 : PySem.W.codeIn K cd5 "_law_begun" = true) (k5 : PySem.W.keepIn K (.ref f5) = true)
    {f6 : Addr} {od6 an6 : Option Addr} {sl6 : Array (Option Value)} {oc6 kV6 dc6 pm6 cd6 ct6 : Value}
    (a6 : PySem.W.nsIn K mainGlobals "_law_draw" = some (some (.ref f6))) (l6 : K.lookup f6 = some ⟨oc6, od6, .func (PySem.W.fnOf "_law_draw" "_law_draw" (defArgs s__law_draw) (defBody s__law_draw) (defScope s__law_draw) .none kV6 dc6 pm6 an6 cd6 ct6), sl6⟩) (cc6 : PySem.W.codeIn K cd6 "_law_draw" = true) (k6 : PySem.W.keepIn K (.ref f6) = true)
    {f7 : Addr} {od7 an7 : Option Addr} {sl7 : Array (Option Value)} {oc7 kV7 dc7 pm7 cd7 ct7 : Value}
    (a7 : PySem.W.nsIn K mainGlobals "_law_pick" = some (some (.ref f7))) (l7 : K.lookup f7 = some ⟨oc7, od7, .func (PySem.W.fnOf "_law_pick" "_law_pick" (defArgs s__law_pick) (defBody s__law_pick) (defScope s__law_pick) .none kV7 dc7 pm7 an7 cd7 ct7), sl7⟩) (cc7 : PySem.W.codeIn K cd7 "_law_pick" = true) (k7 : PySem.W.keepIn K (.ref f7) = true)
    {f8 : Addr} {od8 an8 : Option Addr} {sl8 : Array (Option Value)} {oc8 kV8 dc8 pm8 cd8 ct8 : Value}
    (a8 : PySem.W.nsIn K mainGlobals "_law_part" = some (some (.ref f8))) (l8 : K.lookup f8 = some ⟨oc8, od8, .func (PySem.W.fnOf "_law_part" "_law_part" (defArgs s__law_part) (defBody s__law_part) (defScope s__law_part) .none kV8 dc8 pm8 an8 cd8 ct8), sl8⟩) (cc8 : PySem.W.codeIn K cd8 "_law_part" = true) (k8 : PySem.W.keepIn K (.ref f8) = true)
    {f9 : Addr} {od9 an9 : Option Addr} {sl9 : Array (Option Value)} {oc9 kV9 dc9 pm9 cd9 ct9 : Value}
    (a9 : PySem.W.nsIn K mainGlobals "_law_plan" = some (some (.ref f9))) (l9 : K.lookup f9 = some ⟨oc9, od9, .func (PySem.W.fnOf "_law_plan" "_law_plan" (defArgs s__law_plan) (defBody s__law_plan) (defScope s__law_plan) .none kV9 dc9 pm9 an9 cd9 ct9), sl9⟩) (cc9 : PySem.W.codeIn K cd9 "_law_plan" = true) (k9 : PySem.W.keepIn K (.ref f9) = true)
    {f10 : Addr} {od10 an10 : Option Addr} {sl10 : Array (Option Value)} {oc10 kV10 dc10 pm10 cd10 ct10 : Value}
    (a10 : PySem.W.nsIn K mainGlobals "_law_ones" = some (some (.ref f10))) (l10 : K.lookup f10 = some ⟨oc10, od10, .func (PySem.W.fnOf "_law_ones" "_law_ones" (defArgs s__law_ones) (defBody s__law_ones) (defScope s__law_ones) .none kV10 dc10 pm10 an10 cd10 ct10), sl10⟩) (cc10 : PySem.W.codeIn K cd10 "_law_ones" = true) (k10 : PySem.W.keepIn K (.ref f10) = true)
    {f11 : Addr} {od11 an11 : Option Addr} {sl11 : Array (Option Value)} {oc11 kV11 dc11 pm11 cd11 ct11 : Value}
    (a11 : PySem.W.nsIn K mainGlobals "_law_bent" = some (some (.ref f11))) (l11 : K.lookup f11 = some ⟨oc11, od11, .func (PySem.W.fnOf "_law_bent" "_law_bent" (defArgs s__law_bent) (defBody s__law_bent) (defScope s__law_bent) .none kV11 dc11 pm11 an11 cd11 ct11), sl11⟩) (cc11 : PySem.W.codeIn K cd11 "_law_bent" = true) (k11 : PySem.W.keepIn K (.ref f11) = true)
    {f12 : Addr} {od12 an12 : Option Addr} {sl12 : Array (Option Value)} {oc12 kV12 dc12 pm12 cd12 ct12 : Value}
    (a12 : PySem.W.nsIn K mainGlobals "law" = some (some (.ref f12))) (l12 : K.lookup f12 = some ⟨oc12, od12, .func (PySem.W.fnOf "law" "law" (defArgs s_law) (defBody s_law) (defScope s_law) .none kV12 dc12 pm12 an12 cd12 ct12), sl12⟩) (cc12 : PySem.W.codeIn K cd12 "law" = true) (k12 : PySem.W.keepIn K (.ref f12) = true)
    {t0 : Tok} (v0 : PySem.W.nsIn K mainGlobals "MOST_ONES" = some (some (.int 60 t0)))
    {t1 : Tok} (v1 : PySem.W.nsIn K mainGlobals "MOST_TUPLES" = some (some (.int 60 t1)))
    (z0 : PySem.W.nsIn K mainGlobals "isinstance" = some none)
    (z1 : PySem.W.nsIn K mainGlobals "bool" = some none)
    (z2 : PySem.W.nsIn K mainGlobals "int" = some none)
    (z3 : PySem.W.nsIn K mainGlobals "len" = some none)
    (z4 : PySem.W.nsIn K mainGlobals "tuple" = some none)
    (z5 : PySem.W.nsIn K mainGlobals "max" = some none)
    (z6 : PySem.W.nsIn K mainGlobals "str" = some none)
    (z7 : PySem.W.nsIn K mainGlobals "sum" = some none)
    (z8 : PySem.W.nsIn K mainGlobals "list" = some none)
    (z9 : PySem.W.nsIn K mainGlobals "range" = some none)
    (z10 : PySem.W.nsIn K mainGlobals "repr" = some none)
    : ∃ fd : FuncData, (∀ (s : Shared) (v : Value), BindsTo s fd ⟨[v], []⟩ [("_law_script", v)]) ∧ ∀ base : Heap, K.In base → base.Ns mainGlobals mg → RunAt l.prog w K mg base fa fd ["_law_script"] (spLaw K) := by
  have e := hfa.symm.trans (PySem.W.mg_of X G a12)
  cases e
  have T : Top K mg := ⟨⟨⟨_, _, PySem.W.mg_of X G a0, fun_mk (st := s_is_whole) l0 cc0 k0⟩⟩, ⟨⟨_, _, PySem.W.mg_of X G a1, fun_mk (st := s_is_part) l1 cc1 k1⟩⟩, ⟨⟨_, _, PySem.W.mg_of X G a2, fun_mk (st := s_is_plan) l2 cc2 k2⟩⟩, ⟨⟨_, _, PySem.W.mg_of X G a3, fun_mk (st := s__are_parts) l3 cc3 k3⟩⟩, ⟨⟨_, _, PySem.W.mg_of X G a4, fun_mk (st := s__is_joined) l4 cc4 k4⟩⟩, ⟨⟨_, _, PySem.W.mg_of X G a5, fun_mk (st := s__law_begun) l5 cc5 k5⟩⟩, ⟨⟨_, _, PySem.W.mg_of X G a6, fun_mk (st := s__law_draw) l6 cc6 k6⟩⟩, ⟨⟨_, _, PySem.W.mg_of X G a7, fun_mk (st := s__law_pick) l7 cc7 k7⟩⟩, ⟨⟨_, _, PySem.W.mg_of X G a8, fun_mk (st := s__law_part) l8 cc8 k8⟩⟩, ⟨⟨_, _, PySem.W.mg_of X G a9, fun_mk (st := s__law_plan) l9 cc9 k9⟩⟩, ⟨⟨_, _, PySem.W.mg_of X G a10, fun_mk (st := s__law_ones) l10 cc10 k10⟩⟩, ⟨⟨_, _, PySem.W.mg_of X G a11, fun_mk (st := s__law_bent) l11 cc11 k11⟩⟩, ⟨⟨_, _, PySem.W.mg_of X G a12, fun_mk (st := s_law) l12 cc12 k12⟩⟩, ⟨_, PySem.W.mg_of X G v0⟩, ⟨_, PySem.W.mg_of X G v1⟩, PySem.W.mg_none_of X G z0, PySem.W.mg_none_of X G z1, PySem.W.mg_none_of X G z2, PySem.W.mg_none_of X G z3, PySem.W.mg_none_of X G z4, PySem.W.mg_none_of X G z5, PySem.W.mg_none_of X G z6, PySem.W.mg_none_of X G z7, PySem.W.mg_none_of X G z8, PySem.W.mg_none_of X G z9, PySem.W.mg_none_of X G z10⟩
  exact ⟨_, fun s v => .of_eq rfl, fun base _ _ => at_law (fun_mk (st := s_law) l12 cc12 k12) T⟩
end Mc
open PySem PySem.W PyProof.Rows
set_option maxRecDepth 100000 in
set_option maxHeartbeats 0 in
theorem PySem.Challenge.cw_mostclauses_k12_plans_or_not_holds : PySem.Challenge.rw_mostclauses_k12_plans_or_not.Holds := by
  w_on; o_law; k_head; (case hw => w_witness2)
  k_fill
  refine Mc.walk_at (l := PySem.Challenge.rw_mostclauses_k12_plans_or_not) (n := 63) (x := "_law_script") (sp := fun w => Mc.spLaw _) rfl (by decide) rfl (fun w h Y => PySem.W.kIn_of Y) ?F (fun _ _ a ns hl _ hS => ⟨a, ns, rfl, hS, hl, fun _ => rfl⟩)
  case F =>
    intro w mg fa h KX G hmg
    refine' Mc.all_mk KX G hmg ?a0 ?l0 ?cc0 ?k0 ?a1 ?l1 ?cc1 ?k1 ?a2 ?l2 ?cc2 ?k2 ?a3 ?l3 ?cc3 ?k3 ?a4 ?l4 ?cc4 ?k4 ?a5 ?l5 ?cc5 ?k5 ?a6 ?l6 ?cc6 ?k6 ?a7 ?l7 ?cc7 ?k7 ?a8 ?l8 ?cc8 ?k8 ?a9 ?l9 ?cc9 ?k9 ?a10 ?l10 ?cc10 ?k10 ?a11 ?l11 ?cc11 ?k11 ?a12 ?l12 ?cc12 ?k12 ?v0 ?v1 ?z0 ?z1 ?z2 ?z3 ?z4 ?z5 ?z6 ?z7 ?z8 ?z9 ?z10
    (case a0 => k_is)
    (case l0 => k_is)
    (case cc0 => k_is)
    (case k0 => k_is)
    (case a1 => k_is)
    (case l1 => k_is)
    (case cc1 => k_is)
    (case k1 => k_is)
    (case a2 => k_is)
    (case l2 => k_is)
    (case cc2 => k_is)
    (case k2 => k_is)
    (case a3 => k_is)
    (case l3 => k_is)
    (case cc3 => k_is)
    (case k3 => k_is)
    (case a4 => k_is)
    (case l4 => k_is)
    (case cc4 => k_is)
    (case k4 => k_is)
    (case a5 => k_is)
    (case l5 => k_is)
    (case cc5 => k_is)
    (case k5 => k_is)
    (case a6 => k_is)
    (case l6 => k_is)
    (case cc6 => k_is)
    (case k6 => k_is)
    (case a7 => k_is)
    (case l7 => k_is)
    (case cc7 => k_is)
    (case k7 => k_is)
    (case a8 => k_is)
    (case l8 => k_is)
    (case cc8 => k_is)
    (case k8 => k_is)
    (case a9 => k_is)
    (case l9 => k_is)
    (case cc9 => k_is)
    (case k9 => k_is)
    (case a10 => k_is)
    (case l10 => k_is)
    (case cc10 => k_is)
    (case k10 => k_is)
    (case a11 => k_is)
    (case l11 => k_is)
    (case cc11 => k_is)
    (case k11 => k_is)
    (case a12 => k_is)
    (case l12 => k_is)
    (case cc12 => k_is)
    (case k12 => k_is)
    (case v0 => k_is)
    (case v1 => k_is)
    (case z0 => k_is)
    (case z1 => k_is)
    (case z2 => k_is)
    (case z3 => k_is)
    (case z4 => k_is)
    (case z5 => k_is)
    (case z6 => k_is)
    (case z7 => k_is)
    (case z8 => k_is)
    (case z9 => k_is)
    (case z10 => k_is)
