import PyProof.Rows.All
import Wide.All
import OpenK.AllK
import Wide.FinOn
import HandS.ForMost
import HandS.Flow
import HandS.Wide
import HandS.Small
import HandS.Style
import HandS.IsInst
import HandS.RaiseMore
import HandS.Codes
import PySem.Challenge.RW_mostclauses_k10_how_many_choices
set_option Elab.async false
set_option linter.all false
set_option maxRecDepth 100000
set_option maxHeartbeats 4000000
namespace Mc
open PySem PySem.Spec PyProof.Rows L2
/-! ### the text by places -/
def top (i : Nat) : Stmt := PySem.Challenge.pw_mostclauses_k10_how_many_choices.main.body.getD i (.Pass ⟨0, 0, 0, 0⟩)

abbrev s_ways : Stmt := top 1
abbrev nm_ways : List Str := ["lens", "many", "length"]
theorem sc_ways : FnScope nm_ways ["lens"] (defScope s_ways) := ⟨rfl, rfl, rfl, by decide +kernel, rfl, by decide +kernel, by decide +kernel⟩
abbrev s_how_many : Stmt := top 2
abbrev nm_how_many : List Str := ["lens", "total", "many"]
theorem sc_how_many : FnScope nm_how_many ["lens", "total"] (defScope s_how_many) := ⟨rfl, rfl, rfl, by decide +kernel, rfl, by decide +kernel, by decide +kernel⟩
abbrev s__with_one_more : Stmt := top 3
abbrev nm__with_one_more : List Str := ["many", "length", "told", "held", "total"]
theorem sc__with_one_more : FnScope nm__with_one_more ["many", "length"] (defScope s__with_one_more) := ⟨rfl, rfl, rfl, by decide +kernel, rfl, by decide +kernel, by decide +kernel⟩
abbrev s__law_begun : Stmt := top 5
abbrev nm__law_begun : List Str := ["_law_script"]
theorem sc__law_begun : FnScope nm__law_begun ["_law_script"] (defScope s__law_begun) := ⟨rfl, rfl, rfl, by decide +kernel, rfl, by decide +kernel, by decide +kernel⟩
abbrev s__law_draw : Stmt := top 6
abbrev nm__law_draw : List Str := ["_law_tape", "_law_many", "_law_spot", "_law_most", "_law_cell", "_law_found"]
theorem sc__law_draw : FnScope nm__law_draw ["_law_tape", "_law_many"] (defScope s__law_draw) := ⟨rfl, rfl, rfl, by decide +kernel, rfl, by decide +kernel, by decide +kernel⟩
abbrev s__law_pick : Stmt := top 7
abbrev nm__law_pick : List Str := ["_law_tape", "_law_some"]
theorem sc__law_pick : FnScope nm__law_pick ["_law_tape", "_law_some"] (defScope s__law_pick) := ⟨rfl, rfl, rfl, by decide +kernel, rfl, by decide +kernel, by decide +kernel⟩
abbrev s__law_lens : Stmt := top 8
abbrev nm__law_lens : List Str := ["_law_tape", "_law_most", "_law_k"]
theorem sc__law_lens : FnScope nm__law_lens ["_law_tape"] (defScope s__law_lens) := ⟨rfl, rfl, rfl, by decide +kernel, rfl, by decide +kernel, by decide +kernel⟩
abbrev s__law_ways : Stmt := top 9
abbrev nm__law_ways : List Str := ["_law_lens_here", "_law_total", "_law_ways_here", "_law_most", "_law_at"]
theorem sc__law_ways : FnScope nm__law_ways ["_law_lens_here", "_law_total"] (defScope s__law_ways) := ⟨rfl, rfl, rfl, by decide +kernel, rfl, by decide +kernel, by decide +kernel⟩
abbrev s_law : Stmt := top 10
abbrev nm_law : List Str := ["_law_script", "_law_tape", "_law_turn", "_law_lens_here", "_law_kept", "_law_most", "_law_total", "_law_told", "_law_due", "_law_size", "_law_great", "_law_k"]
theorem sc_law : FnScope nm_law ["_law_script"] (defScope s_law) := ⟨rfl, rfl, rfl, by decide +kernel, rfl, by decide +kernel, by decide +kernel⟩
/-! ### a def that stands in the top and keeps a promise -/
structure At (K : PySem.W.Frag) (mg : Str → Option Value) (x : Str) (st : Stmt) : Prop where
  ex : ∃ f fd, mg x = some (.ref f) ∧ Fun K x x st f fd
structure Has (P : Program) (w : World) (K : PySem.W.Frag) (mg : Str → Option Value) (base : Heap) (k : Nat) (x : Str) (ps : List Str) (sp : Sp) : Prop where
  ex : ∃ f fd, mg x = some (.ref f) ∧ PySem.W.keepIn K (.ref f) = true ∧ Binds K fd ps [] ∧ FnOk P w K mg base CX0 k f fd ps sp
theorem pe_has {X : Cx} {k : Nat} {x : Str} {ps : List Str} {sp : Sp} {e : Expr} {es : List Expr} {t : TA} {p pos : Pos} (h : Has X.prog X.w X.K X.mg X.base k x ps sp) (hr : Room k X.A) (hg : Gl X x) (ha : PA X (e :: es) t)
    (hdb : (x == ("__debug__" : Str)) = false := by decide) (he : starEach (e :: es) X.env = (false, eval e X.env) :: starEach es X.env := by rfl) (hpl : (backTo pos (starEach es X.env)).any (·.1) = false := by rfl) :
    PE X (.Call (.Name x p) (e :: es) [] pos) (tCall sp [] E0 t) := by
  obtain ⟨f, fd, hm, hk, hb, F⟩ := h.ex
  exact pe_call F hr hg hm hk hb .nil pass0 ha hdb he hpl
abbrev BindsAll (x : Str) (st : Stmt) (ps : List Str) : Prop :=
  ∀ (kV doc pm : Value) (an : Option Addr) (cdv ct : Value) (us : List Value), us.length = ps.length → bindArgs (PySem.W.fnOf x x (defArgs st) (defBody st) (defScope st) .none kV doc pm an cdv ct) ⟨us, []⟩ = pure (ps.zip us)
section
variable {P : Program} {w : World} {K : PySem.W.Frag} {mg : Str → Option Value} {base : Heap}
theorem has_of {x : Str} {st : Stmt} {N ps : List Str} {k : Nat} {sp : Sp} (A : At K mg x st) (S : FnScope N ps (defScope st)) (B : BindsAll x st ps) (len : ∀ vs H Q E, sp vs H Q E → vs.length = ps.length)
    (hbody : ∀ (f : Addr) (cdv : Value) (A : Around) (outer : List Env) (s : Shared) (H : Hp) (vs : List V) (Q : VK) (E : XK), Room k (A.deeper (envOfC x (defScope st) s.heap.objs.size f cdv)) → sp vs H Q E →
      ∃ t, PSs (cxOf CX0 P w K mg base N x (defScope st) f cdv A outer s H E).nox (defBody st) t ∧ t { nx := fun _ H' => Q .non H', rt := Q } (start N vs) H) : Has P w K mg base (k + 1) x ps sp := by
  obtain ⟨f, fd, hm, F⟩ := A.ex
  exact ⟨f, fd, hm, F.kp, F.binds B, F.ok S len fun cdv A outer s H vs Q E hr h => hbody f cdv A outer s H vs Q E hr h⟩
end
theorem pe_const {X : Cx} {x : Str} {i : Int} {pos : Pos} (hm : ∃ t, X.mg x = some (.int i t)) (hg : Gl X x) (hd : (x == ("__debug__" : Str)) = false := by decide) : PE X (.Name x pos) (tC (.int i)) := by
  obtain ⟨t, hm⟩ := hm
  exact pe_glob hg hm ⟨t, rfl⟩ hd
/-! ### repr of a truth -/
def boolText (b : Bool) : Str := if b then "True" else "False"
theorem boolText_inj {a b : Bool} (h : boolText a = boolText b) : a = b := by
  cases a <;> cases b <;> first | rfl | exact absurd h (by decide +kernel)
theorem call_repr_bool {X : Cx} : CallR X (.builtin "repr") (fun xs H Q => ∃ b, xs = [.bl b] ∧ Q (.str (boolText b)) H) := by
  intro pins s σ H xs us Q I r h
  obtain ⟨b, rfl, q⟩ := h
  obtain ⟨u, rfl, ru⟩ := vals1 r
  cases ru
  cases b with
  | true => exact PySem.P.repr_of_bool ⟨.str (boolText true), H, I.tok _, ⟨_, rfl⟩, q⟩
  | false => exact PySem.P.repr_of_bool ⟨.str (boolText false), H, I.tok _, ⟨_, rfl⟩, q⟩
/-! ### heaps -/
/-- all that is known stays, but for what stands at t -/
def Kp (t : Addr) (H H' : Hp) : Prop := ∀ b o, H b = some o → b ≠ t → H' b = some o
theorem Kp.refl {t : Addr} (H : Hp) : Kp t H H := fun _ _ h _ => h
theorem Kp.trans {t : Addr} {H H1 H2 : Hp} (a : Kp t H H1) (b : Kp t H1 H2) : Kp t H H2 := fun c o h n => b c o (a c o h n) n
theorem Kp.new {t p : Addr} {H : Hp} {o : HO} (h : H p = none) : Kp t H (upd H p o) := fun b u e _ => by
  rw [upd_ne (ne_of_none e h)]
  exact e
theorem Kp.at {t : Addr} {H : Hp} {o : HO} : Kp t H (upd H t o) := fun b u e n => by
  rw [upd_ne n]
  exact e
theorem Kp.same {t : Addr} {H H' : Hp} (s : Same H H') : Kp t H H' := fun b o e _ => s b o e
theorem same_new {H : Hp} {p : Addr} {o : HO} (h : H p = none) : Same H (upd H p o) := fun b u e => by
  rw [upd_ne (ne_of_none e h)]
  exact e
/-! ### the tape -/
def tk (c : Addr) (spot left : Int) : List (Key × V) := [(.inr "cells", .ref c), (.inr "spot", .int spot), (.inr "left", .int left)]
structure TapeC (H : Hp) (t c : Addr) (ns : List Int) (spot left : Int) : Prop where
  d : H t = some (.dK (tk c spot left))
  l : H c = some (.lst (ns.map V.int))
  ne : 0 < ns.length
  lt : ns.length ≤ 63
  s0 : 0 ≤ spot
  l0 : 0 ≤ left
/-- a tape at t, its cells at c, of which at most n draws are taken -/
def Tape (H : Hp) (t c : Addr) (n : Nat) : Prop := ∃ ns spot left, TapeC H t c ns spot left ∧ spot ≤ n
theorem Tape.ne {H : Hp} {t c : Addr} {n : Nat} (h : Tape H t c n) : t ≠ c := by
  obtain ⟨ns, spot, left, h, _⟩ := h
  exact ne_of h.d h.l (by intro z; cases z)
theorem Tape.le {H : Hp} {t c : Addr} {n m : Nat} (h : Tape H t c n) (l : n ≤ m) : Tape H t c m := by
  obtain ⟨ns, spot, left, h, e⟩ := h
  exact ⟨ns, spot, left, h, by omega⟩
theorem Tape.stay {H H' : Hp} {t c : Addr} {n : Nat} (h : Tape H t c n) (k : ∀ b o, H b = some o → b = t ∨ b = c → H' b = some o) : Tape H' t c n := by
  obtain ⟨ns, spot, left, h, e⟩ := h
  exact ⟨ns, spot, left, ⟨k _ _ h.d (.inl rfl), k _ _ h.l (.inr rfl), h.ne, h.lt, h.s0, h.l0⟩, e⟩
theorem Tape.same {H H' : Hp} {t c : Addr} {n : Nat} (h : Tape H t c n) (s : Same H H') : Tape H' t c n := h.stay fun b o e _ => s b o e
theorem Tape.new {H : Hp} {t c p : Addr} {n : Nat} {o : HO} (h : Tape H t c n) (hp : H p = none) : Tape (upd H p o) t c n := h.same (same_new hp)
theorem Tape.at_t {H : Hp} {t c : Addr} {n : Nat} (h : Tape H t c n) : ∃ o, H t = some o := by
  obtain ⟨ns, spot, left, h, _⟩ := h
  exact ⟨_, h.d⟩
theorem Tape.at_c {H : Hp} {t c : Addr} {n : Nat} (h : Tape H t c n) : ∃ o, H c = some o := by
  obtain ⟨ns, spot, left, h, _⟩ := h
  exact ⟨_, h.l⟩
theorem k_cells : ¬ (("cells" : Str) = "spot") := by decide +kernel
theorem k_cells2 : ¬ (("cells" : Str) = "left") := by decide +kernel
theorem k_spot : ¬ (("spot" : Str) = "left") := by decide +kernel
theorem tk_cells (c : Addr) (a b : Int) : valV (tk c a b) (Sum.inr "cells" : Key) = some (.ref c) := valV_pos rfl
theorem tk_spot (c : Addr) (a b : Int) : valV (tk c a b) (Sum.inr "spot" : Key) = some (.int a) := by
  unfold tk
  rw [valV_neg (fun e => k_cells (Sum.inr.inj e)), valV_pos rfl]
theorem tk_left (c : Addr) (a b : Int) : valV (tk c a b) (Sum.inr "left" : Key) = some (.int b) := by
  unfold tk
  rw [valV_neg (fun e => k_cells2 (Sum.inr.inj e)), valV_neg (fun e => k_spot (Sum.inr.inj e)), valV_pos rfl]
theorem tk_put_spot (c : Addr) (a b x : Int) : putK (tk c a b) (Sum.inr "spot" : Key) (.int x) = tk c x b := by
  rfl
theorem tk_put_left (c : Addr) (a b x : Int) : putK (tk c a b) (Sum.inr "left" : Key) (.int x) = tk c a x := by
  rfl
theorem dg_cells {H : Hp} {t c : Addr} {a b : Int} (h : H t = some (.dK (tk c a b))) : DGet H t (.str "cells") (some (.ref c)) := by
  have g := DGet.k (k := (Sum.inr "cells" : Key)) h
  rw [tk_cells] at g
  exact g
theorem dg_spot {H : Hp} {t c : Addr} {a b : Int} (h : H t = some (.dK (tk c a b))) : DGet H t (.str "spot") (some (.int a)) := by
  have g := DGet.k (k := (Sum.inr "spot" : Key)) h
  rw [tk_spot] at g
  exact g
theorem dg_left {H : Hp} {t c : Addr} {a b : Int} (h : H t = some (.dK (tk c a b))) : DGet H t (.str "left") (some (.int b)) := by
  have g := DGet.k (k := (Sum.inr "left" : Key)) h
  rw [tk_left] at g
  exact g
theorem dp_spot {H : Hp} {t c : Addr} {a b : Int} (x : Int) (h : H t = some (.dK (tk c a b))) : DPut H t (.str "spot") (.int x) (upd H t (.dK (tk c x b))) := by
  have g := DPut.k (k := (Sum.inr "spot" : Key)) (v := .int x) h (small1000 (by show 3 ≤ 1000; decide))
  rw [tk_put_spot] at g
  exact g
theorem dp_left {H : Hp} {t c : Addr} {a b : Int} (x : Int) (h : H t = some (.dK (tk c a b))) : DPut H t (.str "left") (.int x) (upd H t (.dK (tk c a x))) := by
  have g := DPut.k (k := (Sum.inr "left" : Key)) (v := .int x) h (small1000 (by show 3 ≤ 1000; decide))
  rw [tk_put_left] at g
  exact g
theorem Tape.fresh {H : Hp} {t c p : Addr} {n : Nat} (h : Tape H t c n) (hp : H p = none) : p ≠ t := by
  obtain ⟨o, e⟩ := h.at_t
  exact (ne_of_none e hp).symm
theorem Tape.fresh_c {H : Hp} {t c p : Addr} {n : Nat} (h : Tape H t c n) (hp : H p = none) : p ≠ c := by
  obtain ⟨o, e⟩ := h.at_c
  exact (ne_of_none e hp).symm
/-! ### a list beside the empty list -/
section
variable {X : Cx}
def rEqNil (K : PySem.W.Frag) (neg : Bool) : R2 := fun x y H Q => ∃ a b xs, x = .ref a ∧ y = .ref b ∧ SqL K H a xs ∧ SqL K H b [] ∧ Q (.bl (if neg = true then !xs.isEmpty else xs.isEmpty)) H
theorem op_eqNil (hu : X.A.units + 1 < cLine) : OpR X (compareOp .Eq) (rEqNil X.K false) := by
  intro pins s σ H x y v u Q I rx ry h
  obtain ⟨a, b, xs, rfl, rfl, ha, hb, q⟩ := h
  cases rx
  cases ry
  obtain ⟨us, vs, pl, _⟩ := I.list ha
  obtain ⟨ws, vs2, pl2, _⟩ := I.list hb
  cases vs2
  have l := vs.length
  cases xs with
  | nil =>
    cases vs
    exact SeqAt.RcAt.lists (e := fun _ => true) pl.isList pl2.isList rfl (by omega) (fun j h1 => absurd h1 (Nat.not_lt_zero _)) _ _ _ _ ⟨.bl true, H, I, rfl, q⟩
  | cons z zs => exact SeqAt.RcAt.lists_lengths pl.isList pl2.isList (by rw [List.size_toArray, ← l]; rfl) (by omega) _ _ _ _ ⟨.bl false, H, I, rfl, q⟩
theorem op_neNil (hu : X.A.units + 1 < cLine) : OpR X (compareOp .NotEq) (rEqNil X.K true) := by
  intro pins s σ H x y v u Q I rx ry h
  obtain ⟨a, b, xs, rfl, rfl, ha, hb, q⟩ := h
  cases rx
  cases ry
  obtain ⟨us, vs, pl, _⟩ := I.list ha
  obtain ⟨ws, vs2, pl2, _⟩ := I.list hb
  cases vs2
  have l := vs.length
  cases xs with
  | nil =>
    cases vs
    exact SeqAt.RcNeAt.lists (e := fun _ => true) pl.isList pl2.isList rfl (by omega) (fun j h1 => absurd h1 (Nat.not_lt_zero _)) _ _ _ _ ⟨.bl false, H, I, rfl, q⟩
  | cons z zs => exact SeqAt.RcNeAt.lists_lengths pl.isList pl2.isList (by rw [List.size_toArray, ← l]; rfl) (by omega) _ _ _ _ ⟨.bl true, H, I, rfl, q⟩
end
/-! ### comprehensions that leave what is known as it is -/
theorem take_sel {α β : Type} (t : α → Bool) (f : α → β) {xs : List α} {i : Nat} {x : α} (h : xs[i]? = some x) :
    ((xs.take (i + 1)).filter t).map f = ((xs.take i).filter t).map f ++ (if t x = true then [f x] else []) := by
  rw [List.take_add_one, h, List.filter_append, List.map_append]
  by_cases ht : t x = true
  · rw [if_pos ht]
    simp [ht]
  · rw [if_neg ht]
    simp [ht]
section
variable {K : PySem.W.Frag} {a : Addr} {xs : List V} {tt : TT} {te : TE} {vs : List Nat} {σ : L2.St} {H : Hp} {D : Addr} {Qd : Hp → Prop} {j : Nat}
/-- what a turn asks: the test, the item -/
structure SelT (H : Hp) (σ : L2.St) (vs : List Nat) (j : Nat) (tt : TT) (te : TE) (x : V) (b : Bool) (y : V) : Prop where
  wip : wipe ((wipe σ vs).set j (some x)) vs = wipe σ vs
  tst : ∀ H', Same H H' → ∀ R : Bool → Hp → Prop, (∀ H'', Same H' H'' → R b H'') → tt ((wipe σ vs).set j (some x)) H' R
  elt : b = true → ∀ H', Same H H' → ∀ R : VK, (∀ H'', Same H' H'' → R y H'') → te ((wipe σ vs).set j (some x)) H' R
theorem sel_turn {x y : V} {b : Bool} {acc : List V} {H' : Hp} {P : Hp → Prop} (hD : H D = none) (s : SelT H σ vs j tt te x b y) (hs : Same H H') (ha : H' D = some (.lst acc)) (hz : acc.length < sizeLine)
    (k : ∀ H'', Same H H'' → H'' D = some (.lst (acc ++ (if b = true then [y] else []))) → P H'') :
    gName j x (wipe σ vs) H' fun σ2 H2 => wipe σ2 vs = wipe σ vs ∧ tt σ2 H2 fun c H3 => if c = true then te σ2 H3 fun y H4 => ∃ acc, H4 D = some (.lst acc) ∧ acc.length < sizeLine ∧ P (upd H4 D (.lst (acc ++ [y]))) else P H3 := by
  refine ⟨s.wip, s.tst H' hs _ fun H3 s3 => ?_⟩
  have h3 := s3 D _ ha
  cases b with
  | false =>
    refine iteF (k H3 (hs.trans s3) ?_)
    rw [h3, if_neg Bool.false_ne_true, List.append_nil]
  | true =>
    refine iteT (s.elt rfl H3 (hs.trans s3) _ fun H4 s4 => ⟨acc, s4 D _ h3, hz, k _ (fun c o e => ?_) ?_⟩)
    · rw [upd_ne (ne_of_none e hD)]
      exact s4 c o (s3 c o (hs c o e))
    · rw [upd_same, if_pos rfl]
theorem lc_sel_list (t : V → Bool) (f : V → V) (hx : SqL K H a xs) (hD : H D = none) (hz : xs.length ≤ 1000000) (hs : ∀ x ∈ xs, SelT H σ vs j tt te x (t x) (f x)) (k : ∀ H', Same H H' → H' D = some (.lst ((xs.filter t).map f)) → Qd H') :
    ∃ W : Nat → Nat → Hp → Prop, (∃ m, W 0 m (upd H D (.lst []))) ∧ ∀ i m H, W i m H →
      ((Itl K a).stop i H ∧ Qd H) ∨ ((Itl K a).go i H ∧ ∃ Nx : Hp → Prop, (∀ H', Nx H' → ∃ m', m' < m ∧ W (i + 1) m' H') ∧ ∀ x H', (Itl K a).yld i H x H' → gName j x (wipe σ vs) H' fun σ2 H2 => wipe σ2 vs = wipe σ vs ∧ tt σ2 H2 fun b H3 =>
        if b = true then te σ2 H3 fun y H4 => ∃ acc, H4 D = some (.lst acc) ∧ acc.length < sizeLine ∧ Nx (upd H4 D (.lst (acc ++ [y]))) else Nx H3) := by
  have line : 1000000 < sizeLine := by decide
  refine lc_list (xs := xs) (fun i H' => Same H H' ∧ H' D = some (.lst (((xs.take i).filter t).map f))) ⟨same_new hD, upd_same⟩ (fun i H' _ p => p.1.seq hx) (fun i x H' hi p => ?_) fun H' p => k H' p.1 (by rw [p.2, List.take_length])
  refine sel_turn hD (hs x (List.mem_of_getElem? hi)) p.1 p.2 ?_ fun H'' s'' e => ⟨s'', by rw [e, take_sel t f hi]⟩
  have l1 := List.length_filter_le t (xs.take i)
  have l2 := List.length_take_le i xs
  have l3 : (xs.take i).length ≤ xs.length := by rw [List.length_take]; omega
  rw [List.length_map]
  omega
theorem Same.seqT {H H' : Hp} (e : Same H H') (h : SqT K H a xs) : SqT K H' a xs := by
  rcases h with (h | ⟨o, h⟩) | h
  · exact .inl (.inl (e _ _ h))
  · exact .inl (.inr ⟨o, e _ _ h⟩)
  · exact .inr h
theorem lc_sel_tup (t : V → Bool) (f : V → V) (hx : SqT K H a xs) (hD : H D = none) (hz : xs.length ≤ 1000000) (hs : ∀ x ∈ xs, SelT H σ vs j tt te x (t x) (f x)) (k : ∀ H', Same H H' → H' D = some (.lst ((xs.filter t).map f)) → Qd H') :
    ∃ W : Nat → Nat → Hp → Prop, (∃ m, W 0 m (upd H D (.lst []))) ∧ ∀ i m H, W i m H →
      ((Itt K a).stop i H ∧ Qd H) ∨ ((Itt K a).go i H ∧ ∃ Nx : Hp → Prop, (∀ H', Nx H' → ∃ m', m' < m ∧ W (i + 1) m' H') ∧ ∀ x H', (Itt K a).yld i H x H' → gName j x (wipe σ vs) H' fun σ2 H2 => wipe σ2 vs = wipe σ vs ∧ tt σ2 H2 fun b H3 =>
        if b = true then te σ2 H3 fun y H4 => ∃ acc, H4 D = some (.lst acc) ∧ acc.length < sizeLine ∧ Nx (upd H4 D (.lst (acc ++ [y]))) else Nx H3) := by
  have line : 1000000 < sizeLine := by decide
  refine lc_tup (xs := xs) (fun i H' => Same H H' ∧ H' D = some (.lst (((xs.take i).filter t).map f))) ⟨same_new hD, upd_same⟩ (fun i H' _ p => Same.seqT p.1 hx) (fun i x H' hi p => ?_) fun H' p => k H' p.1 (by rw [p.2, List.take_length])
  refine sel_turn hD (hs x (List.mem_of_getElem? hi)) p.1 p.2 ?_ fun H'' s'' e => ⟨s'', by rw [e, take_sel t f hi]⟩
  have l1 := List.length_filter_le t (xs.take i)
  have l3 : (xs.take i).length ≤ xs.length := by rw [List.length_take]; omega
  rw [List.length_map]
  omega
theorem take_range {n i : Nat} (h : i < n) : (List.range n)[i]? = some i := by
  rw [List.getElem?_range h]
theorem lc_sel_range {lo : Int} {n : Nat} (t : Nat → Bool) (f : Nat → V) (hD : H D = none) (hz : n ≤ 1000000) (hs : ∀ i, i < n → SelT H σ vs j tt te (.int (lo + i)) (t i) (f i)) (k : ∀ H', Same H H' → H' D = some (.lst (((List.range n).filter t).map f)) → Qd H') :
    ∃ W : Nat → Nat → Hp → Prop, (∃ m, W 0 m (upd H D (.lst []))) ∧ ∀ i m H, W i m H →
      ((Itr lo n).stop i H ∧ Qd H) ∨ ((Itr lo n).go i H ∧ ∃ Nx : Hp → Prop, (∀ H', Nx H' → ∃ m', m' < m ∧ W (i + 1) m' H') ∧ ∀ x H', (Itr lo n).yld i H x H' → gName j x (wipe σ vs) H' fun σ2 H2 => wipe σ2 vs = wipe σ vs ∧ tt σ2 H2 fun b H3 =>
        if b = true then te σ2 H3 fun y H4 => ∃ acc, H4 D = some (.lst acc) ∧ acc.length < sizeLine ∧ Nx (upd H4 D (.lst (acc ++ [y]))) else Nx H3) := by
  have line : 1000000 < sizeLine := by decide
  refine lc_range (fun i H' => Same H H' ∧ H' D = some (.lst ((((List.range n).take i).filter t).map f))) ⟨same_new hD, upd_same⟩ (fun i H' hi p => ?_) fun H' p => k H' p.1 (by rw [p.2, List.take_of_length_le (by rw [List.length_range]; omega)])
  refine sel_turn hD (hs i hi) p.1 p.2 ?_ fun H'' s'' e => ⟨s'', by rw [e, take_sel t f (take_range hi)]⟩
  have l1 := List.length_filter_le t ((List.range n).take i)
  have l3 : ((List.range n).take i).length ≤ n := by rw [List.length_take, List.length_range]; omega
  rw [List.length_map]
  omega
end
theorem filter_all {α : Type} (xs : List α) : xs.filter (fun _ => true) = xs := List.filter_eq_self.mpr fun _ _ => rfl
theorem Kp.free {t D : Addr} {H H' : Hp} (k : Kp t H H') (h : H' D = none) (n : D ≠ t) : H D = none := by
  cases e : H D with
  | none => rfl
  | some o =>
    rw [k D o e n] at h
    cases h
theorem Kp.mut {t p : Addr} {H H' : Hp} {o : HO} (k : Kp t H H') (h : H p = none) : Kp t H (upd H' p o) := fun b u e n => by
  rw [upd_ne (ne_of_none e h)]
  exact k b u e n
theorem Tape.mut {H : Hp} {t c p : Addr} {n : Nat} {o : HO} (h : Tape H t c n) (n1 : p ≠ t) (n2 : p ≠ c) : Tape (upd H p o) t c n := h.stay fun b u e z => by
  rw [upd_ne]
  · exact e
  · rcases z with rfl | rfl
    · exact n1.symm
    · exact n2.symm
theorem yes_go {σ : L2.St} {H : Hp} {A B : Hp → Prop} (h : A H) : tYes σ H (fun b H' => if b = true then A H' else B H') := by
  show (if true = true then A H else B H)
  rw [if_pos rfl]
  exact h
/-! ### d.update(e) of two dicts -/
theorem mt_update {X : Cx} : MtR X "dict.update" (fun x xs H Q => ∃ (a b : Addr) (ks ms : List (Key × V)), x = .ref a ∧ xs = [.ref b] ∧ H a = some (.dK ks) ∧ H b = some (.dK ms) ∧ a ≠ b ∧ ks.length + ms.length ≤ sizeLine ∧
    Q .non (upd H a (.dK (mergeK ks ms)))) := by
  intro pins s σ H x xs v us Q I rx rxs h
  obtain ⟨a, b, ks, ms, rfl, rfl, ha, hb, ne, few, q⟩ := h
  cases rx
  obtain ⟨u, rfl, ru⟩ := vals1 rxs
  cases ru
  obtain ⟨za, da, va, ra, dda⟩ := dk_of I.hok ha
  obtain ⟨zb, db, vb, rb, ddb⟩ := dk_of I.hok hb
  refine call_meetsIn PySem.F.slot_dict_update dda.typeIs PySem.F.entry_dict_update (PySem.F.args_dict_update_2 _ _) (meets_dict_update (mixKind X.prog X.w) a b ne db) ⟨va, vb, dda, ddb, by rw [← ra.length, ← rb.length]; exact few, fun h' d1 d2 same => ?_⟩
  have there : ∃ o, h'.get? a = some o := by
    obtain ⟨o, _, _, ho, _⟩ := id d1
    exact ⟨o, ho⟩
  have small : (mergeK ks ms).length ≤ sizeLine := Nat.le_trans (length_mergeK ms ks) few
  exact ⟨.non, _, d_write (t' := s.toks) I (by rw [ha]; exact True.intro) same there (dk_new small da (rb.merge ra) d1), rfl, q⟩
/-! ### rules whose reading names the written part, for use within a comprehension -/
section
variable {X : Cx} {K : PySem.W.Frag}
theorem op_inK (h : X.K = K) : OpR X (compareOp .In) (rIn K false) := h ▸ op_in_seq
theorem op_notInK (h : X.K = K) : OpR X (compareOp .NotIn) (rIn K true) := h ▸ op_notIn_seq
theorem op_eqNilK (h : X.K = K) (hu : X.A.units + 1 < cLine) : OpR X (compareOp .Eq) (rEqNil K false) := h ▸ op_eqNil hu
theorem op_neNilK (h : X.K = K) (hu : X.A.units + 1 < cLine) : OpR X (compareOp .NotEq) (rEqNil K true) := h ▸ op_neNil hu
theorem ix_listK (h : X.K = K) : IxR X (rIxL K) := h ▸ ix_list
theorem ix_tupK (h : X.K = K) : IxR X (rIxT K) := h ▸ ix_tup
theorem ix_seqK (h : X.K = K) : IxR X (rIx K) := h ▸ ix_seq
theorem len_seqK (h : X.K = K) : CallR X (.builtin "len") (fun xs H Q => ∃ p ys, xs = [.ref p] ∧ (SqL K H p ys ∨ SqT K H p ys) ∧ Q (.int (ys.length : Nat)) H) := h ▸ call_len_seq
theorem pi_listK {tg l : Expr} {tl : TE} (h : X.K = K) (hl : PE X l tl) : PI X tg l (iList K tl) := h ▸ pi_list hl
theorem pi_tupK {tg l : Expr} {tl : TE} (h : X.K = K) (hl : PE X l tl) : PI X tg l (iTup K tl) := h ▸ pi_tup hl
theorem sl_listK (h : X.K = K) : SlR X (rSlL K) := h ▸ sl_list
theorem sl_tupK (h : X.K = K) : SlR X (rSlT K) := h ▸ sl_tup
theorem cr_sumK (h : X.K = K) (hc : X.calm = true) : CallR X (.builtin "sum") (rSum K) := h ▸ cr_sum hc
theorem cr_maxL (h : X.K = K) (hc : X.calm = true) : CallR X (.builtin "max") (rMax K) := h ▸ cr_max hc
theorem cr_minL (h : X.K = K) (hc : X.calm = true) : CallR X (.builtin "min") (rMin K) := h ▸ cr_min hc
theorem cr_allK (h : X.K = K) (hc : X.calm = true) : CallR X (.builtin "all") (rAll K) := h ▸ cr_all hc
theorem cr_anyK (h : X.K = K) (hc : X.calm = true) : CallR X (.builtin "any") (rAny K) := h ▸ cr_any hc
theorem call_list_ofK (h : X.K = K) : CallR X (.type "list") (fun xs H Q => ∃ p ys, xs = [.ref p] ∧ (SqL K H p ys ∨ SqT K H p ys) ∧ ∀ l, H l = none → Q (.ref l) (upd H l (.lst ys))) := h ▸ call_list_of
theorem call_tuple_ofK (h : X.K = K) : CallR X (.type "tuple") (fun xs H Q => ∃ p ys, xs = [.ref p] ∧ ((SqL K H p ys ∧ ∀ l, H l = none → Q (.ref l) (upd H l (.tup ys))) ∨ (SqT K H p ys ∧ Q (.ref p) H))) := h ▸ call_tuple_of
theorem op_catTK (h : X.K = K) : OpR X (binaryOp .Add) (rCatT K) := h ▸ op_catT
end
theorem bd_ways : BindsAll "ways" s_ways ["lens"] := fun _ _ _ _ _ _ us hl => match us, hl with | [_], _ => rfl
theorem bd_how_many : BindsAll "how_many" s_how_many ["lens", "total"] := fun _ _ _ _ _ _ us hl => match us, hl with | [_, _], _ => rfl
theorem bd__with_one_more : BindsAll "_with_one_more" s__with_one_more ["many", "length"] := fun _ _ _ _ _ _ us hl => match us, hl with | [_, _], _ => rfl
theorem bd__law_begun : BindsAll "_law_begun" s__law_begun ["_law_script"] := fun _ _ _ _ _ _ us hl => match us, hl with | [_], _ => rfl
theorem bd__law_draw : BindsAll "_law_draw" s__law_draw ["_law_tape", "_law_many"] := fun _ _ _ _ _ _ us hl => match us, hl with | [_, _], _ => rfl
theorem bd__law_pick : BindsAll "_law_pick" s__law_pick ["_law_tape", "_law_some"] := fun _ _ _ _ _ _ us hl => match us, hl with | [_, _], _ => rfl
theorem bd__law_lens : BindsAll "_law_lens" s__law_lens ["_law_tape"] := fun _ _ _ _ _ _ us hl => match us, hl with | [_], _ => rfl
theorem bd__law_ways : BindsAll "_law_ways" s__law_ways ["_law_lens_here", "_law_total"] := fun _ _ _ _ _ _ us hl => match us, hl with | [_, _], _ => rfl
theorem bd_law : BindsAll "law" s_law ["_law_script"] := fun _ _ _ _ _ _ us hl => match us, hl with | [_], _ => rfl
structure Top (K : PySem.W.Frag) (mg : Str → Option Value) : Prop where
  d_ways : At K mg "ways" s_ways
  d_how_many : At K mg "how_many" s_how_many
  d__with_one_more : At K mg "_with_one_more" s__with_one_more
  d__law_begun : At K mg "_law_begun" s__law_begun
  d__law_draw : At K mg "_law_draw" s__law_draw
  d__law_pick : At K mg "_law_pick" s__law_pick
  d__law_lens : At K mg "_law_lens" s__law_lens
  d__law_ways : At K mg "_law_ways" s__law_ways
  d_law : At K mg "law" s_law
  b_len : mg "len" = none
  b_range : mg "range" = none
  b_sum : mg "sum" = none
  b_max : mg "max" = none
  b_list : mg "list" = none
  b_isinstance : mg "isinstance" = none
  b_bool : mg "bool" = none
  b_int : mg "int" = none
  b_min : mg "min" = none
/-! ### the draws -/
def spDraw : Sp := fun vs H Q _ => ∃ (t c : Addr) (m : Int) (n : Nat), vs = [.ref t, .int m] ∧ Tape H t c n ∧ n < 2 ^ 40 ∧ 0 < m ∧ m < 2 ^ 8000 ∧
  ∀ (H' : Hp) (r : Int), 0 ≤ r → r < m → Tape H' t c (n + 1) → Kp t H H' → Q (.int r) H'
theorem cell_at {ns : List Int} {spot : Int} (h0 : 0 < ns.length) (hs : 0 ≤ spot) : ∃ x, atI (ns.map V.int) (spot % ((ns.map V.int).length : Int)) = some (.int x) := by
  rw [List.length_map]
  have hp : (0 : Int) < (ns.length : Int) := by omega
  have h1 := Int.emod_nonneg spot (show (ns.length : Int) ≠ 0 by omega)
  have h2 := Int.emod_lt_of_pos spot hp
  have h3 : (spot % (ns.length : Int)).toNat < ns.length := by omega
  refine ⟨ns[(spot % (ns.length : Int)).toNat], at_of (j := (spot % (ns.length : Int)).toNat) (by omega) ?_⟩
  rw [List.getElem?_map, List.getElem?_eq_getElem h3]
  rfl
theorem log2_small {m : Int} (h0 : 0 < m) (h : m < 2 ^ 8000) : m.natAbs.log2 < 9000 := by
  have h2 : m.natAbs < 2 ^ 8000 := by
    have e : ((2 ^ 8000 : Nat) : Int) = (2 : Int) ^ 8000 := by rw [Int.natCast_pow]; rfl
    omega
  exact Nat.lt_of_lt_of_le (PySem.Flt.log2_lt_of (by decide) h2) (by decide)
theorem pow_ok {x spot : Int} {n : Nat} (h0 : 0 ≤ spot) (h1 : spot ≤ n) (h2 : n < 2 ^ 40) : CPow (x % 2147483647 + 69621 * spot + 48271) 17 := by
  have a := Int.emod_nonneg x (show (2147483647 : Int) ≠ 0 by decide)
  have b := Int.emod_lt_of_pos x (show (0 : Int) < 2147483647 by decide)
  refine ⟨by decide, by decide, ?_⟩
  have e : (2 : Nat) ^ 64 = 18446744073709551616 := by decide
  rw [e]
  omega
section
variable {P : Program} {w : World} {K : PySem.W.Frag} {mg : Str → Option Value} {base : Heap}
theorem has_draw (T : Top K mg) : Has P w K mg base 1 "_law_draw" ["_law_tape", "_law_many"] spDraw := by
  refine has_of T.d__law_draw sc__law_draw bd__law_draw (fun vs H Q E h => ?_) (fun f cdv A outer s H vs Q E hr h => ?_)
  · obtain ⟨t, c, m, n, rfl, _⟩ := h
    rfl
  · have hu := hu_of hr
    have nd := sc__law_draw.nd
    obtain ⟨t, c, m, n, rfl, ⟨ns, spot, left, tp, hs⟩, hn, hm, hm2, k⟩ := h
    refine ⟨_, (C8.pss_cut (ps_if (pt_cmpR op_lt (pe_dget hu (pv 0) pe_str (fun _ _ => rfl)) (pv 1) (nomark _)) (pss_cons (ps_par (i := 2) (j := 3) (by rfl) nd rfl rfl (by decide) rfl rfl (pa_cons (pe_dget hu (pv 0) pe_str (fun _ _ => rfl)) (pa_cons (pe_callB call_len_seq (by rfl) T.b_len (by decide +kernel) (pa_cons (pe_dget hu (pv 0) pe_str (fun _ _ => rfl)) pa_nil)) pa_nil)) (by rfl))
    (pss_cons (ps_asg (pe_tup (pa_cons (pe_ix ix_list (pe_dget hu (pv 0) pe_str (fun _ _ => rfl)) (pe_op op_mod (pv 2) (pv 3)) (fun _ _ => rfl)) (pa_cons (pe_op op_add (pv 2) pe_int) pa_nil))) (pg_tup (by rfl) (pgs_cons (pg_name (i := 4) nd rfl (.inl rfl)) (pgs_cons (pg_sub (pv 0) pe_str (set_dict hu)) pgs_nil))))
    (pss_cons (ps_dput hu (pv 0) pe_str (pe_op op_mod (pe_op op_pow (pe_op op_add (pe_op op_add (pe_op op_mod (pv 4) pe_int) (pe_op op_mul pe_int (pv 2))) pe_int) pe_int) (pe_op op_add (pe_op op_pow pe_int pe_int) pe_int)) rfl)
    (pss_one (ps_if (PW.pt (pw_and (pt_cmpR op_ge (pv 4) (pe_op op_pow pe_int pe_int) (nomark _)) (pw_and1 (pt_cmpR op_lt (pv 2) (pv 3) (nomark _))))) (pss_one (ps_dput hu (pv 0) pe_str (pe_op op_sub (pv 4) (pe_op op_pow pe_int pe_int)) rfl)) pss_nil))))) pss_nil)
    (pss_cons (ps_asg (pe_tup (pa_cons (pe_op op_mod (pe_dget hu (pv 0) pe_str (fun _ _ => rfl)) (pv 1)) (pa_cons (pe_op op_fdivW (pe_dget hu (pv 0) pe_str (fun _ _ => rfl)) (pv 1)) pa_nil))) (pg_tup (by rfl) (pgs_cons (pg_name (i := 5) nd rfl (.inl rfl)) (pgs_cons (pg_sub (pv 0) pe_str (set_dict hu)) pgs_nil))))
    (pss_one (ps_ret (pv 5))))), ?_⟩
    refine ⟨fun σ' H' => ∃ (v2 v3 v4 v5 : Option V) (spot' left' : Int), σ' = [some (.ref t), some (.int m), v2, v3, v4, v5] ∧ TapeC H' t c ns spot' left' ∧ spot' ≤ ((n + 1 : Nat) : Int) ∧ Kp t H H', ?_, ?_⟩
    · refine ⟨_, rfl, t, _, rfl, dg_left tp.d, _, rfl, _, _, rfl, rfl, _, rfl, ite2 (fun _ => ?_) (fun _ => ?_)⟩
      · obtain ⟨x, hx⟩ := cell_at tp.ne tp.s0
        refine ⟨_, rfl, t, _, rfl, dg_spot tp.d, _, rfl, t, _, rfl, dg_cells tp.d, c, _, rfl, .inl (SqL.of tp.l), _, _, rfl, ?_⟩
        refine ⟨_, rfl, t, _, rfl, dg_cells tp.d, _, rfl, _, rfl, _, _, rfl, rfl, ?_, c, _, _, _, rfl, rfl, SqL.of tp.l, hx, _, rfl, _, _, rfl, rfl, by show 2 ≤ sizeLine; decide, fun p hp => ?_⟩
        · show (0 : Int) < ((ns.map V.int).length : Int)
          rw [List.length_map]
          have := tp.ne
          omega
        have h1 : (upd H p (.tup [.int x, .int (spot + 1)])) t = some (.dK (tk c spot left)) := by
          rw [upd_ne (ne_of_none tp.d hp)]
          exact tp.d
        refine ⟨p, _, rfl, SqT.of upd_same, rfl, _, _, rfl, _, _, rfl, _, rfl, t, _, rfl, dp_spot _ h1, rfl, ?_⟩
        have c1 : (upd (upd H p (.tup [.int x, .int (spot + 1)])) t (.dK (tk c (spot + 1) left))) c = some (.lst (ns.map V.int)) := by
          rw [upd_ne (show c ≠ t from ne_of tp.l tp.d (by intro z; cases z)), upd_ne (ne_of_none tp.l hp)]
          exact tp.l
        refine ⟨_, rfl, _, _, rfl, rfl, by show (0 : Int) < 2147483647; decide, _, rfl, _, _, rfl, rfl, .inl ⟨by decide, by decide⟩, _, _, rfl, rfl, _, _, rfl, rfl, _, _, rfl, rfl, pow_ok tp.s0 hs hn, _, _, rfl, rfl, ⟨by decide, by decide, by decide⟩, _, _, rfl, rfl, _, _, rfl, rfl, ?_, _, rfl, t, _, rfl, dp_left _ upd_same, ?_⟩
        · show (0 : Int) < 10 ^ (50 : Int).toNat + 151
          decide
        have kp : ∀ z, Kp t H (upd (upd (upd H p (.tup [.int x, .int (spot + 1)])) t (.dK (tk c (spot + 1) left))) t (.dK (tk c (spot + 1) z))) := fun z => ((Kp.new hp).trans Kp.at).trans Kp.at
        have tq : ∀ z, 0 ≤ z → TapeC (upd (upd (upd H p (.tup [.int x, .int (spot + 1)])) t (.dK (tk c (spot + 1) left))) t (.dK (tk c (spot + 1) z))) t c ns (spot + 1) z := fun z hz =>
          ⟨upd_same, by rw [upd_ne (show c ≠ t from ne_of tp.l tp.d (by intro z; cases z))]; exact c1, tp.ne, tp.lt, by have := tp.s0; omega, hz⟩
        have h0 : ∀ a : Int, 0 ≤ a % (10 ^ (50 : Int).toNat + 151) := fun a => Int.emod_nonneg _ (by decide)
        refine ⟨_, rfl, _, _, rfl, rfl, ⟨by decide, by decide, by decide⟩, _, _, rfl, rfl, _, rfl, ite2 (fun hc => ?_) (fun _ => iteF ?_)⟩
        · refine ⟨_, rfl, _, rfl, _, _, rfl, rfl, _, rfl, ite2 (fun _ => ?_) (fun _ => ?_)⟩
          · refine ⟨_, rfl, _, _, rfl, rfl, ⟨by decide, by decide, by decide⟩, _, _, rfl, rfl, _, rfl, t, _, rfl, dp_left _ upd_same, ?_⟩
            have hz : (10 : Int) ^ (18 : Int).toNat ≤ x := of_decide_eq_true hc
            exact ⟨_, _, _, _, spot + 1, x - 10 ^ (18 : Int).toNat, rfl, ⟨upd_same, by rw [upd_ne (show c ≠ t from ne_of tp.l tp.d (by intro z; cases z))]; exact (tq _ (h0 _)).l, tp.ne, tp.lt, by have := tp.s0; omega, by omega⟩, by omega, (kp _).trans Kp.at⟩
          · exact ⟨_, _, _, _, _, _, rfl, tq _ (h0 _), by omega, kp _⟩
        · exact ⟨_, _, _, _, _, _, rfl, tq _ (h0 _), by omega, kp _⟩
      · exact ⟨_, _, _, _, _, _, rfl, tp, by omega, Kp.refl _⟩
    · rintro σ' H' ⟨v2, v3, v4, v5, spot', left', rfl, tp', hs', kp⟩
      refine ⟨_, rfl, t, _, rfl, dg_left tp'.d, _, rfl, _, _, rfl, rfl, hm, _, rfl, t, _, rfl, dg_left tp'.d, _, rfl, _, _, rfl, rfl, ⟨hm, ?_⟩, by show 2 ≤ sizeLine; decide, fun p hp => ?_⟩
      · exact log2_small hm hm2
      have h1 : ∀ o, (upd H' p o) t = some (.dK (tk c spot' left')) := fun o => by
          rw [upd_ne (ne_of_none tp'.d hp)]
          exact tp'.d
      refine ⟨p, _, rfl, SqT.of upd_same, rfl, _, _, rfl, _, _, rfl, _, rfl, t, _, rfl, dp_left _ (h1 _), rfl, ?_⟩
      refine ⟨_, rfl, k _ _ (Int.emod_nonneg _ (by omega)) (Int.emod_lt_of_pos _ hm) ?_ ?_⟩
      · exact ⟨ns, spot', _, ⟨upd_same, by rw [upd_ne (show c ≠ t from ne_of tp'.l tp'.d (by intro z; cases z)), upd_ne (ne_of_none tp'.l hp)]; exact tp'.l, tp'.ne, tp'.lt, tp'.s0, Int.ediv_nonneg tp'.l0 (by omega)⟩, hs'⟩
      · exact (kp.trans (Kp.new hp)).trans Kp.at
/-- a pick from a list or a tuple -/
def spPick (K : PySem.W.Frag) : Sp := fun vs H Q _ => ∃ (t c a : Addr) (xs : List V) (n : Nat), vs = [.ref t, .ref a] ∧ Tape H t c n ∧ n < 2 ^ 40 ∧ (∀ H', Kp t H H' → SqL K H' a xs ∨ SqT K H' a xs) ∧ 0 < xs.length ∧ xs.length ≤ 1000000 ∧
  ∀ (H' : Hp) (i : Nat) (v : V), xs[i]? = some v → Tape H' t c (n + 1) → Kp t H H' → Q v H'
theorem has_pick (T : Top K mg) (h__law_draw : Has P w K mg base 1 "_law_draw" ["_law_tape", "_law_many"] spDraw) : Has P w K mg base 2 "_law_pick" ["_law_tape", "_law_some"] (spPick K) := by
  refine has_of T.d__law_pick sc__law_pick bd__law_pick (fun vs H Q E h => ?_) (fun f cdv A outer s H vs Q E hr h => ?_)
  · obtain ⟨t, c, a, xs, n, rfl, _⟩ := h
    rfl
  · have hu := hu_of hr
    have nd := sc__law_pick.nd
    obtain ⟨t, c, a, xs, n, rfl, tp, hn, hs, h0, h1, k⟩ := h
    refine ⟨_, (pss_one (ps_ret (pe_ix ix_seq (pv 1) (pe_has h__law_draw (hr.mono (by omega)) (by rfl) (pa_cons (pv 0) (pa_cons (pe_callB call_len_seq (by rfl) T.b_len (by decide +kernel) (pa_cons (pv 1) pa_nil)) pa_nil))) (fun _ _ => rfl)))), ?_⟩
    refine ⟨_, rfl, _, rfl, _, rfl, a, xs, rfl, hs H (Kp.refl _), t, c, _, n, rfl, tp, hn, by omega, ?_, fun H' r r0 r1 tp' kp => ?_⟩
    · exact Int.lt_of_le_of_lt (Int.ofNat_le.mpr h1) (by decide +kernel)
    have hi : r.toNat < xs.length := by omega
    have g : xs[r.toNat]? = some xs[r.toNat] := List.getElem?_eq_getElem hi
    rcases hs H' kp with z | z
    · exact .inl ⟨a, xs, r, _, rfl, rfl, z, at_of (by omega) g, k H' _ _ g tp' kp⟩
    · exact .inr (.inl ⟨a, xs, r, _, rfl, rfl, z, at_of (by omega) g, k H' _ _ g tp' kp⟩)
/-- the tape's beginning -/
def spBegun (K : PySem.W.Frag) : Sp := fun vs H Q _ => ∃ (a : Addr) (ns : List Int), vs = [.ref a] ∧ SqL K H a (ns.map V.int) ∧ ns.length ≤ 63 ∧
  ∀ (H' : Hp) (t c : Addr), H t = none → H c = none → Same H H' → Tape H' t c 0 → Q (.ref t) H'
theorem has_begun (T : Top K mg) : Has P w K mg base 1 "_law_begun" ["_law_script"] (spBegun K) := by
  refine has_of T.d__law_begun sc__law_begun bd__law_begun (fun vs H Q E h => ?_) (fun f cdv A outer s H vs Q E hr h => ?_)
  · obtain ⟨a, ns, rfl, _⟩ := h
    rfl
  · have hu := hu_of hr
    have nd := sc__law_begun.nd
    obtain ⟨a, ns, rfl, hS, hl, k⟩ := h
    refine ⟨_, (pss_one (ps_ret (pe_disp (pps_cons pe_str (pe_orT (pe_slice sl_list (pv 0) po_none (po_some pe_int)) (pe_one (pe_lst (pa_cons pe_int pa_nil)))) (pps_cons pe_str pe_int (pps_cons pe_str pe_int pps_nil))) (by rfl) (by rfl) (fun z => by cases z) (by decide)))), ?_⟩
    intro t ht
    have s1 := same_new (o := .dK []) ht
    refine ⟨_, rfl, 63, rfl, a, _, rfl, s1.seq hS, fun q hq => ?_⟩
    have ec : cutV (ns.map V.int) none (some 63) = ns.map V.int := by
      unfold cutV
      rw [HT.sIx_none, show HT.sIx (ns.map V.int).length (ns.map V.int).length (some 63) = min 63 (ns.map V.int).length from HT.sIx_nat _ _ 63, List.drop_zero, List.length_map]
      refine List.take_of_length_le ?_
      rw [List.length_map]
      omega
    rw [ec]
    have nqt : q ≠ t := fun e => by
      rw [e, upd_same] at hq
      cases hq
    have nq : H q = none := by
      rw [← hq, upd_ne nqt]
    cases hns : ns with
    | cons z zs =>
      refine ⟨true, .inl ⟨_, SqL.of upd_same, rfl⟩, iteT ?_⟩
      refine ⟨by rw [upd_ne nqt.symm]; exact upd_same, tk q 0 0, rfl, by show 3 ≤ 15; decide, ?_⟩
      refine k _ t q ht nq (fun b o e => ?_) ⟨z :: zs, 0, 0, ⟨upd_same, by rw [upd_ne nqt]; exact upd_same, by rw [List.length_cons]; omega, by rw [← hns]; exact hl, by decide, by decide⟩, by decide⟩
      rw [upd_ne (ne_of_none e ht), upd_ne (ne_of_none e nq), upd_ne (ne_of_none e ht)]
      exact e
    | nil =>
      refine ⟨false, .inl ⟨_, SqL.of upd_same, rfl⟩, iteF ?_⟩
      refine ⟨by show 1 ≤ sizeLine; decide, fun p hp => ?_⟩
      have npq : p ≠ q := fun e => by
        rw [e, upd_same] at hp
        cases hp
      have npt : p ≠ t := fun e => by
        rw [e, upd_ne nqt.symm, upd_same] at hp
        cases hp
      have np : H p = none := by
        rw [← hp, upd_ne npq, upd_ne npt]
      refine ⟨by rw [upd_ne npt.symm, upd_ne nqt.symm]; exact upd_same, tk p 0 0, rfl, by show 3 ≤ 15; decide, ?_⟩
      refine k _ t p ht np (fun b o e => ?_) ⟨[0], 0, 0, ⟨upd_same, by rw [upd_ne npt]; exact upd_same, by decide, by decide, by decide, by decide⟩, by decide⟩
      rw [upd_ne (ne_of_none e ht), upd_ne (ne_of_none e np), upd_ne (ne_of_none e nq), upd_ne (ne_of_none e ht)]
      exact e
end

/-! ### small things -/
theorem int_at {rs : List Int} {i : Nat} {x : V} (h : (rs.map V.int)[i]? = some x) : ∃ r, x = .int r ∧ rs[i]? = some r := by
  rw [List.getElem?_map] at h
  cases e : rs[i]? with
  | none =>
    rw [e] at h
    cases h
  | some r =>
    rw [e] at h
    exact ⟨r, (Option.some.inj h).symm, rfl⟩
/-- the truth that is told of a number of a clause -/
theorem pick_int {zs : List Int} {i : Nat} {v : V} (h : (zs.map V.int)[i]? = some v) : ∃ z, v = .int z ∧ z ∈ zs := by
  obtain ⟨r, e, hr⟩ := int_at h
  exact ⟨r, e, List.mem_of_getElem? hr⟩
theorem seq_in {n : Nat} {i : Int} (h0 : 0 ≤ i) (h1 : i < n) : seqIndex? i n = some i.toNat := by
  have e : ixN n i = some i.toNat := by
    unfold ixN
    rw [if_pos h0, if_pos h1]
  exact (ixN_seq e).1
theorem pow8000 {x : Int} (h : x ≤ 1000000) : x < 2 ^ 8000 := Int.lt_of_le_of_lt h (by decide +kernel)
theorem Tape.sq {H : Hp} {t c p : Addr} {n : Nat} {xs : List V} (h : Tape H t c n) (e : H p = some (.lst xs)) {H' : Hp} (k : Kp t H H') : H' p = some (.lst xs) := k p _ e (by
  obtain ⟨ns, spot, left, tc, _⟩ := h
  exact ne_of e tc.d (by intro z; cases z))
theorem Tape.ne_lst' {H : Hp} {t c p : Addr} {n : Nat} {xs : List V} (h : Tape H t c n) (e : H p = some (.lst xs)) : p ≠ t := by
  obtain ⟨ns, spot, left, tc, _⟩ := h
  exact ne_of e tc.d (by intro z; cases z)
theorem getElem_snoc {α : Type} {xs : List α} {x y : α} {i : Nat} (h : (xs ++ [x])[i]? = some y) : (i < xs.length ∧ xs[i]? = some y) ∨ (i = xs.length ∧ x = y) := by
  by_cases c : i < xs.length
  · rw [List.getElem?_append_left c] at h
    exact .inl ⟨c, h⟩
  · rw [List.getElem?_append_right (by omega)] at h
    have l := (List.getElem?_eq_some_iff.mp h).1
    simp only [List.length_cons, List.length_nil] at l
    have e : i - xs.length = 0 := by omega
    rw [e] at h
    exact .inr ⟨by omega, Option.some.inj h⟩
theorem same_mut {H H' : Hp} {D : Addr} {o : HO} (s : Same H H') (h : H D = none) : Same H (upd H' D o) := fun b u e => by
  rw [upd_ne (ne_of_none e h)]
  exact s b u e
theorem take_snoc {xs : List Int} {i : Nat} {x : Int} (h : xs[i]? = some x) : xs.take (i + 1) = xs.take i ++ [x] := by
  rw [List.take_add_one, h]
  rfl

/-! ### what the data are -/
theorem lay_ints : ∀ l : List Int, PyData.canLayAll0 (l.map PyData.int) = true
  | [] => rfl
  | x :: r => by
    rw [List.map_cons, PyData.canLayAll0, lay_ints r]
    rfl
theorem dep_ints : ∀ l : List Int, PyData.depthAll (l.map PyData.int) ≤ 0
  | [] => Nat.le_refl _
  | x :: r => by
    rw [List.map_cons, PyData.depthAll]
    exact Nat.max_le.mpr ⟨Nat.le_refl _, dep_ints r⟩
def tupD (c : List Int) : PyData := .tuple (c.map PyData.int)
def lstD (c : List Int) : PyData := .list (c.map PyData.int)
theorem lay_tup (c : List Int) : (tupD c).canLay0 = true := by
  unfold tupD
  rw [PyData.canLay0]
  exact lay_ints c
theorem lay_lst (c : List Int) : (lstD c).canLay0 = true := by
  unfold lstD
  rw [PyData.canLay0]
  exact lay_ints c
theorem dep_tup (c : List Int) : (tupD c).depth ≤ 1 := by
  unfold tupD
  rw [PyData.depth]
  exact Nat.succ_le_succ (dep_ints c)
theorem dep_lst (c : List Int) : (lstD c).depth ≤ 1 := by
  unfold lstD
  rw [PyData.depth]
  exact Nat.succ_le_succ (dep_ints c)
theorem lay_tups : ∀ cs : List (List Int), PyData.canLayAll0 (cs.map tupD) = true
  | [] => rfl
  | x :: r => by
    rw [List.map_cons, PyData.canLayAll0, lay_tups r, lay_tup]
    rfl
theorem dep_tups : ∀ cs : List (List Int), PyData.depthAll (cs.map tupD) ≤ 1
  | [] => Nat.zero_le _
  | x :: r => by
    rw [List.map_cons, PyData.depthAll]
    exact Nat.max_le.mpr ⟨dep_tup x, dep_tups r⟩
section
variable {K : PySem.W.Frag} {H : Hp}
theorem dp_ints : ∀ l : List Int, DpAll K H (l.map V.int) (l.map PyData.int)
  | [] => .nil
  | x :: r => .cons (.int x) (dp_ints r)
theorem dp_lst {a : Addr} {l : List Int} (h : H a = some (.lst (l.map V.int))) : Dp K H (.ref a) (lstD l) := .lst (SqL.of h) (dp_ints l)
theorem dp_tups : ∀ {qs : List Addr} {cs : List (List Int)}, qs.length = cs.length → (∀ (i : Nat) q c, qs[i]? = some q → cs[i]? = some c → H q = some (.tup (c.map V.int))) → DpAll K H (qs.map V.ref) (cs.map tupD)
  | [], [], _, _ => .nil
  | [], _ :: _, n, _ => absurd n (by simp)
  | _ :: _, [], n, _ => absurd n (by simp)
  | q :: qs, c :: cs, n, t => .cons (.tup (SqT.of (t 0 q c rfl rfl)) (dp_ints c)) (dp_tups (Nat.succ.inj n) fun i q c hq hc => t (i + 1) q c hq hc)
end
theorem shape_lst (l : List Int) : SeqAt.shaped (lstD l) = true := by
  unfold SeqAt.shaped
  rw [lay_lst, decide_eq_true (Nat.le_trans (dep_lst l) (by decide))]
  rfl

/-! ### how many choices of counts, as plain functions -/
def sm (f : Int → Int) : Nat → Int
  | 0 => 0
  | n + 1 => sm f n + f n
theorem sm_congr {f g : Int → Int} : ∀ n : Nat, (∀ i : Int, 0 ≤ i → i < n → f i = g i) → sm f n = sm g n
  | 0, _ => rfl
  | n + 1, h => by
    show sm f n + f n = sm g n + g n
    rw [sm_congr n fun i a b => h i a (by omega), h n (by omega) (by omega)]
theorem sm_nil : ∀ (n : Nat) (f : Int → Int), (∀ i : Int, 0 ≤ i → i < n → f i = 0) → sm f n = 0
  | 0, _, _ => rfl
  | n + 1, f, h => by
    show sm f n + f n = 0
    rw [sm_nil n f fun i a b => h i a (by omega), h n (by omega) (by omega)]
    rfl
theorem sm_add (f g : Int → Int) : ∀ n : Nat, sm (fun i => f i + g i) n = sm f n + sm g n
  | 0 => rfl
  | n + 1 => by
    show sm (fun i => f i + g i) n + (f n + g n) = (sm f n + f n) + (sm g n + g n)
    rw [sm_add f g n]
    omega
theorem sm_swap (G : Int → Int → Int) (m : Nat) : ∀ n : Nat, sm (fun i => sm (fun j => G i j) m) n = sm (fun j => sm (fun i => G i j) n) m
  | 0 => (sm_nil m _ fun _ _ _ => rfl).symm
  | n + 1 => by
    show sm (fun i => sm (fun j => G i j) m) n + sm (fun j => G n j) m = sm (fun j => sm (fun i => G i j) n + G n j) m
    rw [sm_swap G m n, sm_add]
theorem sm_first (f : Int → Int) : ∀ n : Nat, sm f (n + 1) = f 0 + sm (fun k => f (k + 1)) n
  | 0 => by
    show 0 + f (0 : Nat) = f 0 + 0
    rw [Int.zero_add, Int.add_zero]
    rfl
  | n + 1 => by
    show sm f (n + 1) + f ((n + 1 : Nat) : Int) = f 0 + (sm (fun k => f (k + 1)) n + f ((n : Int) + 1))
    rw [sm_first f n, show ((n + 1 : Nat) : Int) = (n : Int) + 1 from rfl]
    omega
theorem sm_split (f : Int → Int) (n : Nat) : ∀ m : Nat, sm f (n + m) = sm f n + sm (fun k => f (n + k)) m
  | 0 => by
    show sm f n = sm f n + 0
    omega
  | m + 1 => by
    show sm f (n + m) + f ((n + m : Nat) : Int) = sm f n + (sm (fun k => f (n + k)) m + f ((n : Int) + (m : Nat)))
    rw [sm_split f n m, show ((n + m : Nat) : Int) = (n : Int) + (m : Int) from Int.natCast_add n m]
    omega
theorem sm_back (f : Int → Int) : ∀ n : Nat, sm f n = sm (fun k => f (n - 1 - k)) n
  | 0 => rfl
  | n + 1 => by
    rw [sm_first (fun k => f (((n + 1 : Nat) : Int) - 1 - k)) n]
    show sm f n + f n = f (((n + 1 : Nat) : Int) - 1 - 0) + sm (fun k => f (((n + 1 : Nat) : Int) - 1 - (k + 1))) n
    rw [sm_back f n, show ((n + 1 : Nat) : Int) - 1 - 0 = n by omega, sm_congr n (f := fun k => f (((n + 1 : Nat) : Int) - 1 - (k + 1))) (g := fun k => f (n - 1 - k)) fun i _ _ => congrArg f (by omega)]
    omega
def wstep (l : Nat) (F : Int → Int) (t : Int) : Int := sm (fun k => F (t - k)) (l + 1)
def w0 (t : Int) : Int := if t = 0 then 1 else 0
def wFrom (F : Int → Int) (ls : List Int) : Int → Int := ls.foldl (fun F l => wstep l.toNat F) F
def wAll (ls : List Int) : Int → Int := wFrom w0 ls
theorem wAll_snoc (xs : List Int) (x : Int) : wAll (xs ++ [x]) = wstep x.toNat (wAll xs) := by
  unfold wAll wFrom
  rw [List.foldl_append]
  rfl
theorem wstep_comm (a b : Nat) (F : Int → Int) : wstep a (wstep b F) = wstep b (wstep a F) := by
  funext t
  show sm (fun i => sm (fun j => F (t - i - j)) (b + 1)) (a + 1) = sm (fun j => sm (fun i => F (t - j - i)) (a + 1)) (b + 1)
  rw [sm_swap]
  exact sm_congr _ fun j _ _ => sm_congr _ fun i _ _ => congrArg F (by omega)
theorem wFrom_in : ∀ (ls : List Int) (a : Nat) (F : Int → Int), wFrom (wstep a F) ls = wstep a (wFrom F ls)
  | [], _, _ => rfl
  | l :: r, a, F => by
    show wFrom (wstep l.toNat (wstep a F)) r = wstep a (wFrom (wstep l.toNat F) r)
    rw [wstep_comm, wFrom_in r a]
theorem wFrom_append (F : Int → Int) (a b : List Int) : wFrom F (a ++ b) = wFrom (wFrom F a) b := List.foldl_append
theorem wAll_reverse : ∀ ls : List Int, wAll ls.reverse = wAll ls
  | [] => rfl
  | l :: r => by
    rw [List.reverse_cons, wAll_snoc, wAll_reverse r]
    exact (wFrom_in r l.toNat w0).symm
/-- it is 0 below 0 and above S, and the same from both ends -/
structure Tall (F : Int → Int) (S : Int) : Prop where
  lo : ∀ t, t < 0 → F t = 0
  hi : ∀ t, S < t → F t = 0
  sy : ∀ t, F (S - t) = F t
theorem tall0 : Tall w0 0 := by
  refine ⟨fun t h => if_neg (by omega), fun t h => if_neg (by omega), fun t => ?_⟩
  unfold w0
  by_cases e : t = 0
  · rw [if_pos e, if_pos (by omega)]
  · rw [if_neg e, if_neg (by omega)]
theorem tall_step {F : Int → Int} {S : Int} (h : Tall F S) (l : Nat) : Tall (wstep l F) (S + l) := by
  refine ⟨fun t ht => sm_nil _ _ fun i a b => h.lo _ (by omega), fun t ht => sm_nil _ _ fun i a b => h.hi _ (by omega), fun t => ?_⟩
  show sm (fun k => F (S + l - t - k)) (l + 1) = sm (fun k => F (t - k)) (l + 1)
  rw [sm_back (fun k => F (t - k))]
  refine sm_congr _ fun i a b => ?_
  show F (S + l - t - i) = F (t - (((l + 1 : Nat) : Int) - 1 - i))
  rw [← h.sy]
  exact congrArg F (by omega)
theorem tall_from : ∀ (ls : List Int) (F : Int → Int) (S : Int), Tall F S → (∀ l ∈ ls, 0 ≤ l) → Tall (wFrom F ls) (S + ls.sum)
  | [], F, S, h, _ => by
    rw [List.sum_nil, Int.add_zero]
    exact h
  | l :: r, F, S, h, p => by
    rw [List.sum_cons]
    have hl := p l List.mem_cons_self
    have e : S + (l + r.sum) = S + (l.toNat : Int) + r.sum := by omega
    rw [e]
    exact tall_from r _ _ (tall_step h l.toNat) fun x hx => p x (List.mem_cons_of_mem _ hx)
theorem tall_all (ls : List Int) (p : ∀ l ∈ ls, 0 ≤ l) : Tall (wAll ls) ls.sum := by
  have h := tall_from ls w0 0 tall0 p
  rw [Int.zero_add] at h
  exact h
theorem wstep_next (l : Nat) (F : Int → Int) (t : Int) : wstep l F t = wstep l F (t - 1) + F t - F (t - 1 - l) := by
  have e : wstep l F t = F t + sm (fun k => F (t - 1 - k)) l := by
    show sm (fun k => F (t - k)) (l + 1) = _
    rw [sm_first (fun k => F (t - k)) l]
    show F (t - 0) + sm (fun k => F (t - (k + 1))) l = _
    rw [Int.sub_zero, sm_congr l (f := fun k => F (t - (k + 1))) (g := fun k => F (t - 1 - k)) fun i _ _ => congrArg F (by omega)]
  rw [e]
  show F t + sm (fun k => F (t - 1 - k)) l = (sm (fun k => F (t - 1 - k)) l + F (t - 1 - l)) + F t - F (t - 1 - l)
  omega
/-- the table of the first n -/
def tab (F : Int → Int) (n : Nat) : List Int := (List.range n).map fun i : Nat => F (i : Int)
theorem tab_len (F : Int → Int) (n : Nat) : (tab F n).length = n := by
  unfold tab
  rw [List.length_map, List.length_range]
theorem tab_at {F : Int → Int} {n i : Nat} (h : i < n) : (tab F n)[i]? = some (F (i : Int)) := by
  unfold tab
  rw [List.getElem?_map, List.getElem?_range h]
  rfl
theorem tab_snoc (F : Int → Int) (n : Nat) : tab F (n + 1) = tab F n ++ [F (n : Int)] := by
  unfold tab
  rw [List.range_succ, List.map_append]
  rfl
theorem tab_cut (F : Int → Int) (n a : Nat) : ∀ k : Nat, a + k ≤ n → (((tab F n).drop a).take k).sum = sm (fun j => F (a + j)) k
  | 0, _ => by
    rw [List.take_zero]
    rfl
  | k + 1, h => by
    rw [List.take_add_one, List.sum_append, tab_cut F n a k (by omega), List.getElem?_drop, tab_at (by omega)]
    show sm (fun j => F (a + j)) k + ([F ((a + k : Nat) : Int)] : List Int).sum = sm (fun j => F (a + j)) k + F (a + (k : Nat))
    rw [List.sum_cons, List.sum_nil, Int.add_zero, Int.natCast_add]
/-- a sum of a slice is a step -/
theorem cut_step {F : Int → Int} {S : Int} (h : Tall F S) {n t l : Nat} (ht : t < n) : (((tab F n).drop (t - l)).take (t + 1 - (t - l))).sum = wstep l F t := by
  rw [tab_cut F n _ _ (by omega)]
  show _ = sm (fun k => F ((t : Int) - k)) (l + 1)
  by_cases c : l ≤ t
  · rw [show t + 1 - (t - l) = l + 1 by omega, sm_back (fun k => F ((t : Int) - k))]
    exact sm_congr _ fun i a b => congrArg F (by omega)
  · rw [show t - l = 0 by omega, show l + 1 = (t + 1) + (l - t) by omega, sm_split, sm_nil (l - t) (fun k => F ((t : Int) - (((t + 1 : Nat) : Int) + k))) fun i a b => h.lo _ (by omega), Int.add_zero, sm_back (fun k => F ((t : Int) - k))]
    exact sm_congr _ fun i a b => congrArg F (by omega)
theorem tab_w0 (n : Nat) : tab w0 (n + 1) = 1 :: List.replicate n 0 := by
  induction n with
  | zero => rfl
  | succ n ih =>
    rw [tab_snoc, ih, List.replicate_succ', List.cons_append]
    have e : w0 ((n + 1 : Nat) : Int) = 0 := if_neg (by omega)
    rw [e]

theorem sum_le : ∀ xs : List Int, (∀ l ∈ xs, 0 ≤ l ∧ l ≤ 60) → 0 ≤ xs.sum ∧ xs.sum ≤ 60 * (xs.length : Int)
  | [], _ => ⟨Int.le_refl _, Int.le_refl _⟩
  | x :: r, h => by
    have a := h x List.mem_cons_self
    have b := sum_le r fun l hl => h l (List.mem_cons_of_mem _ hl)
    rw [List.sum_cons, List.length_cons]
    omega
theorem tab_ix {F : Int → Int} {n i : Nat} (h : i < n) : ((tab F n).map V.int)[i]? = some (.int (F (i : Int))) := by
  rw [List.getElem?_map, tab_at h]
  rfl
structure Lens (xs : List Int) : Prop where
  b : ∀ l ∈ xs, 0 ≤ l ∧ l ≤ 60
  n : xs.length ≤ 60
theorem Lens.take {xs : List Int} (h : Lens xs) (i : Nat) : Lens (xs.take i) := ⟨fun l hl => h.b l (List.mem_of_mem_take hl), Nat.le_trans (List.length_take_le' i xs) h.n⟩
theorem Lens.sum {xs : List Int} (h : Lens xs) : 0 ≤ xs.sum ∧ xs.sum ≤ 3600 := by
  have a := sum_le xs h.b
  have b := h.n
  omega
theorem Lens.tall {xs : List Int} (h : Lens xs) : Tall (wAll xs) xs.sum := tall_all xs fun l hl => (h.b l hl).1
def spOne (K : PySem.W.Frag) : Sp := fun vs H Q _ => ∃ (a : Addr) (F : Int → Int) (n : Nat) (l : Int), vs = [.ref a, .int l] ∧ SqL K H a ((tab F n).map V.int) ∧ (∀ t, t < 0 → F t = 0) ∧ (∀ t : Int, (n : Int) ≤ t → F t = 0) ∧ 0 < n ∧ n ≤ 100000 ∧ 0 ≤ l ∧ l ≤ 1000 ∧
  ∀ (H' : Hp) (q : Addr), Same H H' → H' q = some (.lst ((tab (wstep l.toNat F) (n + l.toNat)).map V.int)) → Q (.ref q) H'
def spWays (K : PySem.W.Frag) : Sp := fun vs H Q _ => ∃ (a : Addr) (xs : List Int), vs = [.ref a] ∧ SqL K H a (xs.map V.int) ∧ Lens xs ∧
  ∀ (H' : Hp) (q : Addr), Same H H' → H' q = some (.lst ((tab (wAll xs) (xs.sum.toNat + 1)).map V.int)) → Q (.ref q) H'
def spHow (K : PySem.W.Frag) : Sp := fun vs H Q _ => ∃ (a : Addr) (xs : List Int) (t : Int), vs = [.ref a, .int t] ∧ SqL K H a (xs.map V.int) ∧ Lens xs ∧
  ∀ (H' : Hp), Same H H' → Q (.int (wAll xs t)) H'
def spLways (K : PySem.W.Frag) : Sp := fun vs H Q _ => ∃ (a : Addr) (xs : List Int) (t : Int), vs = [.ref a, .int t] ∧ SqL K H a (xs.map V.int) ∧ Lens xs ∧ 0 ≤ t ∧ t ≤ 10000 ∧
  ∀ (H' : Hp), Same H H' → Q (.int (wAll xs t)) H'
theorem cut_tab {F : Int → Int} {n t l : Nat} (ht : t < n) (lo : Int) (hlo : lo = ((t - l : Nat) : Int)) (hi : Int) (hhi : hi = ((t + 1 : Nat) : Int)) :
    cutV ((tab F n).map V.int) (some lo) (some hi) = (((tab F n).drop (t - l)).take (t + 1 - (t - l))).map V.int := by
  subst hlo hhi
  unfold cutV
  rw [HT.sIx_nat, HT.sIx_nat, List.length_map, tab_len, show min (t - l) n = t - l by omega, show min (t + 1) n = t + 1 by omega, List.map_take, List.map_drop]
theorem flat_zeros : ∀ k : Nat, (List.replicate k [V.int 0]).flatten = (List.replicate k (0 : Int)).map V.int
  | 0 => rfl
  | k + 1 => by
    rw [List.replicate_succ, List.flatten_cons, flat_zeros k, List.replicate_succ]
    rfl
theorem start_tab (k : Nat) : [V.int 1] ++ (List.replicate k [V.int 0]).flatten = (tab w0 (k + 1)).map V.int := by
  rw [flat_zeros, tab_w0]
  rfl
theorem flat_same (x : V) : ∀ k : Nat, (List.replicate k [x]).flatten = List.replicate k x
  | 0 => rfl
  | k + 1 => by
    rw [List.replicate_succ, List.flatten_cons, flat_same x k, List.replicate_succ]
    rfl
section
variable {P : Program} {w : World} {K : PySem.W.Frag} {mg : Str → Option Value} {base : Heap}
theorem has_one (T : Top K mg) : Has P w K mg base 1 "_with_one_more" ["many", "length"] (spOne K) := by
  refine has_of T.d__with_one_more sc__with_one_more bd__with_one_more (fun vs H Q E h => ?_) (fun f cdv A outer s H vs Q E hr h => ?_)
  · obtain ⟨a, F, n, l, rfl, _⟩ := h
    rfl
  · have hu := hu_of hr
    have nd := sc__with_one_more.nd
    obtain ⟨a, F, n, l, rfl, hS, f0, f1, n0, n1, l0, l1, k⟩ := h
    refine ⟨_, (pss_cons (ps_set (i := 2) nd rfl (.inl rfl) (pe_lst pa_nil))
    (pss_cons (ps_set (i := 3) nd rfl (.inl rfl) pe_int)
    (pss_cons (ps_for PassesOwn.never rfl (pi_range1 (by rfl) T.b_range (pa_cons (pe_op op_add (pe_callB call_len_seq (by rfl) T.b_len (by decide +kernel) (pa_cons (pv 0) pa_nil)) (pv 1)) pa_nil)) (pg_name (i := 4) nd rfl (.inl rfl))
      (C8.pss_cut (ps_if (pt_cmpR op_lt (pv 4) (pe_callB call_len_seq (by rfl) T.b_len (by decide +kernel) (pa_cons (pv 0) pa_nil)) (nomark _)) (pss_one (ps_aug (i := 3) nd rfl (.inl rfl) (pe_ix ix_list (pv 0) (pv 4) (fun _ _ => rfl)) ip_add)) pss_nil)
    (C8.pss_cut (ps_if (pt_cmpR op_gt (pv 4) (pv 1) (nomark _)) (pss_one (ps_aug (i := 3) nd rfl (.inl rfl) (pe_ix ix_list (pv 0) (pe_op op_sub (pe_op op_sub (pv 4) (pv 1)) pe_int) (fun _ _ => rfl)) ip_sub)) pss_nil)
    (pss_one (ps_expr (pe_bm PySem.F.plainAttrs_list PySem.F.slot_list_append PySem.F.type_list_append mt_append (pv 2) (pa_cons (pv 3) pa_nil)))))))
    (pss_one (ps_ret (pv 2)))))), ?_⟩
    have line : 1000000 < sizeLine := by decide
    refine ⟨by show 0 ≤ sizeLine; decide, fun D hD => ?_⟩
    have hS1 : SqL K (upd H D (.lst [])) a ((tab F n).map V.int) := (same_new hD).seq hS
    have lm : ((tab F n).map V.int).length = n := by rw [List.length_map, tab_len]
    refine ⟨_, rfl, a, _, rfl, .inl hS1, _, rfl, _, _, rfl, rfl, _, rfl, ?_, ?_, for_range (lo := 0) (fun i σ H' => ∃ v4, σ = [some (.ref a), some (.int l), some (.ref D), some (.int (wstep l.toNat F ((i : Int) - 1))), v4] ∧ Same H H' ∧
      H' D = some (.lst ((tab (wstep l.toNat F) i).map V.int))) ⟨none, ?_, same_new hD, upd_same⟩ ?_ ?_⟩
    · rw [lm]
      omega
    · rw [lm]
      omega
    · have e : wstep l.toNat F (((0 : Nat) : Int) - 1) = 0 := sm_nil _ _ fun j a b => f0 _ (by omega)
      rw [e]
      rfl
    · rintro i σ H1 hi ⟨v4, rfl, s1, h1⟩
      rw [lm] at hi
      have hi2 : i < n + l.toNat := by omega
      have hS2 := s1.seq hS
      refine ⟨fun σ' H' => H' = H1 ∧ σ' = [some (.ref a), some (.int l), some (.ref D), some (.int (wstep l.toNat F ((i : Int) - 1) + F i)), some (.int (0 + i))], ?_, ?_⟩
      · refine ⟨_, rfl, _, rfl, a, _, rfl, .inl hS2, _, _, rfl, rfl, _, rfl, ite2 (fun c => ?_) (fun c => ?_)⟩
        · have c' : (0 : Int) + i < (((tab F n).map V.int).length : Int) := of_decide_eq_true c
          rw [lm] at c'
          refine ⟨_, rfl, _, rfl, _, rfl, a, _, _, _, rfl, rfl, hS2, at_of (j := i) (by omega) (tab_ix (by omega)), _, _, rfl, rfl, rfl, rfl⟩
        · have c' : ¬ (0 : Int) + i < (((tab F n).map V.int).length : Int) := fun z => c (decide_eq_true z)
          rw [lm] at c'
          refine ⟨rfl, ?_⟩
          rw [f1 i (by omega), Int.add_zero]
          rfl
      · rintro σ' H' ⟨rfl, rfl⟩
        refine ⟨fun σ' H'' => H'' = H' ∧ σ' = [some (.ref a), some (.int l), some (.ref D), some (.int (wstep l.toNat F (i : Int))), some (.int (0 + i))], ?_, ?_⟩
        · refine ⟨_, rfl, _, rfl, _, _, rfl, rfl, _, rfl, ite2 (fun c => ?_) (fun c => ?_)⟩
          · have c' : l < (0 : Int) + i := of_decide_eq_true c
            refine ⟨_, rfl, _, rfl, _, rfl, _, rfl, _, _, rfl, rfl, _, _, rfl, rfl, a, _, _, _, rfl, rfl, hS2, at_of (j := i - l.toNat - 1) (by omega) (tab_ix (by omega)), _, _, rfl, rfl, rfl, ?_⟩
            rw [wstep_next l.toNat F i, show ((i - l.toNat - 1 : Nat) : Int) = (i : Int) - 1 - (l.toNat : Int) by omega]
            rfl
          · have c' : ¬ l < (0 : Int) + i := fun z => c (decide_eq_true z)
            refine ⟨rfl, ?_⟩
            rw [wstep_next l.toNat F i, f0 ((i : Int) - 1 - (l.toNat : Int)) (by omega), Int.sub_zero]
        · rintro σ' H'' ⟨rfl, rfl⟩
          refine ⟨_, rfl, .inl ⟨rfl, _, SqL.of h1⟩, _, rfl, D, _, _, rfl, rfl, h1, ?_, some (.int (0 + i)), ?_, same_mut s1 hD, ?_⟩
          · rw [List.length_map, tab_len]
            omega
          · rw [show ((i + 1 : Nat) : Int) - 1 = i by omega]
          · rw [upd_same, tab_snoc, List.map_append]
            rfl
    · rintro σ H1 ⟨v4, rfl, s1, h1⟩
      rw [lm, show ((n : Int) + l).toNat = n + l.toNat by omega] at h1
      exact ⟨_, rfl, k H1 D s1 h1⟩
theorem has_ways (T : Top K mg) (h__with_one_more : Has P w K mg base 1 "_with_one_more" ["many", "length"] (spOne K)) : Has P w K mg base 2 "ways" ["lens"] (spWays K) := by
  refine has_of T.d_ways sc_ways bd_ways (fun vs H Q E h => ?_) (fun f cdv A outer s H vs Q E hr h => ?_)
  · obtain ⟨a, xs, rfl, _⟩ := h
    rfl
  · have hu := hu_of hr
    have nd := sc_ways.nd
    obtain ⟨a, xs, rfl, hS, hl, k⟩ := h
    refine ⟨_, (pss_cons (ps_set (i := 1) nd rfl (.inl rfl) (pe_lst (pa_cons pe_int pa_nil)))
    (pss_cons (ps_for PassesOwn.never rfl (pi_list (pv 0)) (pg_name (i := 2) nd rfl (.inl rfl))
      (pss_one (ps_set (i := 1) nd rfl (.inl rfl) (pe_has h__with_one_more (hr.mono (by omega)) (by rfl) (pa_cons (pv 1) (pa_cons (pv 2) pa_nil))))))
    (pss_one (ps_ret (pv 1))))), ?_⟩
    refine ⟨by show 1 ≤ sizeLine; decide, fun D hD => ?_⟩
    refine ⟨_, rfl, a, rfl, ⟨_, (same_new hD).seq hS⟩, for_list (K := K) (a := a) (xs := xs.map V.int) (fun i σ H' => ∃ q v2, σ = [some (.ref a), some (.ref q), v2] ∧ Same H H' ∧ H' q = some (.lst ((tab (wAll (xs.take i)) ((xs.take i).sum.toNat + 1)).map V.int)))
      ⟨D, none, rfl, same_new hD, upd_same⟩ ?_ ?_ ?_⟩
    · rintro i σ H1 _ ⟨q, v2, _, s1, _⟩
      exact s1.seq hS
    · rintro i x σ H1 hi ⟨q, v2, rfl, s1, h1⟩
      obtain ⟨z, rfl, hz⟩ := int_at hi
      have tl := (hl.take i).tall
      have ts := (hl.take i).sum
      have bz := hl.b z (List.mem_of_getElem? hz)
      refine ⟨_, rfl, _, rfl, q, wAll (xs.take i), (xs.take i).sum.toNat + 1, z, rfl, SqL.of h1, tl.lo, fun t ht => tl.hi t (by omega), by omega, by omega, by omega, by omega, fun H2 q2 s2 h2 => ⟨q2, _, rfl, s1.trans s2, ?_⟩⟩
      rw [take_snoc hz, wAll_snoc, List.sum_append, List.sum_cons, List.sum_nil, show ((xs.take i).sum + (z + 0)).toNat + 1 = (xs.take i).sum.toNat + 1 + z.toNat by omega]
      exact h2
    · rintro σ H1 ⟨q, v2, rfl, s1, h1⟩
      rw [List.length_map, List.take_length] at h1
      exact ⟨_, rfl, k H1 q s1 h1⟩
theorem has_how (T : Top K mg) (h_ways : Has P w K mg base 2 "ways" ["lens"] (spWays K)) : Has P w K mg base 3 "how_many" ["lens", "total"] (spHow K) := by
  refine has_of T.d_how_many sc_how_many bd_how_many (fun vs H Q E h => ?_) (fun f cdv A outer s H vs Q E hr h => ?_)
  · obtain ⟨a, xs, t, rfl, _⟩ := h
    rfl
  · have hu := hu_of hr
    have nd := sc_how_many.nd
    obtain ⟨a, xs, t, rfl, hS, hl, k⟩ := h
    refine ⟨_, (pss_cons (ps_set (i := 2) nd rfl (.inl rfl) (pe_has h_ways (hr.mono (by omega)) (by rfl) (pa_cons (pv 0) pa_nil)))
    (pss_cons (ps_if (pt_chain op_le op_lt pe_int (pv 1) (pe_callB call_len_seq (by rfl) T.b_len (by decide +kernel) (pa_cons (pv 2) pa_nil))) (pss_one (ps_ret (pe_ix ix_list (pv 2) (pv 1) (fun _ _ => rfl)))) pss_nil)
    (pss_one (ps_ret pe_int)))), ?_⟩
    have tl := hl.tall
    have ts := hl.sum
    refine ⟨_, rfl, a, xs, rfl, hS, hl, fun H1 q s1 h1 => ?_⟩
    have lm : ((tab (wAll xs) (xs.sum.toNat + 1)).map V.int).length = xs.sum.toNat + 1 := by rw [List.length_map, tab_len]
    refine ⟨_, rfl, _, _, rfl, rfl, _, rfl, ite2 (fun c1 => ?_) (fun c1 => ?_)⟩
    · have c1' : 0 ≤ t := of_decide_eq_true c1
      refine ⟨_, rfl, q, _, rfl, .inl (SqL.of h1), _, _, rfl, rfl, _, rfl, ?_⟩
      rw [lm]
      refine ite2 (fun c2 => ?_) (fun c2 => ?_)
      · have c2' : t < ((xs.sum.toNat + 1 : Nat) : Int) := of_decide_eq_true c2
        refine ⟨_, rfl, _, rfl, q, _, _, _, rfl, rfl, SqL.of h1, at_of (j := t.toNat) (by omega) (tab_ix (by omega)), ?_⟩
        rw [show ((t.toNat : Nat) : Int) = t by omega]
        exact k H1 s1
      · have c2' : ¬ t < ((xs.sum.toNat + 1 : Nat) : Int) := fun z => c2 (decide_eq_true z)
        have e := tl.hi t (by omega)
        rw [e] at k
        exact k H1 s1
    · have c1' : ¬ 0 ≤ t := fun z => c1 (decide_eq_true z)
      have e := tl.lo t (by omega)
      rw [e] at k
      exact ⟨_, rfl, iteF (k H1 s1)⟩
theorem has_lways (T : Top K mg) : Has P w K mg base 1 "_law_ways" ["_law_lens_here", "_law_total"] (spLways K) := by
  refine has_of T.d__law_ways sc__law_ways bd__law_ways (fun vs H Q E h => ?_) (fun f cdv A outer s H vs Q E hr h => ?_)
  · obtain ⟨a, xs, t, rfl, _⟩ := h
    rfl
  · have hu := hu_of hr
    have nd := sc__law_ways.nd
    obtain ⟨a, xs, t, rfl, hS, hl, t0, t1, k⟩ := h
    refine ⟨_, (pss_cons (ps_set (i := 2) nd rfl (.inr rfl) (pe_op op_cat (pe_lst (pa_cons pe_int pa_nil)) (pe_op op_rep (pe_lst (pa_cons pe_int pa_nil)) (pv 1))))
    (pss_cons (ps_for PassesOwn.never rfl (pi_list (pv 0)) (pg_name (i := 3) nd rfl (.inr rfl))
      (pss_one (ps_set (i := 2) nd rfl (.inr rfl) (pe_lc (own := [("_law_at", 4)]) (by rfl) nd (pi_range1 (by rfl) T.b_range (pa_cons (pe_op op_add (pv 1) pe_int) pa_nil)) (blkOk_by (own := [("_law_at", 4)]) (N := nm__law_ways) (sc := defScope s__law_ways) (by decide +kernel)) (fun _ _ _ _ _ => pg_name (i := 4) nd rfl (.inl rfl)) (fun _ _ _ _ _ => pts_nil) (fun _ _ _ _ _ => (pe_callB (cr_sumK (K := K) rfl rfl) (by rfl) T.b_sum (by decide +kernel) (pa_cons (pe_slice (sl_listK (K := K) rfl) (pv 2) (po_some (pe_callB (call_max2 rfl) (by rfl) T.b_max (by decide +kernel) (pa_cons pe_int (pa_cons (pe_op op_sub (pv 4) (pv 3)) pa_nil)))) (po_some (pe_op op_add (pv 4) pe_int))) pa_nil)))))))
    (pss_one (ps_ret (pe_ix ix_list (pv 2) (pv 1) (fun _ _ => rfl)))))), ?_⟩
    have line : 1000000 < sizeLine := by decide
    refine ⟨by show 1 ≤ sizeLine; decide, fun d1 h1 => ⟨by show 1 ≤ sizeLine; decide, fun d2 h2 => ⟨_, rfl, d2, t, [V.int 0], rfl, rfl, upd_same, by omega, by omega, by show 1 * t.toNat ≤ sizeLine; omega, fun d3 h3 => ?_⟩⟩⟩
    have g1 : (upd (upd (upd H d1 (.lst [V.int 1])) d2 (.lst [V.int 0])) d3 (.lst (List.replicate t.toNat [V.int 0]).flatten)) d1 = some (.lst [V.int 1]) := same_new h3 _ _ (same_new h2 _ _ upd_same)
    have s3 : Same H (upd (upd (upd H d1 (.lst [V.int 1])) d2 (.lst [V.int 0])) d3 (.lst (List.replicate t.toNat [V.int 0]).flatten)) := (same_new h1).trans ((same_new h2).trans (same_new h3))
    refine ⟨d1, d3, _, _, rfl, rfl, g1, upd_same, ?_, fun D hD => ?_⟩
    · rw [flat_zeros, List.length_map, List.length_replicate]
      show 1 + t.toNat ≤ sizeLine
      omega
    rw [start_tab]
    refine ⟨_, rfl, a, rfl, ⟨_, (s3.trans (same_new hD)).seq hS⟩, for_list (K := K) (a := a) (xs := xs.map V.int) (fun i σ H' => ∃ q v3 v4, σ = [some (.ref a), some (.int t), some (.ref q), v3, v4] ∧ Same H H' ∧ H' q = some (.lst ((tab (wAll (xs.take i)) (t.toNat + 1)).map V.int)))
      ⟨D, none, none, rfl, s3.trans (same_new hD), upd_same⟩ ?_ ?_ ?_⟩
    · rintro i σ H1 _ ⟨q, v3, v4, _, s1, _⟩
      exact s1.seq hS
    · rintro i x σ H1 hi ⟨q, v3, v4, rfl, s1, hq⟩
      obtain ⟨z, rfl, hz⟩ := int_at hi
      have tl := (hl.take i).tall
      have bz := hl.b z (List.mem_of_getElem? hz)
      refine ⟨_, rfl, _, _, rfl, rfl, _, rfl, by omega, by omega, fun E hE => lc_sel_range (fun _ => true) (fun j => .int (wstep z.toNat (wAll (xs.take i)) (j : Int))) hE (by omega) (fun j hj => ⟨rfl, fun H' s' R q => q H' (Same.refl _), fun _ H' s' R r => ?_⟩) fun H2 s2 h2 => ⟨E, _, _, rfl, s1.trans s2, ?_⟩⟩
      · refine ⟨_, rfl, _, rfl, _, rfl, _, _, rfl, rfl, _, _, rfl, _, rfl, _, rfl, _, _, rfl, rfl, _, rfl, q, _, rfl, SqL.of (s' _ _ hq), fun p hp => ⟨p, ((tab (wAll (xs.take i)) (t.toNat + 1)).drop (j - z.toNat)).take (j + 1 - (j - z.toNat)), rfl, ?_, ?_⟩⟩
        · rw [cut_tab (t := j) (l := z.toNat) (show j < t.toNat + 1 by omega) _ (by split <;> omega) _ (by omega)]
          exact SqL.of upd_same
        · rw [cut_step tl (show j < t.toNat + 1 by omega)]
          exact r _ (same_new hp)
      · rw [h2, filter_all, take_snoc hz, wAll_snoc]
        unfold tab
        rw [List.map_map, show (t + 1).toNat = t.toNat + 1 by omega]
        rfl
    · rintro σ H1 ⟨q, v3, v4, rfl, s1, hq⟩
      rw [List.length_map, List.take_length] at hq
      refine ⟨_, rfl, _, rfl, q, _, _, _, rfl, rfl, SqL.of hq, at_of (j := t.toNat) (by omega) (tab_ix (by omega)), ?_⟩
      rw [show ((t.toNat : Nat) : Int) = t by omega]
      exact k H1 s1
end
section
variable {P : Program} {w : World} {K : PySem.W.Frag} {mg : Str → Option Value} {base : Heap}
/-! ### drawn lens -/
def spLens : Sp := fun vs H Q _ => ∃ (t c : Addr) (n : Nat), vs = [.ref t] ∧ Tape H t c n ∧ n < 1000000 ∧
  ∀ (H' : Hp) (p : Addr) (xs : List Int), H p = none → H' p = some (.lst (xs.map V.int)) → Lens xs → Tape H' t c (n + 200) → Kp t H H' → Q (.ref p) H'
theorem has_lens (T : Top K mg) (h__law_draw : Has P w K mg base 1 "_law_draw" ["_law_tape", "_law_many"] spDraw) (h__law_pick : Has P w K mg base 2 "_law_pick" ["_law_tape", "_law_some"] (spPick K)) :
    Has P w K mg base 3 "_law_lens" ["_law_tape"] spLens := by
  refine has_of T.d__law_lens sc__law_lens bd__law_lens (fun vs H Q E h => ?_) (fun f cdv A outer s H vs Q E hr h => ?_)
  · obtain ⟨t, c, n, rfl, _⟩ := h
    rfl
  · have hu := hu_of hr
    have nd := sc__law_lens.nd
    obtain ⟨t, c, n, rfl, tp, hn, k⟩ := h
    refine ⟨_, (pss_cons (ps_if (pt_cmpR op_eq (pe_has h__law_draw (hr.mono (by omega)) (by rfl) (pa_cons (pv 0) (pa_cons pe_int pa_nil))) pe_int (nomark _)) (pss_one (ps_ret (pe_lc (own := [("_law_k", 2)]) (by rfl) nd (pi_range1 (by rfl) T.b_range (pa_cons (pe_op op_add pe_int (pe_has h__law_draw (hr.mono (by omega)) (by rfl) (pa_cons (pv 0) (pa_cons pe_int pa_nil)))) pa_nil)) (blkOk_by (own := [("_law_k", 2)]) (N := nm__law_lens) (sc := defScope s__law_lens) (by decide +kernel)) (fun _ _ _ _ _ => pg_name (i := 2) nd rfl (.inl rfl)) (fun _ _ _ _ _ => pts_nil) (fun _ _ _ _ _ => (pe_has h__law_pick (hr.mono (by omega)) (by rfl) (pa_cons (pv 0) (pa_cons (pe_lst (pa_cons pe_int (pa_cons pe_int (pa_cons pe_int (pa_cons pe_int (pa_cons (pe_has h__law_draw (hr.mono (by omega)) (by rfl) (pa_cons (pv 0) (pa_cons pe_int pa_nil))) pa_nil)))))) pa_nil))))))) pss_nil)
    (pss_cons (ps_set (i := 1) nd rfl (.inr rfl) (pe_has h__law_pick (hr.mono (by omega)) (by rfl) (pa_cons (pv 0) (pa_cons (pe_lst (pa_cons pe_int (pa_cons pe_int (pa_cons pe_int pa_nil)))) pa_nil))))
    (pss_one (ps_ret (pe_lc (own := [("_law_k", 2)]) (by rfl) nd (pi_range1 (by rfl) T.b_range (pa_cons (pe_op op_add pe_int (pe_has h__law_pick (hr.mono (by omega)) (by rfl) (pa_cons (pv 0) (pa_cons (pe_lst (pa_cons (pe_has h__law_draw (hr.mono (by omega)) (by rfl) (pa_cons (pv 0) (pa_cons pe_int pa_nil))) (pa_cons (pe_has h__law_draw (hr.mono (by omega)) (by rfl) (pa_cons (pv 0) (pa_cons pe_int pa_nil))) (pa_cons pe_int pa_nil)))) pa_nil)))) pa_nil)) (blkOk_by (own := [("_law_k", 2)]) (N := nm__law_lens) (sc := defScope s__law_lens) (by decide +kernel)) (fun _ _ _ _ _ => pg_name (i := 2) nd rfl (.inl rfl)) (fun _ _ _ _ _ => pts_nil) (fun _ _ _ _ _ => (pe_has h__law_draw (hr.mono (by omega)) (by rfl) (pa_cons (pv 0) (pa_cons (pv 1) pa_nil))))))))), ?_⟩
    have line : 1000000 < sizeLine := by decide
    refine ⟨_, rfl, t, c, _, n, rfl, tp, by omega, by decide, by decide +kernel, fun H1 r1 a1 b1 tp1 kp1 => ⟨rfl, _, rfl, ite2 (fun _ => ?_) (fun _ => ?_)⟩⟩
    · refine ⟨_, rfl, t, c, _, _, rfl, tp1, by omega, by decide, by decide +kernel, fun H2 r2 a2 b2 tp2 kp2 => ⟨_, _, rfl, rfl, _, rfl, by omega, by omega, fun D hD => lc_range (lo := 0) (fun i H' => Kp t H2 H' ∧ Tape H' t c (n + 2 + 2 * i) ∧ ∃ xs : List Int, xs.length = i ∧ (∀ l ∈ xs, 0 ≤ l ∧ l ≤ 60) ∧ H' D = some (.lst (xs.map V.int)))
        ⟨Kp.new hD, tp2.new hD, [], rfl, fun l hl => by simp at hl, upd_same⟩ ?_ ?_⟩⟩
      · have nDt : D ≠ t := tp2.fresh hD
        have nDc : D ≠ c := tp2.fresh_c hD
        rintro i H7 hi ⟨k7, tp7, xs, el, lb, h7⟩
        refine ⟨rfl, yes_go ?_⟩
        refine ⟨_, rfl, _, rfl, t, c, _, _, rfl, tp7, by omega, by decide, by decide +kernel, fun H4 r4 a4 b4 tp4 kp4 => ⟨by show 5 ≤ sizeLine; decide, fun e he => ?_⟩⟩
        refine ⟨t, c, e, _, _, rfl, tp4.new he, by omega, fun H' kp => .inl (SqL.of (kp e _ upd_same (tp4.fresh he))), by show 0 < 5; decide, by show 5 ≤ 1000000; decide, fun H8 i8 v8 g8 tp8 kp8 => ?_⟩
        obtain ⟨z8, rfl, m8⟩ := pick_int (zs := [0, 1, 2, 60, r4]) g8
        have k78 : Kp t H7 H8 := kp4.trans ((Kp.new he).trans kp8)
        have h8 := k78 D _ h7 nDt
        refine ⟨xs.map V.int, h8, ?_, (k7.trans k78).mut hD, (tp8.mut nDt nDc).le (by omega), xs ++ [z8], by rw [List.length_append, el]; rfl, fun l hl => ?_, ?_⟩
        · rw [List.length_map, el]
          omega
        · rcases List.mem_append.mp hl with m | m
          · exact lb l m
          · rw [List.mem_singleton.mp m]
            simp only [List.mem_cons, List.not_mem_nil, or_false] at m8
            omega
        · rw [upd_same, List.map_append]
          rfl
      · rintro H7 ⟨k7, tp7, xs, el, lb, h7⟩
        exact k H7 D xs ((kp1.trans kp2).free hD (tp2.fresh hD)) h7 ⟨lb, by omega⟩ (tp7.le (by omega)) ((kp1.trans kp2).trans k7)
    · refine ⟨_, rfl, by show 3 ≤ sizeLine; decide, fun e he => ?_⟩
      refine ⟨t, c, e, _, _, rfl, tp1.new he, by omega, fun H' kp => .inl (SqL.of (kp e _ upd_same (tp1.fresh he))), by show 0 < 3; decide, by show 3 ≤ 1000000; decide, fun H2 i2 v2 g2 tp2 kp2 => ?_⟩
      obtain ⟨z2, rfl, m2⟩ := pick_int (zs := [2, 2, 4]) g2
      have z2b : 0 < z2 ∧ z2 ≤ 4 := by
        simp only [List.mem_cons, List.not_mem_nil, or_false] at m2
        omega
      have k02 : Kp t H H2 := kp1.trans ((Kp.new he).trans kp2)
      refine ⟨_, rfl, _, rfl, t, c, _, _, rfl, tp2, by omega, by decide, by decide +kernel, fun H3 r3 a3 b3 tp3 kp3 => ⟨_, rfl, t, c, _, _, rfl, tp3, by omega, by decide, by decide +kernel, fun H4 r4 a4 b4 tp4 kp4 => ⟨by show 3 ≤ sizeLine; decide, fun e2 he2 => ?_⟩⟩⟩
      refine ⟨t, c, e2, _, _, rfl, tp4.new he2, by omega, fun H' kp => .inl (SqL.of (kp e2 _ upd_same (tp4.fresh he2))), by show 0 < 3; decide, by show 3 ≤ 1000000; decide, fun H5 i5 v5 g5 tp5 kp5 => ?_⟩
      obtain ⟨z5, rfl, m5⟩ := pick_int (zs := [r3, r4, 59]) g5
      have z5b : 0 ≤ z5 ∧ z5 ≤ 59 := by
        simp only [List.mem_cons, List.not_mem_nil, or_false] at m5
        omega
      have k05 : Kp t H H5 := k02.trans (kp3.trans (kp4.trans ((Kp.new he2).trans kp5)))
      refine ⟨_, _, rfl, rfl, _, rfl, by omega, by omega, fun D hD => lc_range (lo := 0) (fun i H' => Kp t H5 H' ∧ Tape H' t c (n + 6 + i) ∧ ∃ xs : List Int, xs.length = i ∧ (∀ l ∈ xs, 0 ≤ l ∧ l ≤ 60) ∧ H' D = some (.lst (xs.map V.int)))
        ⟨Kp.new hD, (tp5.new hD).le (by omega), [], rfl, fun l hl => by simp at hl, upd_same⟩ ?_ ?_⟩
      · have nDt : D ≠ t := tp5.fresh hD
        have nDc : D ≠ c := tp5.fresh_c hD
        rintro i H7 hi ⟨k7, tp7, xs, el, lb, h7⟩
        refine ⟨rfl, yes_go ?_⟩
        refine ⟨_, rfl, _, rfl, t, c, _, _, rfl, tp7, by omega, by omega, pow8000 (by omega), fun H8 r8 a8 b8 tp8 k78 => ?_⟩
        have h8 := k78 D _ h7 nDt
        refine ⟨xs.map V.int, h8, ?_, (k7.trans k78).mut hD, (tp8.mut nDt nDc).le (by omega), xs ++ [r8], by rw [List.length_append, el]; rfl, fun l hl => ?_, ?_⟩
        · rw [List.length_map, el]
          omega
        · rcases List.mem_append.mp hl with m | m
          · exact lb l m
          · rw [List.mem_singleton.mp m]
            omega
        · rw [upd_same, List.map_append]
          rfl
      · rintro H7 ⟨k7, tp7, xs, el, lb, h7⟩
        exact k H7 D xs (k05.free hD (tp5.fresh hD)) h7 ⟨lb, by omega⟩ (tp7.le (by omega)) (k05.trans k7)
end
theorem Lens.reverse {xs : List Int} (h : Lens xs) : Lens xs.reverse := ⟨fun l hl => h.b l (List.mem_reverse.mp hl), by rw [List.length_reverse]; exact h.n⟩
section
variable {P : Program} {w : World} {K : PySem.W.Frag} {mg : Str → Option Value} {base : Heap}
def spLaw (K : PySem.W.Frag) : Sp := fun vs H Q _ => ∃ (a : Addr) (ns : List Int), vs = [.ref a] ∧ SqL K H a (ns.map V.int) ∧ ns.length ≤ 63 ∧ ∀ H', Q (.bl true) H'
theorem ok_law {f : Addr} {fd : FuncData} (F : Fun K "law" "law" s_law f fd) (T : Top K mg) (h__law_begun : Has P w K mg base 1 "_law_begun" ["_law_script"] (spBegun K)) (h__law_draw : Has P w K mg base 1 "_law_draw" ["_law_tape", "_law_many"] spDraw)
    (h__law_pick : Has P w K mg base 2 "_law_pick" ["_law_tape", "_law_some"] (spPick K)) (h__law_lens : Has P w K mg base 3 "_law_lens" ["_law_tape"] spLens) (h_how_many : Has P w K mg base 3 "how_many" ["lens", "total"] (spHow K))
    (h__law_ways : Has P w K mg base 1 "_law_ways" ["_law_lens_here", "_law_total"] (spLways K)) : FnOk P w K mg base CX0 4 f fd ["_law_script"] (spLaw K) := by
  refine F.ok sc_law (fun vs H Q E h => ?_) (fun cdv A outer s H vs Q E hr h => ?_)
  · obtain ⟨a, ns, rfl, _⟩ := h
    rfl
  · have hu := hu_of hr
    have nd := sc_law.nd
    obtain ⟨a, ns, rfl, hS, hl, k⟩ := h
    refine ⟨_, (pss_cons (ps_set (i := 1) nd rfl (.inr rfl) (pe_has h__law_begun (hr.mono (by omega)) (by rfl) (pa_cons (pv 0) pa_nil)))
    (pss_cons (ps_for PassesOwn.never rfl (pi_range1 (by rfl) T.b_range (pa_cons pe_int pa_nil)) (pg_name (i := 2) nd rfl (.inl rfl))
      (pss_cons (ps_set (i := 3) nd rfl (.inl rfl) (pe_has h__law_lens (hr.mono (by omega)) (by rfl) (pa_cons (pv 1) pa_nil)))
    (pss_cons (ps_asg (pe_tup (pa_cons (pe_callTy call_list_of (by rfl) T.b_list (by decide +kernel) (pa_cons (pv 3) pa_nil)) (pa_cons (pe_callB (cr_sum rfl) (by rfl) T.b_sum (by decide +kernel) (pa_cons (pv 3) pa_nil)) pa_nil))) (pg_tup (by rfl) (pgs_cons (pg_name (i := 4) nd rfl (.inl rfl)) (pgs_cons (pg_name (i := 5) nd rfl (.inr rfl)) pgs_nil))))
    (pss_cons (ps_set (i := 6) nd rfl (.inl rfl) (pe_has h__law_pick (hr.mono (by omega)) (by rfl) (pa_cons (pv 1) (pa_cons (pe_lst (pa_cons pe_int (pa_cons pe_int (pa_cons (pv 5) (pa_cons (pe_op op_add (pv 5) pe_int) (pa_cons (pe_op op_fdivW (pv 5) pe_int) (pa_cons (pe_has h__law_draw (hr.mono (by omega)) (by rfl) (pa_cons (pv 1) (pa_cons (pe_op op_add (pv 5) pe_int) pa_nil))) (pa_cons (pe_has h__law_draw (hr.mono (by omega)) (by rfl) (pa_cons (pv 1) (pa_cons pe_int pa_nil))) pa_nil)))))))) pa_nil))))
    (pss_cons (ps_par (i := 7) (j := 8) (by rfl) nd rfl rfl (by decide) rfl rfl (pa_cons (pe_has h_how_many (hr.mono (by omega)) (by rfl) (pa_cons (pv 3) (pa_cons (pv 6) pa_nil))) (pa_cons (pe_has h__law_ways (hr.mono (by omega)) (by rfl) (pa_cons (pv 4) (pa_cons (pv 6) pa_nil))) pa_nil)) (by rfl))
    (pss_cons (ps_if (PW.pt (pw_or (pt_cmpR op_ne (pv 7) (pv 8) (nomark _)) (pw_or (pt_not (pt_val (pe_callB call_isi (by rfl) T.b_isinstance (by decide +kernel) (pa_cons (pv 7) (pa_cons (pe_bltn (v := .ty "int") (u := .type "int") (by rfl) T.b_int (by decide +kernel) (by rfl)) pa_nil))))) (pw_or (pt_val (pe_callB call_isi (by rfl) T.b_isinstance (by decide +kernel) (pa_cons (pv 7) (pa_cons (pe_bltn (v := .ty "bool") (u := .type "bool") (by rfl) T.b_bool (by decide +kernel) (by rfl)) pa_nil)))) (pw_or1 (pt_cmpR (op_neD hr.units) (pv 3) (pv 4) (nomark _))))))) (pss_one (ps_ret pe_bl)) pss_nil)
    (pss_one (ps_if (PW.pt (pw_and (pt_cmpR op_le (pv 6) (pv 5) (nomark _)) (pw_and1 (pt_cmpR op_ne (pe_has h_how_many (hr.mono (by omega)) (by rfl) (pa_cons (pe_revL (pv 4)) (pa_cons (pe_op op_sub (pv 5) (pv 6)) pa_nil))) (pv 8) (nomark _))))) (pss_one (ps_ret pe_bl)) pss_nil))))))))
    (pss_cons (ps_set (i := 9) nd rfl (.inl rfl) (pe_has h__law_pick (hr.mono (by omega)) (by rfl) (pa_cons (pv 1) (pa_cons (pe_lst (pa_cons pe_int (pa_cons pe_int (pa_cons pe_int (pa_cons pe_int pa_nil))))) pa_nil))))
    (pss_cons (ps_asg (pe_tup (pa_cons (pe_callB (call_min2 rfl) (by rfl) T.b_min (by decide +kernel) (pa_cons pe_int (pa_cons (pe_op op_fdivW pe_int (pv 9)) pa_nil))) (pa_cons (pe_has h__law_draw (hr.mono (by omega)) (by rfl) (pa_cons (pv 1) (pa_cons pe_int pa_nil))) pa_nil))) (pg_tup (by rfl) (pgs_cons (pg_name (i := 5) nd rfl (.inr rfl)) (pgs_cons (pg_name (i := 6) nd rfl (.inl rfl)) pgs_nil))))
    (pss_cons (ps_set (i := 10) nd rfl (.inl rfl) (pe_op op_rep (pe_lst (pa_cons (pe_has h__law_pick (hr.mono (by omega)) (by rfl) (pa_cons (pv 1) (pa_cons (pe_lst (pa_cons (pv 5) (pa_cons (pe_has h__law_draw (hr.mono (by omega)) (by rfl) (pa_cons (pv 1) (pa_cons (pe_op op_add (pv 5) pe_int) pa_nil))) pa_nil))) pa_nil))) pa_nil)) (pv 9)))
    (C8.pss_cut (ps_if (pt_cmpR op_eq (pe_has h__law_draw (hr.mono (by omega)) (by rfl) (pa_cons (pv 1) (pa_cons pe_int pa_nil))) pe_int (nomark _)) (pss_one (ps_setLc (i := 10) (own := [("_law_k", 11)]) (by rfl) nd rfl rfl (sw_true rfl rfl rfl (by decide +kernel)) (pi_range1 (by rfl) T.b_range (pa_cons (pv 9) pa_nil)) (blkOk_by (own := [("_law_k", 11)]) (N := nm_law) (sc := defScope s_law) (by decide +kernel)) (fun _ _ _ _ _ => pg_name (i := 11) nd rfl (.inl rfl)) (fun _ _ _ _ _ => pts_nil) (fun _ _ _ _ _ => (pe_has h__law_draw (hr.mono (by omega)) (by rfl) (pa_cons (pv 1) (pa_cons (pe_op op_add (pv 5) pe_int) pa_nil)))))) pss_nil)
    (pss_one (ps_ret (pe_cmpR op_eq (pe_has h_how_many (hr.mono (by omega)) (by rfl) (pa_cons (pe_callTy call_list_of (by rfl) T.b_list (by decide +kernel) (pa_cons (pv 10) pa_nil)) (pa_cons (pv 6) pa_nil))) (pe_ifExp (pt_cmpR op_le (pv 6) (pe_callB (cr_sum rfl) (by rfl) T.b_sum (by decide +kernel) (pa_cons (pv 10) pa_nil)) (nomark _)) (pe_has h__law_ways (hr.mono (by omega)) (by rfl) (pa_cons (pv 10) (pa_cons (pv 6) pa_nil))) pe_int) (nomark _)))))))))), ?_⟩
    have line : 1000000 < sizeLine := by decide
    refine ⟨_, rfl, a, ns, rfl, hS, hl, fun H1 t c ht hc sm tp => ?_⟩
    refine ⟨4, rfl, by decide, by decide, for_range (lo := 0) (n := 4) (fun i σ H2 => ∃ v2 v3 v4 v5 v6 v7 v8 v9 v10 v11, σ = [some (.ref a), some (.ref t), v2, v3, v4, v5, v6, v7, v8, v9, v10, v11] ∧ Tape H2 t c (300 * i)) ⟨none, none, none, none, none, none, none, none, none, none, rfl, tp⟩ ?_ ?_⟩
    · rintro i σ H2 hi ⟨v2, v3, v4, v5, v6, v7, v8, v9, v10, v11, rfl, tp2⟩
      refine ⟨_, rfl, t, c, _, rfl, tp2, by omega, fun H3 p xs np hp hL tp3 kp3 => ?_⟩
      have S := hL.sum
      refine ⟨_, rfl, p, _, rfl, .inl (SqL.of hp), fun q hq => ⟨_, rfl, p, xs, rfl, SqL.of (same_new hq _ _ hp), by show 2 ≤ sizeLine; decide, fun d hd => ⟨d, _, rfl, SqT.of upd_same, rfl, _, _, rfl, _, _, rfl, rfl, ?_⟩⟩⟩
      have hp4 : (upd (upd H3 q (.lst (xs.map V.int))) d (.tup [V.ref q, V.int xs.sum])) p = some (.lst (xs.map V.int)) := same_new hd _ _ (same_new hq _ _ hp)
      have hq4 : (upd (upd H3 q (.lst (xs.map V.int))) d (.tup [V.ref q, V.int xs.sum])) q = some (.lst (xs.map V.int)) := same_new hd _ _ upd_same
      have tp4 : Tape (upd (upd H3 q (.lst (xs.map V.int))) d (.tup [V.ref q, V.int xs.sum])) t c (300 * i + 200) := (tp3.new hq).new hd
      generalize upd (upd H3 q (.lst (xs.map V.int))) d (.tup [V.ref q, V.int xs.sum]) = H4 at hp4 hq4 tp4
      -- the total
      refine ⟨_, rfl, _, rfl, _, rfl, _, _, rfl, rfl, _, rfl, _, _, rfl, rfl, ⟨by decide, by decide⟩, _, rfl, _, rfl, _, _, rfl, rfl, t, c, _, _, rfl, tp4, by omega, by omega, pow8000 (by omega), fun H5 r5 a5 b5 tp5 kp5 => ?_⟩
      refine ⟨_, rfl, t, c, _, _, rfl, tp5, by omega, by decide, by decide +kernel, fun H6 r6 a6 b6 tp6 kp6 => ⟨by show 7 ≤ sizeLine; decide, fun e he => ?_⟩⟩
      refine ⟨t, c, e, _, _, rfl, tp6.new he, by omega, fun H' kp => .inl (SqL.of (kp e _ upd_same (tp6.fresh he))), by show 0 < 7; decide, by show 7 ≤ 1000000; decide, fun H7 i7 v7 g7 tp7 kp7 => ?_⟩
      obtain ⟨z, rfl, mz⟩ := pick_int (zs := [0, 1, xs.sum, xs.sum + 1, xs.sum / 2, r5, r6]) g7
      have zb : 0 ≤ z ∧ z ≤ 4000 := by
        simp only [List.mem_cons, List.not_mem_nil, or_false] at mz
        omega
      have k47 : Kp t H4 H7 := kp5.trans (kp6.trans ((Kp.new he).trans kp7))
      have hp7 := tp4.sq hp4 k47
      have hq7 := tp4.sq hq4 k47
      -- told and due
      refine ⟨_, rfl, _, rfl, p, xs, z, rfl, SqL.of hp7, hL, fun H8 s8 => ⟨_, rfl, _, rfl, q, xs, z, rfl, SqL.of (s8 _ _ hq7), hL, by omega, by omega, fun H9 s9 => ⟨_, _, rfl, ?_⟩⟩⟩
      have hp9 := s9 _ _ (s8 _ _ hp7)
      have hq9 := s9 _ _ (s8 _ _ hq7)
      refine ⟨_, rfl, _, rfl, rfl, _, rfl, iteNS rfl ?_⟩
      refine ⟨_, rfl, .int (wAll xs z), .ty "int", _, _, true, rfl, .ty _, .base (.int _), kit_ty (by decide +kernel), _, rfl, iteF ?_⟩
      refine ⟨_, rfl, .int (wAll xs z), .ty "bool", _, _, false, rfl, .ty _, .base (.int _), kit_ty (by decide +kernel), _, rfl, iteF ?_⟩
      refine ⟨_, rfl, _, rfl, lstD xs, lstD xs, dp_lst hp9, dp_lst hq9, shape_lst _, shape_lst _, _, rfl, ?_⟩
      rw [SeqAt.eqv_refl _ (lay_lst xs)]
      refine iteF ?_
      have tpe := ((tp7.same s8).same s9)
      refine ⟨_, rfl, _, rfl, _, _, rfl, rfl, _, rfl, ite2 (fun cz => ?_) (fun cz => iteF ⟨_, _, _, _, _, _, _, _, _, _, rfl, tpe.le (by omega)⟩)⟩
      refine ⟨_, rfl, q, _, rfl, SqL.of hq9, fun q2 hq2 => ⟨_, rfl, _, rfl, _, _, rfl, rfl, q2, xs.reverse, xs.sum - z, rfl, SqL.of (by rw [← List.map_reverse]; exact upd_same), hL.reverse, fun H10 s10 => ?_⟩⟩
      refine ⟨_, rfl, rfl, _, rfl, iteNS ?_ ⟨_, _, _, _, _, _, _, _, _, _, rfl, ((tpe.new hq2).same s10).le (by omega)⟩⟩
      rw [wAll_reverse, hL.tall.sy]
    · rintro σ H2 ⟨v2, v3, v4, v5, v6, v7, v8, v9, v10, v11, rfl, tp2⟩
      refine ⟨_, rfl, by show 4 ≤ sizeLine; decide, fun e he => ?_⟩
      refine ⟨t, c, e, _, _, rfl, tp2.new he, by omega, fun H' kp => .inl (SqL.of (kp e _ upd_same (tp2.fresh he))), by show 0 < 4; decide, by show 4 ≤ 1000000; decide, fun H3 i3 v3' g3 tp3 kp3 => ?_⟩
      obtain ⟨z, rfl, mz⟩ := pick_int (zs := [1, 5, 12, 60]) g3
      have zb : 1 ≤ z ∧ z ≤ 60 := by
        simp only [List.mem_cons, List.not_mem_nil, or_false] at mz
        omega
      refine ⟨_, rfl, _, _, rfl, rfl, ⟨by omega, log2_small (by omega) (pow8000 (by omega))⟩, _, _, rfl, _, rfl, t, c, _, _, rfl, tp3, by omega, by decide, by decide +kernel, fun H4 r4 a4 b4 tp4 kp4 => ⟨by show 2 ≤ sizeLine; decide, fun d hd => ⟨d, _, rfl, SqT.of upd_same, rfl, _, _, rfl, _, _, rfl, rfl, ?_⟩⟩⟩
      have mb : 0 ≤ (if 720 / z < 60 then 720 / z else 60) ∧ (if 720 / z < 60 then 720 / z else 60) ≤ 60 := by
        have h0 : 0 ≤ 720 / z := Int.ediv_nonneg (by decide) (by omega)
        split <;> omega
      generalize (if 720 / z < 60 then 720 / z else 60) = m at mb
      have tp5 := tp4.new (o := .tup [V.int m, V.int r4]) hd
      generalize upd H4 d (.tup [V.int m, V.int r4]) = H5 at tp5
      refine ⟨_, rfl, _, rfl, _, rfl, _, rfl, _, _, rfl, rfl, t, c, _, _, rfl, tp5, by omega, by omega, pow8000 (by omega), fun H6 r6 a6 b6 tp6 kp6 => ⟨by show 2 ≤ sizeLine; decide, fun e2 he2 => ?_⟩⟩
      refine ⟨t, c, e2, _, _, rfl, tp6.new he2, by omega, fun H' kp => .inl (SqL.of (kp e2 _ upd_same (tp6.fresh he2))), by show 0 < 2; decide, by show 2 ≤ 1000000; decide, fun H7 i7 v7' g7 tp7 kp7 => ?_⟩
      obtain ⟨y, rfl, my⟩ := pick_int (zs := [m, r6]) g7
      have yb : 0 ≤ y ∧ y ≤ 60 := by
        simp only [List.mem_cons, List.not_mem_nil, or_false] at my
        omega
      refine ⟨by show 1 ≤ sizeLine; decide, fun d1 h1 => ⟨_, rfl, d1, z, [V.int y], rfl, rfl, upd_same, by omega, by omega, by show 1 * z.toNat ≤ sizeLine; omega, fun G hG => ?_⟩⟩
      have eG : (List.replicate z.toNat [V.int y]).flatten = (List.replicate z.toNat y).map V.int := by
        rw [flat_same, List.map_replicate]
      rw [eG]
      have tp8 := (tp7.new (o := .lst [V.int y]) h1).new (o := .lst ((List.replicate z.toNat y).map V.int)) hG
      have hG8 : (upd (upd H7 d1 (.lst [V.int y])) G (.lst ((List.replicate z.toNat y).map V.int))) G = some (.lst ((List.replicate z.toNat y).map V.int)) := upd_same
      generalize upd (upd H7 d1 (.lst [V.int y])) G (.lst ((List.replicate z.toNat y).map V.int)) = H8 at tp8 hG8
      refine ⟨fun σ' H' => ∃ (g : Addr) (xs : List Int) (w11 : Option V), σ' = [some (.ref a), some (.ref t), v2, v3, v4, some (.int m), some (.int r4), v7, v8, some (.int z), some (.ref g), w11] ∧ H' g = some (.lst (xs.map V.int)) ∧ Lens xs, ?_, ?_⟩
      · refine ⟨_, rfl, t, c, _, _, rfl, tp8, by omega, by decide, by decide +kernel, fun H9 r9 a9 b9 tp9 kp9 => ⟨rfl, _, rfl, ite2 (fun _ => ?_) (fun _ => ?_)⟩⟩
        · refine ⟨_, rfl, _, rfl, by omega, by omega, fun D hD => lc_range (lo := 0) (fun i H' => Tape H' t c (300 * 4 + 20 + i) ∧ ∃ xs : List Int, xs.length = i ∧ (∀ l ∈ xs, 0 ≤ l ∧ l ≤ 60) ∧ H' D = some (.lst (xs.map V.int)))
            ⟨(tp9.new hD).le (by omega), [], rfl, fun l hl => by simp at hl, upd_same⟩ ?_ ?_⟩
          · have nDt : D ≠ t := tp9.fresh hD
            have nDc : D ≠ c := tp9.fresh_c hD
            rintro i Ha hi ⟨tpa, xs, el, lb, ha⟩
            refine ⟨rfl, yes_go ?_⟩
            refine ⟨_, rfl, _, rfl, _, _, rfl, rfl, t, c, _, _, rfl, tpa, by omega, by omega, pow8000 (by omega), fun Hb rb ab bb tpb kpb => ?_⟩
            refine ⟨xs.map V.int, kpb D _ ha nDt, ?_, (tpb.mut nDt nDc).le (by omega), xs ++ [rb], by rw [List.length_append, el]; rfl, fun l hl => ?_, ?_⟩
            · rw [List.length_map, el]
              omega
            · rcases List.mem_append.mp hl with m' | m'
              · exact lb l m'
              · rw [List.mem_singleton.mp m']
                omega
            · rw [upd_same, List.map_append]
              rfl
          · rintro Ha ⟨tpa, xs, el, lb, ha⟩
            exact ⟨D, xs, v11, rfl, ha, lb, by omega⟩
        · refine ⟨G, List.replicate z.toNat y, v11, rfl, tp8.sq hG8 kp9, fun l hl => ?_, ?_⟩
          · rw [List.eq_of_mem_replicate hl]
            exact yb
          · rw [List.length_replicate]
            omega
      · rintro σ' H9 ⟨g, xs, w11, rfl, hg, hL⟩
        refine ⟨_, rfl, g, _, rfl, .inl (SqL.of hg), fun g2 hg2 => ⟨_, rfl, g2, xs, r4, rfl, SqL.of upd_same, hL, fun Ha sa => ?_⟩⟩
        have hga := sa _ _ (same_new hg2 _ _ hg)
        refine ⟨_, rfl, _, rfl, g, xs, rfl, SqL.of hga, _, _, rfl, rfl, _, rfl, ite2 (fun cz => ?_) (fun cz => ?_)⟩
        · refine ⟨_, rfl, _, rfl, g, xs, r4, rfl, SqL.of hga, hL, by omega, by omega, fun Hb sb => ⟨rfl, ?_⟩⟩
          rw [decide_eq_true rfl]
          exact k Hb
        · have cz' : ¬ r4 ≤ xs.sum := fun h => cz (decide_eq_true h)
          refine ⟨rfl, ?_⟩
          rw [hL.tall.hi r4 (by omega), decide_eq_true rfl]
          exact k Ha
theorem law_fn {f : Addr} {fd : FuncData} (T : Top K mg) (F : Fun K "law" "law" s_law f fd) : FnOk P w K mg base CX0 4 f fd ["_law_script"] (spLaw K) :=
  have d := has_draw T
  have p := has_pick T d
  ok_law F T (has_begun T) d p (has_lens T d p) (has_how T (has_ways T (has_one T))) (has_lways T)
end
theorem all_mk {l : PySem.W.OpenLaw} {w : World} {K : PySem.W.Frag} {h : Heap} {mg : Str → Option Value} {fa : Addr} (X : K.In h) (G : h.Ns mainGlobals mg) (hfa : mg "law" = some (.ref fa))
    {f0 : Addr} {od0 an0 : Option Addr} {sl0 : Array (Option Value)} {oc0 kV0 dc0 pm0 cd0 ct0 : Value}
    (a0 : PySem.W.nsIn K mainGlobals "ways" = some (some (.ref f0))) (l0 : K.lookup f0 = some ⟨oc0, od0, .func (PySem.W.fnOf "ways" "ways" (defArgs s_ways) (defBody s_ways) (defScope s_ways) .none kV0 dc0 pm0 an0 cd0 ct0), sl0⟩) (cc0 : PySem.W.codeIn K cd0 "ways" = true) (k0 : PySem.W.keepIn K (.ref f0) = true)
    {f1 : Addr} {od1 an1 : Option Addr} {sl1 : Array (Option Value)} {oc1 kV1 dc1 pm1 cd1 ct1 : Value}
    (a1 : PySem.W.nsIn K mainGlobals "how_many" = some (some (.ref f1))) (l1 : K.lookup f1 = some ⟨oc1, od1, .func (PySem.W.fnOf "how_many" "how_many" (defArgs s_how_many) (defBody s_how_many) (defScope s_how_many) .none kV1 dc1 pm1 an1 cd1 ct1), sl1⟩) (cc1 : PySem.W.codeIn K cd1 "how_many" = true) (k1 : PySem.W.keepIn K (.ref f1) = true)
    {f2 : Addr} {od2 an2 : Option Addr} {sl2 : Array (Option Value)} {oc2 kV2 dc2 pm2 cd2 ct2 : Value}
    (a2 : PySem.W.nsIn K mainGlobals "_with_one_more" = some (some (.ref f2))) (l2 : K.lookup f2 = some ⟨oc2, od2, .func (PySem.W.fnOf "_with_one_more" "_with_one_more" (defArgs s__with_one_more) (defBody s__with_one_more) (defScope s__with_one_more) .none kV2 dc2 pm2 an2 cd2 ct2), sl2⟩) (cc2 : PySem.W.codeIn K cd2 "_with_one_more" = true) (k2 : PySem.W.keepIn K (.ref f2) = true)
    {f3 : Addr} {od3 an3 : Option Addr} {sl3 : Array (Option Value)} {oc3 kV3 dc3 pm3 cd3 ct3 : Value}
    (a3 : PySem.W.nsIn K mainGlobals "_law_begun" = some (some (.ref f3))) (l3 : K.lookup f3 = some ⟨oc3, od3, .func (PySem.W.fnOf "_law_begun" "_law_begun" (defArgs s__law_begun) (defBody s__law_begun) (defScope s__law_begun) .none kV3 dc3 pm3 an3 cd3 ct3), sl3⟩) (cc3 : PySem.W.codeIn K cd3 "_law_begun" = true) (k3 : PySem.W.keepIn K (.ref f3) = true)
    {f4 : Addr} {od4 an4 : Option Addr} {sl4 : Array (Option Value)} {oc4 kV4 dc4 pm4 cd4 ct4 : Value}
    (a4 : PySem.W.nsIn K mainGlobals "_law_draw" = some (some (.ref f4))) (l4 : K.lookup f4 = some ⟨oc4, od4, .func (PySem.W.fnOf "_law_draw" "_law_draw" (defArgs s__law_draw) (defBody s__law_draw) (defScope s__law_draw) .none kV4 dc4 pm4 an4 cd4 ct4), sl4⟩) (cc4 : PySem.W.codeIn K cd4 "_law_draw" = true) (k4 : PySem.W.keepIn K (.ref f4) = true)
    {f5 : Addr} {od5 an5 : Option Addr} {sl5 : Array (Option Value)} {oc5 kV5 dc5 pm5 cd5 ct5 : Value}
    (a5 : PySem.W.nsIn K mainGlobals "_law_pick" = some (some (.ref f5))) (l5 : K.lookup f5 = some ⟨oc5, od5, .func (PySem.W.fnOf "_law_pick" "_law_pick" (defArgs s__law_pick) (defBody s__law_pick) (defScope s__law_pick) .none kV5 dc5 pm5 an5 cd5 ct5), sl5⟩) (cc5 : PySem.W.codeIn K cd5 "_law_pick" = true) (k5 : PySem.W.keepIn K (.ref f5) = true)
    {f6 : Addr} {od6 an6 : Option Addr} {sl6 : Array (Option Value)} {oc6 kV6 dc6 pm6 cd6 ct6 : Value}
    (a6 : PySem.W.nsIn K mainGlobals "_law_lens" = some (some (.ref f6))) (l6 : K.lookup f6 = some ⟨oc6, od6, .func (PySem.W.fnOf "_law_lens" "_law_lens" (defArgs s__law_lens) (defBody s__law_lens) (defScope s__law_lens) .none kV6 dc6 pm6 an6 cd6 ct6), sl6⟩) (cc6 : PySem.W.codeIn K cd6 "_law_lens" = true) (k6 : PySem.W.keepIn K (.ref f6) = true)
    {f7 : Addr} {od7 an7 : Option Addr} {sl7 : Array (Option Value)} {oc7 kV7 dc7 pm7 cd7 ct7 : Value}
    (a7 : PySem.W.nsIn K mainGlobals "_law_ways" = some (some (.ref f7))) (l7 : K.lookup f7 = some ⟨oc7, od7, .func (PySem.W.fnOf "_law_ways" "_law_ways" (defArgs s__law_ways) (defBody s__law_ways) (defScope s__law_ways) .none kV7 dc7 pm7 an7 cd7 ct7), sl7⟩) (cc7 : PySem.W.codeIn K cd7 "_law_ways" = true) (k7 : PySem.W.keepIn K (.ref f7) = true)
    {f8 : Addr} {od8 an8 : Option Addr} {sl8 : Array (Option Value)} {oc8 kV8 dc8 pm8 cd8 ct8 : Value}
    (a8 : PySem.W.nsIn K mainGlobals "law" = some (some (.ref f8))) (l8 : K.lookup f8 = some ⟨oc8, od8, .func (PySem.W.fnOf "law" "law" (defArgs s_law) (defBody s_law) (defScope s_law) .none kV8 dc8 pm8 an8 cd8 ct8), sl8⟩) (cc8 : PySem.W.codeIn K cd8 "law" = true) (k8 : PySem.W.keepIn K (.ref f8) = true)
    (z0 : PySem.W.nsIn K mainGlobals "len" = some none)
    (z1 : PySem.W.nsIn K mainGlobals "range" = some none)
    (z2 : PySem.W.nsIn K mainGlobals "sum" = some none)
    (z3 : PySem.W.nsIn K mainGlobals "max" = some none)
    (z4 : PySem.W.nsIn K mainGlobals "list" = some none)
    (z5 : PySem.W.nsIn K mainGlobals "isinstance" = some none)
    (z6 : PySem.W.nsIn K mainGlobals "bool" = some none)
    (z7 : PySem.W.nsIn K mainGlobals "int" = some none)
    (z8 : PySem.W.nsIn K mainGlobals "min" = some none)
    : ∃ fd : FuncData, (∀ (s : Shared) (v : Value), BindsTo s fd ⟨[v], []⟩ [("_law_script", v)]) ∧ ∀ base : Heap, K.In base → base.Ns mainGlobals mg → FnOk l.prog w K mg base CX0 4 fa fd ["_law_script"] (spLaw K) := by
  have e := hfa.symm.trans (PySem.W.mg_of X G a8)
  cases e
  have T : Top K mg := ⟨⟨⟨_, _, PySem.W.mg_of X G a0, fun_mk (st := s_ways) l0 cc0 k0⟩⟩, ⟨⟨_, _, PySem.W.mg_of X G a1, fun_mk (st := s_how_many) l1 cc1 k1⟩⟩, ⟨⟨_, _, PySem.W.mg_of X G a2, fun_mk (st := s__with_one_more) l2 cc2 k2⟩⟩, ⟨⟨_, _, PySem.W.mg_of X G a3, fun_mk (st := s__law_begun) l3 cc3 k3⟩⟩, ⟨⟨_, _, PySem.W.mg_of X G a4, fun_mk (st := s__law_draw) l4 cc4 k4⟩⟩, ⟨⟨_, _, PySem.W.mg_of X G a5, fun_mk (st := s__law_pick) l5 cc5 k5⟩⟩, ⟨⟨_, _, PySem.W.mg_of X G a6, fun_mk (st := s__law_lens) l6 cc6 k6⟩⟩, ⟨⟨_, _, PySem.W.mg_of X G a7, fun_mk (st := s__law_ways) l7 cc7 k7⟩⟩, ⟨⟨_, _, PySem.W.mg_of X G a8, fun_mk (st := s_law) l8 cc8 k8⟩⟩, PySem.W.mg_none_of X G z0, PySem.W.mg_none_of X G z1, PySem.W.mg_none_of X G z2, PySem.W.mg_none_of X G z3, PySem.W.mg_none_of X G z4, PySem.W.mg_none_of X G z5, PySem.W.mg_none_of X G z6, PySem.W.mg_none_of X G z7, PySem.W.mg_none_of X G z8⟩
  exact ⟨_, fun s v => .of_eq rfl, fun base _ _ => law_fn T (fun_mk (st := s_law) l8 cc8 k8)⟩
end Mc
open PySem PySem.W PyProof.Rows
set_option maxRecDepth 100000 in
set_option maxHeartbeats 0 in
theorem PySem.Challenge.cw_mostclauses_k10_how_many_choices_holds : PySem.Challenge.rw_mostclauses_k10_how_many_choices.Holds := by
  w_on; o_law; k_head; (case hw => w_witness2)
  k_fill
  refine L2.walk_of (l := PySem.Challenge.rw_mostclauses_k10_how_many_choices) (n := 63) (k := 4) (x := "_law_script") (CX := fun _ => L2.CX0) (sp := fun w => Mc.spLaw _) rfl (by decide) rfl ⟨rfl, by decide, by decide⟩ (fun w h Y => PySem.W.kIn_of Y) ?F (fun _ _ a ns hl _ hS => ⟨a, ns, rfl, hS, hl, fun _ => rfl⟩) (fun _ _ _ _ _ h => h)
  case F =>
    intro w mg fa h KX G hmg
    refine' Mc.all_mk KX G hmg ?a0 ?l0 ?cc0 ?k0 ?a1 ?l1 ?cc1 ?k1 ?a2 ?l2 ?cc2 ?k2 ?a3 ?l3 ?cc3 ?k3 ?a4 ?l4 ?cc4 ?k4 ?a5 ?l5 ?cc5 ?k5 ?a6 ?l6 ?cc6 ?k6 ?a7 ?l7 ?cc7 ?k7 ?a8 ?l8 ?cc8 ?k8 ?z0 ?z1 ?z2 ?z3 ?z4 ?z5 ?z6 ?z7 ?z8
    (case a0 => k_is)
    (case l0 => k_is)
    (case cc0 => k_is)
    (case k0 => k_is)
    (case a1 => k_is)
    (case l1 => k_is)
    (case cc1 => k_is)
    (case k1 => k_is)
    (case a2 => k_is)
    (case l2 => k_is)
    (case cc2 => k_is)
    (case k2 => k_is)
    (case a3 => k_is)
    (case l3 => k_is)
    (case cc3 => k_is)
    (case k3 => k_is)
    (case a4 => k_is)
    (case l4 => k_is)
    (case cc4 => k_is)
    (case k4 => k_is)
    (case a5 => k_is)
    (case l5 => k_is)
    (case cc5 => k_is)
    (case k5 => k_is)
    (case a6 => k_is)
    (case l6 => k_is)
    (case cc6 => k_is)
    (case k6 => k_is)
    (case a7 => k_is)
    (case l7 => k_is)
    (case cc7 => k_is)
    (case k7 => k_is)
    (case a8 => k_is)
    (case l8 => k_is)
    (case cc8 => k_is)
    (case k8 => k_is)
    (case z0 => k_is)
    (case z1 => k_is)
    (case z2 => k_is)
    (case z3 => k_is)
    (case z4 => k_is)
    (case z5 => k_is)
    (case z6 => k_is)
    (case z7 => k_is)
    (case z8 => k_is)
