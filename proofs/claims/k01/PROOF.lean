import PyProof.Rows.All
import Wide.All
import OpenK.AllK
import Wide.FinOn
import HandS.ForMost
import HandS.Flow
import HandS.Wide
import HandS.Small
import HandS.Style
import HandS.IsInst
import HandS.RaiseMore
import HandS.Codes
import HandS.SetBool
import HandS.Strs
import HandS.SetFor
import PySem.Challenge.RW_mostclauses_k01_clauses_or_not
set_option Elab.async false
set_option linter.all false
set_option maxRecDepth 100000
set_option maxHeartbeats 4000000
namespace Mc
open PySem PySem.Spec PyProof.Rows L2
/-! ### the text by places -/
def top (i : Nat) : Stmt := PySem.Challenge.pw_mostclauses_k01_clauses_or_not.main.body.getD i (.Pass ⟨0, 0, 0, 0⟩)

abbrev s_is_whole : Stmt := top 3
abbrev nm_is_whole : List Str := ["thing"]
theorem sc_is_whole : FnScope nm_is_whole ["thing"] (defScope s_is_whole) := ⟨rfl, rfl, rfl, by decide +kernel, rfl, by decide +kernel, by decide +kernel⟩
abbrev s_is_mark : Stmt := top 4
abbrev nm_is_mark : List Str := ["thing"]
theorem sc_is_mark : FnScope nm_is_mark ["thing"] (defScope s_is_mark) := ⟨rfl, rfl, rfl, by decide +kernel, rfl, by decide +kernel, by decide +kernel⟩
abbrev s_is_clause : Stmt := top 5
abbrev nm_is_clause : List Str := ["thing", "mark"]
theorem sc_is_clause : FnScope nm_is_clause ["thing"] (defScope s_is_clause) := ⟨rfl, rfl, rfl, by decide +kernel, rfl, by decide +kernel, by decide +kernel⟩
abbrev s__law_begun : Stmt := top 7
abbrev nm__law_begun : List Str := ["_law_script"]
theorem sc__law_begun : FnScope nm__law_begun ["_law_script"] (defScope s__law_begun) := ⟨rfl, rfl, rfl, by decide +kernel, rfl, by decide +kernel, by decide +kernel⟩
abbrev s__law_draw : Stmt := top 8
abbrev nm__law_draw : List Str := ["_law_tape", "_law_many", "_law_spot", "_law_most", "_law_cell", "_law_found"]
theorem sc__law_draw : FnScope nm__law_draw ["_law_tape", "_law_many"] (defScope s__law_draw) := ⟨rfl, rfl, rfl, by decide +kernel, rfl, by decide +kernel, by decide +kernel⟩
abbrev s__law_pick : Stmt := top 9
abbrev nm__law_pick : List Str := ["_law_tape", "_law_some"]
theorem sc__law_pick : FnScope nm__law_pick ["_law_tape", "_law_some"] (defScope s__law_pick) := ⟨rfl, rfl, rfl, by decide +kernel, rfl, by decide +kernel, by decide +kernel⟩
abbrev s__law_is_mark : Stmt := top 10
abbrev nm__law_is_mark : List Str := ["_law_thing"]
theorem sc__law_is_mark : FnScope nm__law_is_mark ["_law_thing"] (defScope s__law_is_mark) := ⟨rfl, rfl, rfl, by decide +kernel, rfl, by decide +kernel, by decide +kernel⟩
abbrev s__law_is_clause : Stmt := top 11
abbrev nm__law_is_clause : List Str := ["_law_thing", "_law_one"]
theorem sc__law_is_clause : FnScope nm__law_is_clause ["_law_thing"] (defScope s__law_is_clause) := ⟨rfl, rfl, rfl, by decide +kernel, rfl, by decide +kernel, by decide +kernel⟩
abbrev s__law_odd : Stmt := top 12
abbrev nm__law_odd : List Str := ["_law_tape", "_law_some", "_law_found", "_law_deep", "_law_k"]
theorem sc__law_odd : FnScope nm__law_odd ["_law_tape"] (defScope s__law_odd) := ⟨rfl, rfl, rfl, by decide +kernel, rfl, by decide +kernel, by decide +kernel⟩
abbrev s__law_clause : Stmt := top 13
abbrev nm__law_clause : List Str := ["_law_tape", "_law_many", "_law_by", "_law_leap", "_law_first", "_law_k"]
theorem sc__law_clause : FnScope nm__law_clause ["_law_tape"] (defScope s__law_clause) := ⟨rfl, rfl, rfl, by decide +kernel, rfl, by decide +kernel, by decide +kernel⟩
abbrev s_law : Stmt := top 14
abbrev nm_law : List Str := ["_law_script", "_law_tape", "_law_turn", "_law_way", "_law_marks", "_law_thing", "_law_at", "_law_twin", "_law_some", "_law_asked"]
theorem sc_law : FnScope nm_law ["_law_script"] (defScope s_law) := ⟨rfl, rfl, rfl, by decide +kernel, rfl, by decide +kernel, by decide +kernel⟩
/-! ### a def that stands in the top and keeps a promise -/
structure At (K : PySem.W.Frag) (mg : Str → Option Value) (x : Str) (st : Stmt) : Prop where
  ex : ∃ f fd, mg x = some (.ref f) ∧ Fun K x x st f fd
structure Has (P : Program) (w : World) (K : PySem.W.Frag) (mg : Str → Option Value) (base : Heap) (k : Nat) (x : Str) (ps : List Str) (sp : Sp) : Prop where
  ex : ∃ f fd, mg x = some (.ref f) ∧ PySem.W.keepIn K (.ref f) = true ∧ Binds K fd ps [] ∧ FnOk P w K mg base CX0 k f fd ps sp
theorem pe_has {X : Cx} {k : Nat} {x : Str} {ps : List Str} {sp : Sp} {e : Expr} {es : List Expr} {t : TA} {p pos : Pos} (h : Has X.prog X.w X.K X.mg X.base k x ps sp) (hr : Room k X.A) (hg : Gl X x) (ha : PA X (e :: es) t)
    (hdb : (x == ("__debug__" : Str)) = false := by decide) (he : starEach (e :: es) X.env = (false, eval e X.env) :: starEach es X.env := by rfl) (hpl : (backTo pos (starEach es X.env)).any (·.1) = false := by rfl) :
    PE X (.Call (.Name x p) (e :: es) [] pos) (tCall sp [] E0 t) := by
  obtain ⟨f, fd, hm, hk, hb, F⟩ := h.ex
  exact pe_call F hr hg hm hk hb .nil pass0 ha hdb he hpl
abbrev BindsAll (x : Str) (st : Stmt) (ps : List Str) : Prop :=
  ∀ (kV doc pm : Value) (an : Option Addr) (cdv ct : Value) (us : List Value), us.length = ps.length → bindArgs (PySem.W.fnOf x x (defArgs st) (defBody st) (defScope st) .none kV doc pm an cdv ct) ⟨us, []⟩ = pure (ps.zip us)
section
variable {P : Program} {w : World} {K : PySem.W.Frag} {mg : Str → Option Value} {base : Heap}
theorem has_of {x : Str} {st : Stmt} {N ps : List Str} {k : Nat} {sp : Sp} (A : At K mg x st) (S : FnScope N ps (defScope st)) (B : BindsAll x st ps) (len : ∀ vs H Q E, sp vs H Q E → vs.length = ps.length)
    (hbody : ∀ (f : Addr) (cdv : Value) (A : Around) (outer : List Env) (s : Shared) (H : Hp) (vs : List V) (Q : VK) (E : XK), Room k (A.deeper (envOfC x (defScope st) s.heap.objs.size f cdv)) → sp vs H Q E →
      ∃ t, PSs (cxOf CX0 P w K mg base N x (defScope st) f cdv A outer s H E).nox (defBody st) t ∧ t { nx := fun _ H' => Q .non H', rt := Q } (start N vs) H) : Has P w K mg base (k + 1) x ps sp := by
  obtain ⟨f, fd, hm, F⟩ := A.ex
  exact ⟨f, fd, hm, F.kp, F.binds B, F.ok S len fun cdv A outer s H vs Q E hr h => hbody f cdv A outer s H vs Q E hr h⟩
end
theorem pe_const {X : Cx} {x : Str} {i : Int} {pos : Pos} (hm : ∃ t, X.mg x = some (.int i t)) (hg : Gl X x) (hd : (x == ("__debug__" : Str)) = false := by decide) : PE X (.Name x pos) (tC (.int i)) := by
  obtain ⟨t, hm⟩ := hm
  exact pe_glob hg hm ⟨t, rfl⟩ hd
/-! ### repr of a truth -/
def boolText (b : Bool) : Str := if b then "True" else "False"
theorem boolText_inj {a b : Bool} (h : boolText a = boolText b) : a = b := by
  cases a <;> cases b <;> first | rfl | exact absurd h (by decide +kernel)
theorem call_repr_bool {X : Cx} : CallR X (.builtin "repr") (fun xs H Q => ∃ b, xs = [.bl b] ∧ Q (.str (boolText b)) H) := by
  intro pins s σ H xs us Q I r h
  obtain ⟨b, rfl, q⟩ := h
  obtain ⟨u, rfl, ru⟩ := vals1 r
  cases ru
  cases b with
  | true => exact PySem.P.repr_of_bool ⟨.str (boolText true), H, I.tok _, ⟨_, rfl⟩, q⟩
  | false => exact PySem.P.repr_of_bool ⟨.str (boolText false), H, I.tok _, ⟨_, rfl⟩, q⟩
/-! ### heaps -/
/-- all that is known stays, but for what stands at t -/
def Kp (t : Addr) (H H' : Hp) : Prop := ∀ b o, H b = some o → b ≠ t → H' b = some o
theorem Kp.refl {t : Addr} (H : Hp) : Kp t H H := fun _ _ h _ => h
theorem Kp.trans {t : Addr} {H H1 H2 : Hp} (a : Kp t H H1) (b : Kp t H1 H2) : Kp t H H2 := fun c o h n => b c o (a c o h n) n
theorem Kp.new {t p : Addr} {H : Hp} {o : HO} (h : H p = none) : Kp t H (upd H p o) := fun b u e _ => by
  rw [upd_ne (ne_of_none e h)]
  exact e
theorem Kp.at {t : Addr} {H : Hp} {o : HO} : Kp t H (upd H t o) := fun b u e n => by
  rw [upd_ne n]
  exact e
theorem Kp.same {t : Addr} {H H' : Hp} (s : Same H H') : Kp t H H' := fun b o e _ => s b o e
theorem same_new {H : Hp} {p : Addr} {o : HO} (h : H p = none) : Same H (upd H p o) := fun b u e => by
  rw [upd_ne (ne_of_none e h)]
  exact e
/-! ### the tape -/
def tk (c : Addr) (spot left : Int) : List (Key × V) := [(.inr "cells", .ref c), (.inr "spot", .int spot), (.inr "left", .int left)]
structure TapeC (H : Hp) (t c : Addr) (ns : List Int) (spot left : Int) : Prop where
  d : H t = some (.dK (tk c spot left))
  l : H c = some (.lst (ns.map V.int))
  ne : 0 < ns.length
  lt : ns.length ≤ 63
  s0 : 0 ≤ spot
  l0 : 0 ≤ left
/-- a tape at t, its cells at c, of which at most n draws are taken -/
def Tape (H : Hp) (t c : Addr) (n : Nat) : Prop := ∃ ns spot left, TapeC H t c ns spot left ∧ spot ≤ n
theorem Tape.ne {H : Hp} {t c : Addr} {n : Nat} (h : Tape H t c n) : t ≠ c := by
  obtain ⟨ns, spot, left, h, _⟩ := h
  exact ne_of h.d h.l (by intro z; cases z)
theorem Tape.le {H : Hp} {t c : Addr} {n m : Nat} (h : Tape H t c n) (l : n ≤ m) : Tape H t c m := by
  obtain ⟨ns, spot, left, h, e⟩ := h
  exact ⟨ns, spot, left, h, by omega⟩
theorem Tape.stay {H H' : Hp} {t c : Addr} {n : Nat} (h : Tape H t c n) (k : ∀ b o, H b = some o → b = t ∨ b = c → H' b = some o) : Tape H' t c n := by
  obtain ⟨ns, spot, left, h, e⟩ := h
  exact ⟨ns, spot, left, ⟨k _ _ h.d (.inl rfl), k _ _ h.l (.inr rfl), h.ne, h.lt, h.s0, h.l0⟩, e⟩
theorem Tape.same {H H' : Hp} {t c : Addr} {n : Nat} (h : Tape H t c n) (s : Same H H') : Tape H' t c n := h.stay fun b o e _ => s b o e
theorem Tape.new {H : Hp} {t c p : Addr} {n : Nat} {o : HO} (h : Tape H t c n) (hp : H p = none) : Tape (upd H p o) t c n := h.same (same_new hp)
theorem Tape.at_t {H : Hp} {t c : Addr} {n : Nat} (h : Tape H t c n) : ∃ o, H t = some o := by
  obtain ⟨ns, spot, left, h, _⟩ := h
  exact ⟨_, h.d⟩
theorem Tape.at_c {H : Hp} {t c : Addr} {n : Nat} (h : Tape H t c n) : ∃ o, H c = some o := by
  obtain ⟨ns, spot, left, h, _⟩ := h
  exact ⟨_, h.l⟩
theorem k_cells : ¬ (("cells" : Str) = "spot") := by decide +kernel
theorem k_cells2 : ¬ (("cells" : Str) = "left") := by decide +kernel
theorem k_spot : ¬ (("spot" : Str) = "left") := by decide +kernel
theorem tk_cells (c : Addr) (a b : Int) : valV (tk c a b) (Sum.inr "cells" : Key) = some (.ref c) := valV_pos rfl
theorem tk_spot (c : Addr) (a b : Int) : valV (tk c a b) (Sum.inr "spot" : Key) = some (.int a) := by
  unfold tk
  rw [valV_neg (fun e => k_cells (Sum.inr.inj e)), valV_pos rfl]
theorem tk_left (c : Addr) (a b : Int) : valV (tk c a b) (Sum.inr "left" : Key) = some (.int b) := by
  unfold tk
  rw [valV_neg (fun e => k_cells2 (Sum.inr.inj e)), valV_neg (fun e => k_spot (Sum.inr.inj e)), valV_pos rfl]
theorem tk_put_spot (c : Addr) (a b x : Int) : putK (tk c a b) (Sum.inr "spot" : Key) (.int x) = tk c x b := by
  rfl
theorem tk_put_left (c : Addr) (a b x : Int) : putK (tk c a b) (Sum.inr "left" : Key) (.int x) = tk c a x := by
  rfl
theorem dg_cells {H : Hp} {t c : Addr} {a b : Int} (h : H t = some (.dK (tk c a b))) : DGet H t (.str "cells") (some (.ref c)) := by
  have g := DGet.k (k := (Sum.inr "cells" : Key)) h
  rw [tk_cells] at g
  exact g
theorem dg_spot {H : Hp} {t c : Addr} {a b : Int} (h : H t = some (.dK (tk c a b))) : DGet H t (.str "spot") (some (.int a)) := by
  have g := DGet.k (k := (Sum.inr "spot" : Key)) h
  rw [tk_spot] at g
  exact g
theorem dg_left {H : Hp} {t c : Addr} {a b : Int} (h : H t = some (.dK (tk c a b))) : DGet H t (.str "left") (some (.int b)) := by
  have g := DGet.k (k := (Sum.inr "left" : Key)) h
  rw [tk_left] at g
  exact g
theorem dp_spot {H : Hp} {t c : Addr} {a b : Int} (x : Int) (h : H t = some (.dK (tk c a b))) : DPut H t (.str "spot") (.int x) (upd H t (.dK (tk c x b))) := by
  have g := DPut.k (k := (Sum.inr "spot" : Key)) (v := .int x) h (small1000 (by show 3 ≤ 1000; decide))
  rw [tk_put_spot] at g
  exact g
theorem dp_left {H : Hp} {t c : Addr} {a b : Int} (x : Int) (h : H t = some (.dK (tk c a b))) : DPut H t (.str "left") (.int x) (upd H t (.dK (tk c a x))) := by
  have g := DPut.k (k := (Sum.inr "left" : Key)) (v := .int x) h (small1000 (by show 3 ≤ 1000; decide))
  rw [tk_put_left] at g
  exact g
theorem Tape.fresh {H : Hp} {t c p : Addr} {n : Nat} (h : Tape H t c n) (hp : H p = none) : p ≠ t := by
  obtain ⟨o, e⟩ := h.at_t
  exact (ne_of_none e hp).symm
theorem Tape.fresh_c {H : Hp} {t c p : Addr} {n : Nat} (h : Tape H t c n) (hp : H p = none) : p ≠ c := by
  obtain ⟨o, e⟩ := h.at_c
  exact (ne_of_none e hp).symm
/-! ### a list beside the empty list -/
section
variable {X : Cx}
def rEqNil (K : PySem.W.Frag) (neg : Bool) : R2 := fun x y H Q => ∃ a b xs, x = .ref a ∧ y = .ref b ∧ SqL K H a xs ∧ SqL K H b [] ∧ Q (.bl (if neg = true then !xs.isEmpty else xs.isEmpty)) H
theorem op_eqNil (hu : X.A.units + 1 < cLine) : OpR X (compareOp .Eq) (rEqNil X.K false) := by
  intro pins s σ H x y v u Q I rx ry h
  obtain ⟨a, b, xs, rfl, rfl, ha, hb, q⟩ := h
  cases rx
  cases ry
  obtain ⟨us, vs, pl, _⟩ := I.list ha
  obtain ⟨ws, vs2, pl2, _⟩ := I.list hb
  cases vs2
  have l := vs.length
  cases xs with
  | nil =>
    cases vs
    exact SeqAt.RcAt.lists (e := fun _ => true) pl.isList pl2.isList rfl (by omega) (fun j h1 => absurd h1 (Nat.not_lt_zero _)) _ _ _ _ ⟨.bl true, H, I, rfl, q⟩
  | cons z zs => exact SeqAt.RcAt.lists_lengths pl.isList pl2.isList (by rw [List.size_toArray, ← l]; rfl) (by omega) _ _ _ _ ⟨.bl false, H, I, rfl, q⟩
theorem op_neNil (hu : X.A.units + 1 < cLine) : OpR X (compareOp .NotEq) (rEqNil X.K true) := by
  intro pins s σ H x y v u Q I rx ry h
  obtain ⟨a, b, xs, rfl, rfl, ha, hb, q⟩ := h
  cases rx
  cases ry
  obtain ⟨us, vs, pl, _⟩ := I.list ha
  obtain ⟨ws, vs2, pl2, _⟩ := I.list hb
  cases vs2
  have l := vs.length
  cases xs with
  | nil =>
    cases vs
    exact SeqAt.RcNeAt.lists (e := fun _ => true) pl.isList pl2.isList rfl (by omega) (fun j h1 => absurd h1 (Nat.not_lt_zero _)) _ _ _ _ ⟨.bl false, H, I, rfl, q⟩
  | cons z zs => exact SeqAt.RcNeAt.lists_lengths pl.isList pl2.isList (by rw [List.size_toArray, ← l]; rfl) (by omega) _ _ _ _ ⟨.bl true, H, I, rfl, q⟩
end
/-! ### comprehensions that leave what is known as it is -/
theorem take_sel {α β : Type} (t : α → Bool) (f : α → β) {xs : List α} {i : Nat} {x : α} (h : xs[i]? = some x) :
    ((xs.take (i + 1)).filter t).map f = ((xs.take i).filter t).map f ++ (if t x = true then [f x] else []) := by
  rw [List.take_add_one, h, List.filter_append, List.map_append]
  by_cases ht : t x = true
  · rw [if_pos ht]
    simp [ht]
  · rw [if_neg ht]
    simp [ht]
section
variable {K : PySem.W.Frag} {a : Addr} {xs : List V} {tt : TT} {te : TE} {vs : List Nat} {σ : L2.St} {H : Hp} {D : Addr} {Qd : Hp → Prop} {j : Nat}
/-- what a turn asks: the test, the item -/
structure SelT (H : Hp) (σ : L2.St) (vs : List Nat) (j : Nat) (tt : TT) (te : TE) (x : V) (b : Bool) (y : V) : Prop where
  wip : wipe ((wipe σ vs).set j (some x)) vs = wipe σ vs
  tst : ∀ H', Same H H' → ∀ R : Bool → Hp → Prop, (∀ H'', Same H' H'' → R b H'') → tt ((wipe σ vs).set j (some x)) H' R
  elt : b = true → ∀ H', Same H H' → ∀ R : VK, (∀ H'', Same H' H'' → R y H'') → te ((wipe σ vs).set j (some x)) H' R
theorem sel_turn {x y : V} {b : Bool} {acc : List V} {H' : Hp} {P : Hp → Prop} (hD : H D = none) (s : SelT H σ vs j tt te x b y) (hs : Same H H') (ha : H' D = some (.lst acc)) (hz : acc.length < sizeLine)
    (k : ∀ H'', Same H H'' → H'' D = some (.lst (acc ++ (if b = true then [y] else []))) → P H'') :
    gName j x (wipe σ vs) H' fun σ2 H2 => wipe σ2 vs = wipe σ vs ∧ tt σ2 H2 fun c H3 => if c = true then te σ2 H3 fun y H4 => ∃ acc, H4 D = some (.lst acc) ∧ acc.length < sizeLine ∧ P (upd H4 D (.lst (acc ++ [y]))) else P H3 := by
  refine ⟨s.wip, s.tst H' hs _ fun H3 s3 => ?_⟩
  have h3 := s3 D _ ha
  cases b with
  | false =>
    refine iteF (k H3 (hs.trans s3) ?_)
    rw [h3, if_neg Bool.false_ne_true, List.append_nil]
  | true =>
    refine iteT (s.elt rfl H3 (hs.trans s3) _ fun H4 s4 => ⟨acc, s4 D _ h3, hz, k _ (fun c o e => ?_) ?_⟩)
    · rw [upd_ne (ne_of_none e hD)]
      exact s4 c o (s3 c o (hs c o e))
    · rw [upd_same, if_pos rfl]
theorem lc_sel_list (t : V → Bool) (f : V → V) (hx : SqL K H a xs) (hD : H D = none) (hz : xs.length ≤ 1000000) (hs : ∀ x ∈ xs, SelT H σ vs j tt te x (t x) (f x)) (k : ∀ H', Same H H' → H' D = some (.lst ((xs.filter t).map f)) → Qd H') :
    ∃ W : Nat → Nat → Hp → Prop, (∃ m, W 0 m (upd H D (.lst []))) ∧ ∀ i m H, W i m H →
      ((Itl K a).stop i H ∧ Qd H) ∨ ((Itl K a).go i H ∧ ∃ Nx : Hp → Prop, (∀ H', Nx H' → ∃ m', m' < m ∧ W (i + 1) m' H') ∧ ∀ x H', (Itl K a).yld i H x H' → gName j x (wipe σ vs) H' fun σ2 H2 => wipe σ2 vs = wipe σ vs ∧ tt σ2 H2 fun b H3 =>
        if b = true then te σ2 H3 fun y H4 => ∃ acc, H4 D = some (.lst acc) ∧ acc.length < sizeLine ∧ Nx (upd H4 D (.lst (acc ++ [y]))) else Nx H3) := by
  have line : 1000000 < sizeLine := by decide
  refine lc_list (xs := xs) (fun i H' => Same H H' ∧ H' D = some (.lst (((xs.take i).filter t).map f))) ⟨same_new hD, upd_same⟩ (fun i H' _ p => p.1.seq hx) (fun i x H' hi p => ?_) fun H' p => k H' p.1 (by rw [p.2, List.take_length])
  refine sel_turn hD (hs x (List.mem_of_getElem? hi)) p.1 p.2 ?_ fun H'' s'' e => ⟨s'', by rw [e, take_sel t f hi]⟩
  have l1 := List.length_filter_le t (xs.take i)
  have l2 := List.length_take_le i xs
  have l3 : (xs.take i).length ≤ xs.length := by rw [List.length_take]; omega
  rw [List.length_map]
  omega
theorem Same.seqT {H H' : Hp} (e : Same H H') (h : SqT K H a xs) : SqT K H' a xs := by
  rcases h with (h | ⟨o, h⟩) | h
  · exact .inl (.inl (e _ _ h))
  · exact .inl (.inr ⟨o, e _ _ h⟩)
  · exact .inr h
theorem lc_sel_tup (t : V → Bool) (f : V → V) (hx : SqT K H a xs) (hD : H D = none) (hz : xs.length ≤ 1000000) (hs : ∀ x ∈ xs, SelT H σ vs j tt te x (t x) (f x)) (k : ∀ H', Same H H' → H' D = some (.lst ((xs.filter t).map f)) → Qd H') :
    ∃ W : Nat → Nat → Hp → Prop, (∃ m, W 0 m (upd H D (.lst []))) ∧ ∀ i m H, W i m H →
      ((Itt K a).stop i H ∧ Qd H) ∨ ((Itt K a).go i H ∧ ∃ Nx : Hp → Prop, (∀ H', Nx H' → ∃ m', m' < m ∧ W (i + 1) m' H') ∧ ∀ x H', (Itt K a).yld i H x H' → gName j x (wipe σ vs) H' fun σ2 H2 => wipe σ2 vs = wipe σ vs ∧ tt σ2 H2 fun b H3 =>
        if b = true then te σ2 H3 fun y H4 => ∃ acc, H4 D = some (.lst acc) ∧ acc.length < sizeLine ∧ Nx (upd H4 D (.lst (acc ++ [y]))) else Nx H3) := by
  have line : 1000000 < sizeLine := by decide
  refine lc_tup (xs := xs) (fun i H' => Same H H' ∧ H' D = some (.lst (((xs.take i).filter t).map f))) ⟨same_new hD, upd_same⟩ (fun i H' _ p => Same.seqT p.1 hx) (fun i x H' hi p => ?_) fun H' p => k H' p.1 (by rw [p.2, List.take_length])
  refine sel_turn hD (hs x (List.mem_of_getElem? hi)) p.1 p.2 ?_ fun H'' s'' e => ⟨s'', by rw [e, take_sel t f hi]⟩
  have l1 := List.length_filter_le t (xs.take i)
  have l3 : (xs.take i).length ≤ xs.length := by rw [List.length_take]; omega
  rw [List.length_map]
  omega
theorem take_range {n i : Nat} (h : i < n) : (List.range n)[i]? = some i := by
  rw [List.getElem?_range h]
theorem lc_sel_range {lo : Int} {n : Nat} (t : Nat → Bool) (f : Nat → V) (hD : H D = none) (hz : n ≤ 1000000) (hs : ∀ i, i < n → SelT H σ vs j tt te (.int (lo + i)) (t i) (f i)) (k : ∀ H', Same H H' → H' D = some (.lst (((List.range n).filter t).map f)) → Qd H') :
    ∃ W : Nat → Nat → Hp → Prop, (∃ m, W 0 m (upd H D (.lst []))) ∧ ∀ i m H, W i m H →
      ((Itr lo n).stop i H ∧ Qd H) ∨ ((Itr lo n).go i H ∧ ∃ Nx : Hp → Prop, (∀ H', Nx H' → ∃ m', m' < m ∧ W (i + 1) m' H') ∧ ∀ x H', (Itr lo n).yld i H x H' → gName j x (wipe σ vs) H' fun σ2 H2 => wipe σ2 vs = wipe σ vs ∧ tt σ2 H2 fun b H3 =>
        if b = true then te σ2 H3 fun y H4 => ∃ acc, H4 D = some (.lst acc) ∧ acc.length < sizeLine ∧ Nx (upd H4 D (.lst (acc ++ [y]))) else Nx H3) := by
  have line : 1000000 < sizeLine := by decide
  refine lc_range (fun i H' => Same H H' ∧ H' D = some (.lst ((((List.range n).take i).filter t).map f))) ⟨same_new hD, upd_same⟩ (fun i H' hi p => ?_) fun H' p => k H' p.1 (by rw [p.2, List.take_of_length_le (by rw [List.length_range]; omega)])
  refine sel_turn hD (hs i hi) p.1 p.2 ?_ fun H'' s'' e => ⟨s'', by rw [e, take_sel t f (take_range hi)]⟩
  have l1 := List.length_filter_le t ((List.range n).take i)
  have l3 : ((List.range n).take i).length ≤ n := by rw [List.length_take, List.length_range]; omega
  rw [List.length_map]
  omega
end
theorem filter_all {α : Type} (xs : List α) : xs.filter (fun _ => true) = xs := List.filter_eq_self.mpr fun _ _ => rfl
theorem Kp.free {t D : Addr} {H H' : Hp} (k : Kp t H H') (h : H' D = none) (n : D ≠ t) : H D = none := by
  cases e : H D with
  | none => rfl
  | some o =>
    rw [k D o e n] at h
    cases h
theorem Kp.mut {t p : Addr} {H H' : Hp} {o : HO} (k : Kp t H H') (h : H p = none) : Kp t H (upd H' p o) := fun b u e n => by
  rw [upd_ne (ne_of_none e h)]
  exact k b u e n
theorem Tape.mut {H : Hp} {t c p : Addr} {n : Nat} {o : HO} (h : Tape H t c n) (n1 : p ≠ t) (n2 : p ≠ c) : Tape (upd H p o) t c n := h.stay fun b u e z => by
  rw [upd_ne]
  · exact e
  · rcases z with rfl | rfl
    · exact n1.symm
    · exact n2.symm
theorem yes_go {σ : L2.St} {H : Hp} {A B : Hp → Prop} (h : A H) : tYes σ H (fun b H' => if b = true then A H' else B H') := by
  show (if true = true then A H else B H)
  rw [if_pos rfl]
  exact h
theorem bd_is_whole : BindsAll "is_whole" s_is_whole ["thing"] := fun _ _ _ _ _ _ us hl => match us, hl with | [_], _ => rfl
theorem bd_is_mark : BindsAll "is_mark" s_is_mark ["thing"] := fun _ _ _ _ _ _ us hl => match us, hl with | [_], _ => rfl
theorem bd_is_clause : BindsAll "is_clause" s_is_clause ["thing"] := fun _ _ _ _ _ _ us hl => match us, hl with | [_], _ => rfl
theorem bd__law_begun : BindsAll "_law_begun" s__law_begun ["_law_script"] := fun _ _ _ _ _ _ us hl => match us, hl with | [_], _ => rfl
theorem bd__law_draw : BindsAll "_law_draw" s__law_draw ["_law_tape", "_law_many"] := fun _ _ _ _ _ _ us hl => match us, hl with | [_, _], _ => rfl
theorem bd__law_pick : BindsAll "_law_pick" s__law_pick ["_law_tape", "_law_some"] := fun _ _ _ _ _ _ us hl => match us, hl with | [_, _], _ => rfl
theorem bd__law_is_mark : BindsAll "_law_is_mark" s__law_is_mark ["_law_thing"] := fun _ _ _ _ _ _ us hl => match us, hl with | [_], _ => rfl
theorem bd__law_is_clause : BindsAll "_law_is_clause" s__law_is_clause ["_law_thing"] := fun _ _ _ _ _ _ us hl => match us, hl with | [_], _ => rfl
theorem bd__law_odd : BindsAll "_law_odd" s__law_odd ["_law_tape"] := fun _ _ _ _ _ _ us hl => match us, hl with | [_], _ => rfl
theorem bd__law_clause : BindsAll "_law_clause" s__law_clause ["_law_tape"] := fun _ _ _ _ _ _ us hl => match us, hl with | [_], _ => rfl
theorem bd_law : BindsAll "law" s_law ["_law_script"] := fun _ _ _ _ _ _ us hl => match us, hl with | [_], _ => rfl
structure Top (K : PySem.W.Frag) (mg : Str → Option Value) : Prop where
  d_is_whole : At K mg "is_whole" s_is_whole
  d_is_mark : At K mg "is_mark" s_is_mark
  d_is_clause : At K mg "is_clause" s_is_clause
  d__law_begun : At K mg "_law_begun" s__law_begun
  d__law_draw : At K mg "_law_draw" s__law_draw
  d__law_pick : At K mg "_law_pick" s__law_pick
  d__law_is_mark : At K mg "_law_is_mark" s__law_is_mark
  d__law_is_clause : At K mg "_law_is_clause" s__law_is_clause
  d__law_odd : At K mg "_law_odd" s__law_odd
  d__law_clause : At K mg "_law_clause" s__law_clause
  d_law : At K mg "law" s_law
  c_GREATEST_NAME : ∃ t, mg "GREATEST_NAME" = some (.int 1000000000000 t)
  c_MOST_MARKS : ∃ t, mg "MOST_MARKS" = some (.int 64 t)
  b_isinstance : mg "isinstance" = none
  b_bool : mg "bool" = none
  b_int : mg "int" = none
  b_abs : mg "abs" = none
  b_len : mg "len" = none
  b_tuple : mg "tuple" = none
  b_all : mg "all" = none
  b_set : mg "set" = none
  b_range : mg "range" = none
  b_min : mg "min" = none
  b_list : mg "list" = none
  b_repr : mg "repr" = none
/-! ### the draws -/
def spDraw : Sp := fun vs H Q _ => ∃ (t c : Addr) (m : Int) (n : Nat), vs = [.ref t, .int m] ∧ Tape H t c n ∧ n < 2 ^ 40 ∧ 0 < m ∧ m < 2 ^ 8000 ∧
  ∀ (H' : Hp) (r : Int), 0 ≤ r → r < m → Tape H' t c (n + 1) → Kp t H H' → Q (.int r) H'
theorem cell_at {ns : List Int} {spot : Int} (h0 : 0 < ns.length) (hs : 0 ≤ spot) : ∃ x, atI (ns.map V.int) (spot % ((ns.map V.int).length : Int)) = some (.int x) := by
  rw [List.length_map]
  have hp : (0 : Int) < (ns.length : Int) := by omega
  have h1 := Int.emod_nonneg spot (show (ns.length : Int) ≠ 0 by omega)
  have h2 := Int.emod_lt_of_pos spot hp
  have h3 : (spot % (ns.length : Int)).toNat < ns.length := by omega
  refine ⟨ns[(spot % (ns.length : Int)).toNat], at_of (j := (spot % (ns.length : Int)).toNat) (by omega) ?_⟩
  rw [List.getElem?_map, List.getElem?_eq_getElem h3]
  rfl
theorem log2_small {m : Int} (h0 : 0 < m) (h : m < 2 ^ 8000) : m.natAbs.log2 < 9000 := by
  have h2 : m.natAbs < 2 ^ 8000 := by
    have e : ((2 ^ 8000 : Nat) : Int) = (2 : Int) ^ 8000 := by rw [Int.natCast_pow]; rfl
    omega
  exact Nat.lt_of_lt_of_le (PySem.Flt.log2_lt_of (by decide) h2) (by decide)
theorem pow_ok {x spot : Int} {n : Nat} (h0 : 0 ≤ spot) (h1 : spot ≤ n) (h2 : n < 2 ^ 40) : CPow (x % 2147483647 + 69621 * spot + 48271) 17 := by
  have a := Int.emod_nonneg x (show (2147483647 : Int) ≠ 0 by decide)
  have b := Int.emod_lt_of_pos x (show (0 : Int) < 2147483647 by decide)
  refine ⟨by decide, by decide, ?_⟩
  have e : (2 : Nat) ^ 64 = 18446744073709551616 := by decide
  rw [e]
  omega
section
variable {P : Program} {w : World} {K : PySem.W.Frag} {mg : Str → Option Value} {base : Heap}
theorem has_draw (T : Top K mg) : Has P w K mg base 1 "_law_draw" ["_law_tape", "_law_many"] spDraw := by
  refine has_of T.d__law_draw sc__law_draw bd__law_draw (fun vs H Q E h => ?_) (fun f cdv A outer s H vs Q E hr h => ?_)
  · obtain ⟨t, c, m, n, rfl, _⟩ := h
    rfl
  · have hu := hu_of hr
    have nd := sc__law_draw.nd
    obtain ⟨t, c, m, n, rfl, ⟨ns, spot, left, tp, hs⟩, hn, hm, hm2, k⟩ := h
    refine ⟨_, (C8.pss_cut (ps_if (pt_cmpR op_lt (pe_dget hu (pv 0) pe_str (fun _ _ => rfl)) (pv 1) (nomark _)) (pss_cons (ps_par (i := 2) (j := 3) (by rfl) nd rfl rfl (by decide) rfl rfl (pa_cons (pe_dget hu (pv 0) pe_str (fun _ _ => rfl)) (pa_cons (pe_callB call_len_seq (by rfl) T.b_len (by decide +kernel) (pa_cons (pe_dget hu (pv 0) pe_str (fun _ _ => rfl)) pa_nil)) pa_nil)) (by rfl))
    (pss_cons (ps_asg (pe_tup (pa_cons (pe_ix ix_list (pe_dget hu (pv 0) pe_str (fun _ _ => rfl)) (pe_op op_mod (pv 2) (pv 3)) (fun _ _ => rfl)) (pa_cons (pe_op op_add (pv 2) pe_int) pa_nil))) (pg_tup (by rfl) (pgs_cons (pg_name (i := 4) nd rfl (.inl rfl)) (pgs_cons (pg_sub (pv 0) pe_str (set_dict hu)) pgs_nil))))
    (pss_cons (ps_dput hu (pv 0) pe_str (pe_op op_mod (pe_op op_pow (pe_op op_add (pe_op op_add (pe_op op_mod (pv 4) pe_int) (pe_op op_mul pe_int (pv 2))) pe_int) pe_int) (pe_op op_add (pe_op op_pow pe_int pe_int) pe_int)) rfl)
    (pss_one (ps_if (PW.pt (pw_and (pt_cmpR op_ge (pv 4) (pe_op op_pow pe_int pe_int) (nomark _)) (pw_and1 (pt_cmpR op_lt (pv 2) (pv 3) (nomark _))))) (pss_one (ps_dput hu (pv 0) pe_str (pe_op op_sub (pv 4) (pe_op op_pow pe_int pe_int)) rfl)) pss_nil))))) pss_nil)
    (pss_cons (ps_asg (pe_tup (pa_cons (pe_op op_mod (pe_dget hu (pv 0) pe_str (fun _ _ => rfl)) (pv 1)) (pa_cons (pe_op op_fdivW (pe_dget hu (pv 0) pe_str (fun _ _ => rfl)) (pv 1)) pa_nil))) (pg_tup (by rfl) (pgs_cons (pg_name (i := 5) nd rfl (.inl rfl)) (pgs_cons (pg_sub (pv 0) pe_str (set_dict hu)) pgs_nil))))
    (pss_one (ps_ret (pv 5))))), ?_⟩
    refine ⟨fun σ' H' => ∃ (v2 v3 v4 v5 : Option V) (spot' left' : Int), σ' = [some (.ref t), some (.int m), v2, v3, v4, v5] ∧ TapeC H' t c ns spot' left' ∧ spot' ≤ ((n + 1 : Nat) : Int) ∧ Kp t H H', ?_, ?_⟩
    · refine ⟨_, rfl, t, _, rfl, dg_left tp.d, _, rfl, _, _, rfl, rfl, _, rfl, ite2 (fun _ => ?_) (fun _ => ?_)⟩
      · obtain ⟨x, hx⟩ := cell_at tp.ne tp.s0
        refine ⟨_, rfl, t, _, rfl, dg_spot tp.d, _, rfl, t, _, rfl, dg_cells tp.d, c, _, rfl, .inl (SqL.of tp.l), _, _, rfl, ?_⟩
        refine ⟨_, rfl, t, _, rfl, dg_cells tp.d, _, rfl, _, rfl, _, _, rfl, rfl, ?_, c, _, _, _, rfl, rfl, SqL.of tp.l, hx, _, rfl, _, _, rfl, rfl, by show 2 ≤ sizeLine; decide, fun p hp => ?_⟩
        · show (0 : Int) < ((ns.map V.int).length : Int)
          rw [List.length_map]
          have := tp.ne
          omega
        have h1 : (upd H p (.tup [.int x, .int (spot + 1)])) t = some (.dK (tk c spot left)) := by
          rw [upd_ne (ne_of_none tp.d hp)]
          exact tp.d
        refine ⟨p, _, rfl, SqT.of upd_same, rfl, _, _, rfl, _, _, rfl, _, rfl, t, _, rfl, dp_spot _ h1, rfl, ?_⟩
        have c1 : (upd (upd H p (.tup [.int x, .int (spot + 1)])) t (.dK (tk c (spot + 1) left))) c = some (.lst (ns.map V.int)) := by
          rw [upd_ne (show c ≠ t from ne_of tp.l tp.d (by intro z; cases z)), upd_ne (ne_of_none tp.l hp)]
          exact tp.l
        refine ⟨_, rfl, _, _, rfl, rfl, by show (0 : Int) < 2147483647; decide, _, rfl, _, _, rfl, rfl, .inl ⟨by decide, by decide⟩, _, _, rfl, rfl, _, _, rfl, rfl, _, _, rfl, rfl, pow_ok tp.s0 hs hn, _, _, rfl, rfl, ⟨by decide, by decide, by decide⟩, _, _, rfl, rfl, _, _, rfl, rfl, ?_, _, rfl, t, _, rfl, dp_left _ upd_same, ?_⟩
        · show (0 : Int) < 10 ^ (50 : Int).toNat + 151
          decide
        have kp : ∀ z, Kp t H (upd (upd (upd H p (.tup [.int x, .int (spot + 1)])) t (.dK (tk c (spot + 1) left))) t (.dK (tk c (spot + 1) z))) := fun z => ((Kp.new hp).trans Kp.at).trans Kp.at
        have tq : ∀ z, 0 ≤ z → TapeC (upd (upd (upd H p (.tup [.int x, .int (spot + 1)])) t (.dK (tk c (spot + 1) left))) t (.dK (tk c (spot + 1) z))) t c ns (spot + 1) z := fun z hz =>
          ⟨upd_same, by rw [upd_ne (show c ≠ t from ne_of tp.l tp.d (by intro z; cases z))]; exact c1, tp.ne, tp.lt, by have := tp.s0; omega, hz⟩
        have h0 : ∀ a : Int, 0 ≤ a % (10 ^ (50 : Int).toNat + 151) := fun a => Int.emod_nonneg _ (by decide)
        refine ⟨_, rfl, _, _, rfl, rfl, ⟨by decide, by decide, by decide⟩, _, _, rfl, rfl, _, rfl, ite2 (fun hc => ?_) (fun _ => iteF ?_)⟩
        · refine ⟨_, rfl, _, rfl, _, _, rfl, rfl, _, rfl, ite2 (fun _ => ?_) (fun _ => ?_)⟩
          · refine ⟨_, rfl, _, _, rfl, rfl, ⟨by decide, by decide, by decide⟩, _, _, rfl, rfl, _, rfl, t, _, rfl, dp_left _ upd_same, ?_⟩
            have hz : (10 : Int) ^ (18 : Int).toNat ≤ x := of_decide_eq_true hc
            exact ⟨_, _, _, _, spot + 1, x - 10 ^ (18 : Int).toNat, rfl, ⟨upd_same, by rw [upd_ne (show c ≠ t from ne_of tp.l tp.d (by intro z; cases z))]; exact (tq _ (h0 _)).l, tp.ne, tp.lt, by have := tp.s0; omega, by omega⟩, by omega, (kp _).trans Kp.at⟩
          · exact ⟨_, _, _, _, _, _, rfl, tq _ (h0 _), by omega, kp _⟩
        · exact ⟨_, _, _, _, _, _, rfl, tq _ (h0 _), by omega, kp _⟩
      · exact ⟨_, _, _, _, _, _, rfl, tp, by omega, Kp.refl _⟩
    · rintro σ' H' ⟨v2, v3, v4, v5, spot', left', rfl, tp', hs', kp⟩
      refine ⟨_, rfl, t, _, rfl, dg_left tp'.d, _, rfl, _, _, rfl, rfl, hm, _, rfl, t, _, rfl, dg_left tp'.d, _, rfl, _, _, rfl, rfl, ⟨hm, ?_⟩, by show 2 ≤ sizeLine; decide, fun p hp => ?_⟩
      · exact log2_small hm hm2
      have h1 : ∀ o, (upd H' p o) t = some (.dK (tk c spot' left')) := fun o => by
          rw [upd_ne (ne_of_none tp'.d hp)]
          exact tp'.d
      refine ⟨p, _, rfl, SqT.of upd_same, rfl, _, _, rfl, _, _, rfl, _, rfl, t, _, rfl, dp_left _ (h1 _), rfl, ?_⟩
      refine ⟨_, rfl, k _ _ (Int.emod_nonneg _ (by omega)) (Int.emod_lt_of_pos _ hm) ?_ ?_⟩
      · exact ⟨ns, spot', _, ⟨upd_same, by rw [upd_ne (show c ≠ t from ne_of tp'.l tp'.d (by intro z; cases z)), upd_ne (ne_of_none tp'.l hp)]; exact tp'.l, tp'.ne, tp'.lt, tp'.s0, Int.ediv_nonneg tp'.l0 (by omega)⟩, hs'⟩
      · exact (kp.trans (Kp.new hp)).trans Kp.at
/-- a pick from a list or a tuple -/
def spPick (K : PySem.W.Frag) : Sp := fun vs H Q _ => ∃ (t c a : Addr) (xs : List V) (n : Nat), vs = [.ref t, .ref a] ∧ Tape H t c n ∧ n < 2 ^ 40 ∧ (∀ H', Kp t H H' → SqL K H' a xs ∨ SqT K H' a xs) ∧ 0 < xs.length ∧ xs.length ≤ 1000000 ∧
  ∀ (H' : Hp) (i : Nat) (v : V), xs[i]? = some v → Tape H' t c (n + 1) → Kp t H H' → Q v H'
theorem has_pick (T : Top K mg) (h__law_draw : Has P w K mg base 1 "_law_draw" ["_law_tape", "_law_many"] spDraw) : Has P w K mg base 2 "_law_pick" ["_law_tape", "_law_some"] (spPick K) := by
  refine has_of T.d__law_pick sc__law_pick bd__law_pick (fun vs H Q E h => ?_) (fun f cdv A outer s H vs Q E hr h => ?_)
  · obtain ⟨t, c, a, xs, n, rfl, _⟩ := h
    rfl
  · have hu := hu_of hr
    have nd := sc__law_pick.nd
    obtain ⟨t, c, a, xs, n, rfl, tp, hn, hs, h0, h1, k⟩ := h
    refine ⟨_, (pss_one (ps_ret (pe_ix ix_seq (pv 1) (pe_has h__law_draw (hr.mono (by omega)) (by rfl) (pa_cons (pv 0) (pa_cons (pe_callB call_len_seq (by rfl) T.b_len (by decide +kernel) (pa_cons (pv 1) pa_nil)) pa_nil))) (fun _ _ => rfl)))), ?_⟩
    refine ⟨_, rfl, _, rfl, _, rfl, a, xs, rfl, hs H (Kp.refl _), t, c, _, n, rfl, tp, hn, by omega, ?_, fun H' r r0 r1 tp' kp => ?_⟩
    · exact Int.lt_of_le_of_lt (Int.ofNat_le.mpr h1) (by decide +kernel)
    have hi : r.toNat < xs.length := by omega
    have g : xs[r.toNat]? = some xs[r.toNat] := List.getElem?_eq_getElem hi
    rcases hs H' kp with z | z
    · exact .inl ⟨a, xs, r, _, rfl, rfl, z, at_of (by omega) g, k H' _ _ g tp' kp⟩
    · exact .inr (.inl ⟨a, xs, r, _, rfl, rfl, z, at_of (by omega) g, k H' _ _ g tp' kp⟩)
/-- the tape's beginning -/
def spBegun (K : PySem.W.Frag) : Sp := fun vs H Q _ => ∃ (a : Addr) (ns : List Int), vs = [.ref a] ∧ SqL K H a (ns.map V.int) ∧ ns.length ≤ 63 ∧
  ∀ (H' : Hp) (t c : Addr), H t = none → H c = none → Same H H' → Tape H' t c 0 → Q (.ref t) H'
theorem has_begun (T : Top K mg) : Has P w K mg base 1 "_law_begun" ["_law_script"] (spBegun K) := by
  refine has_of T.d__law_begun sc__law_begun bd__law_begun (fun vs H Q E h => ?_) (fun f cdv A outer s H vs Q E hr h => ?_)
  · obtain ⟨a, ns, rfl, _⟩ := h
    rfl
  · have hu := hu_of hr
    have nd := sc__law_begun.nd
    obtain ⟨a, ns, rfl, hS, hl, k⟩ := h
    refine ⟨_, (pss_one (ps_ret (pe_disp (pps_cons pe_str (pe_orT (pe_slice sl_list (pv 0) po_none (po_some pe_int)) (pe_one (pe_lst (pa_cons pe_int pa_nil)))) (pps_cons pe_str pe_int (pps_cons pe_str pe_int pps_nil))) (by rfl) (by rfl) (fun z => by cases z) (by decide)))), ?_⟩
    intro t ht
    have s1 := same_new (o := .dK []) ht
    refine ⟨_, rfl, 63, rfl, a, _, rfl, s1.seq hS, fun q hq => ?_⟩
    have ec : cutV (ns.map V.int) none (some 63) = ns.map V.int := by
      unfold cutV
      rw [HT.sIx_none, show HT.sIx (ns.map V.int).length (ns.map V.int).length (some 63) = min 63 (ns.map V.int).length from HT.sIx_nat _ _ 63, List.drop_zero, List.length_map]
      refine List.take_of_length_le ?_
      rw [List.length_map]
      omega
    rw [ec]
    have nqt : q ≠ t := fun e => by
      rw [e, upd_same] at hq
      cases hq
    have nq : H q = none := by
      rw [← hq, upd_ne nqt]
    cases hns : ns with
    | cons z zs =>
      refine ⟨true, .inl ⟨_, SqL.of upd_same, rfl⟩, iteT ?_⟩
      refine ⟨by rw [upd_ne nqt.symm]; exact upd_same, tk q 0 0, rfl, by show 3 ≤ 15; decide, ?_⟩
      refine k _ t q ht nq (fun b o e => ?_) ⟨z :: zs, 0, 0, ⟨upd_same, by rw [upd_ne nqt]; exact upd_same, by rw [List.length_cons]; omega, by rw [← hns]; exact hl, by decide, by decide⟩, by decide⟩
      rw [upd_ne (ne_of_none e ht), upd_ne (ne_of_none e nq), upd_ne (ne_of_none e ht)]
      exact e
    | nil =>
      refine ⟨false, .inl ⟨_, SqL.of upd_same, rfl⟩, iteF ?_⟩
      refine ⟨by show 1 ≤ sizeLine; decide, fun p hp => ?_⟩
      have npq : p ≠ q := fun e => by
        rw [e, upd_same] at hp
        cases hp
      have npt : p ≠ t := fun e => by
        rw [e, upd_ne nqt.symm, upd_same] at hp
        cases hp
      have np : H p = none := by
        rw [← hp, upd_ne npq, upd_ne npt]
      refine ⟨by rw [upd_ne npt.symm, upd_ne nqt.symm]; exact upd_same, tk p 0 0, rfl, by show 3 ≤ 15; decide, ?_⟩
      refine k _ t p ht np (fun b o e => ?_) ⟨[0], 0, 0, ⟨upd_same, by rw [upd_ne npt]; exact upd_same, by decide, by decide, by decide, by decide⟩, by decide⟩
      rw [upd_ne (ne_of_none e ht), upd_ne (ne_of_none e np), upd_ne (ne_of_none e nq), upd_ne (ne_of_none e ht)]
      exact e
end

/-! ### {e for x in ..} whose items are whole numbers -/
/-- the reading: the new set stands at Z; a turn adds one whole number -/
def tScI (w : World) (wi : TI) (g : TG) (te : TE) (own : List Nat) : TE := fun σ H0 Q => wi σ H0 fun J Hb => ∀ Z, Hb Z = none →
  ∃ W : Nat → Nat → Hp → Prop, (∃ m, W 0 m (upd Hb Z (SetO w Z (fun _ => false) 0))) ∧ ∀ i m Hc, W i m Hc →
    (J.stop i Hc ∧ Q (.ref Z) Hc) ∨ (J.go i Hc ∧ ∃ Next : Hp → Prop, (∀ Hd, Next Hd → ∃ m', m' < m ∧ W (i + 1) m' Hd) ∧
      ∀ x Hd, J.yld i Hc x Hd → g x (wipe σ own) Hd fun σ' He => wipe σ' own = wipe σ own ∧ te σ' He fun y Hf =>
        ∃ (k : Int) (S : Int → Bool) (n : Nat), y = .int k ∧ Hf Z = some (SetO w Z S n) ∧ n + 1 < scanBound ∧ Next (upd Hf Z (SetO w Z (fun j => S j || decide (j = k)) (if S k = true then n else n + 1))))
section
variable {X : Cx}
theorem add_at_set {pins : List (Addr × Obj)} {σ : L2.St} {H : Hp} {s : Shared} {E : Value → Shared → Prop} {Z : Addr} {S : Int → Bool} {n : Nat} {k : Int} {u : Value} {Q : Value → Shared → Prop} (I : Inv X pins σ H s)
    (hZ : H Z = some (SetO X.w Z S n)) (few : n + 1 < scanBound) (ru : RelV (.int k) u) (q : ∀ s', Inv X pins σ (upd H Z (SetO X.w Z (fun j => S j || decide (j = k)) (if S k = true then n else n + 1))) s' → Q .none s') :
    wpAny (model X.prog X.w) X.A (call (.builtin "set.add") [.ref Z, u]) Q E s := by
  obtain ⟨t, rfl⟩ := ru
  refine setR_add (setO_get I hZ) few fun h2 same now => ?_
  have there : ∃ o, h2.get? Z = some o := by
    obtain ⟨o, _, _, _, ho, _⟩ := id now
    exact ⟨o, ho⟩
  exact q { s with heap := h2, toks := s.toks + 1 } (I.write (t' := s.toks + 1) (by rw [hZ]; trivial) (.inl rfl) (fun b o hb e => (same.2 b hb).trans e) there (setO_new now))
theorem pe_scI {elt tg iter : Expr} {scope : Scope} {own : List (PySem.Str × Nat)} {pos : Pos} {wi : TI} {g : TG} {te : TE} (hc : X.calm = true) (hN : X.N.Nodup) (hi : PI X tg iter wi) (ok : BlkOk X.N X.env.scope scope own)
    (hg : ∀ (s : Shared) (H : Hp) (C : Addr) (cl : List (PySem.Str × Addr)) (fp : List Addr), PG (X.blk s H scope (compEnvC scope cl C X.env) fp) tg g)
    (he : ∀ (s : Shared) (H : Hp) (C : Addr) (cl : List (PySem.Str × Addr)) (fp : List Addr), PE (X.blk s H scope (compEnvC scope cl C X.env) fp) elt te) (hs : ∀ x, foldedSetIterable iter X.env x = pure x := by intro _; rfl) :
    PE X (.SetComp elt [⟨tg, iter, [], 0⟩] scope pos) (tScI X.w wi g te (own.map (·.2))) := by
  refine ⟨fun pins s σ H Q I rd => ?_⟩
  have caught : ∀ p ∈ scope.names, p.2 = .free → ∃ c, X.env.cells.lookup p.1 = some c := by
    intro p hp e
    exact I.ok.has _ ((ok.free p hp e).elim .inl .inr)
  rw [PpSet.eval_SetComp]
  refine wpAny_comprehension_free (use := none) rfl hs (closure_ok caught) ok.kind (fun p hp e => (ok.uniq p hp).trans (congrArg some e)) ?_
  refine thn (hi.run pins s σ H _ I rd) fun xv sa ha => thn ha fun iv sb hb => ?_
  obtain ⟨it, fp, tn, J, Hb, rfl, Ib, T, tn0, free, q⟩ := hb
  refine PpSet.newSet_ok (newEnv_comp ?_)
  -- the new set's place
  generalize eZ : sb.heap.objs.size = Z
  have noZ : Hb Z = none := Ib.hok.fresh (Nat.le_of_eq eZ)
  obtain ⟨W, ⟨m0, W0⟩, turn⟩ := q Z noZ
  generalize eB : upd Hb Z (SetO X.w Z (fun _ => false) 0) = Hs at W0
  generalize ec : ({ sb with heap := sb.heap.push { cls := .type "set", dict := none, data := .set #[] 0 (.fresh 0 0 (!X.w.params.followText "set-order")) } } : Shared) = sc
  have hsc : sc.heap = sb.heap.push { cls := .type "set", dict := none, data := .set #[] 0 (.fresh 0 0 (!X.w.params.followText "set-order")) } := by
    rw [← ec]
  have Ic : Inv X pins σ Hs sc := by
    rw [← ec, ← eB]
    refine Ib.laid (t' := sb.toks) (fun _ _ e => Heap.get?_push_of_some _ e) (Nat.le_of_eq eZ) ?_
    rw [← eZ]
    exact setO_new (setR_fresh X.w)
  have older : ∀ b ∈ fp, b < Z := by
    intro b hb
    obtain ⟨o, e, _⟩ := T.obj 0 _ tn0 b hb
    exact eZ ▸ Heap.lt_size e
  have free2 : ∀ b ∈ fp, FpOk X pins Hs b ∧ b < sc.heap.objs.size := by
    intro b hb
    have l := older b hb
    refine ⟨⟨?_, (free b hb).2⟩, ?_⟩
    · rw [← eB, upd_ne (Nat.ne_of_lt l)]
      exact (free b hb).1
    · rw [hsc, Heap.size_push, eZ]
      exact Nat.lt_succ_of_lt l
  have tnc : tn 0 sc.heap := T.keep 0 _ _ tn0 fun b _ o e => by
    rw [hsc]
    exact Heap.get?_push_of_some _ e
  have Ie := block_start Ic ok hN free2
  show codeAny _ _ (.compStart (.SetComp elt [⟨tg, iter, [], 0⟩] scope pos) 0 (.ref it) (.ref Z) (compEnvC scope (cellsFrom (sc.heap.objs.size + 1) scope.names (cloFrom X.env.cells scope.names [])) sc.heap.objs.size X.env)) (compPost (model X.prog X.w) X.A X.xe none (EP X pins σ Q) (.ref Z) sc.heap.objs.size) _
  generalize ecl : cellsFrom (sc.heap.objs.size + 1) scope.names (cloFrom X.env.cells scope.names []) = cl at Ie
  have rg := hg sc Hs sc.heap.objs.size cl fp
  have re := he sc Hs sc.heap.objs.size cl fp
  generalize eE : compEnvC scope cl sc.heap.objs.size X.env = env at Ie rg re
  generalize ef : ({ sc with heap := pushCells (sc.heap.push { cls := .type "dict", data := .dict #[] }) scope.names } : Shared) = sf at Ie
  have tnf : tn 0 sf.heap := T.keep 0 _ _ tnc fun b _ o e => by
    rw [← ef]
    exact pushCells_keeps _ _ _ _ (Heap.get?_push_of_some _ e)
  have locE : env.locals = sc.heap.objs.size := by
    rw [← eE]
    rfl
  have held : ∀ {τ : L2.St} {G : Hp} {s' : Shared}, Inv (X.blk sc Hs scope env fp) [] τ G s' → (∀ b ∈ fp, G b = none) → ∀ b ∈ fp, FpOk (X.blk sc Hs scope env fp) [] G b := by
    intro τ G s' J' no b hb
    have x := J'.ok.exf b hb
    exact ⟨no b hb, x.1, J'.ok.exfs b hb, .inl hb, x.2, fun p hp => by cases hp⟩
  refine PpSet.codeAny_compStart_set ?_ (T.self X.A 0 _ _ _ tnf ?_)
  all_goals
    refine PpSet.compLoopS_any (fun m s' => ∃ i G, Inv (X.blk sc Hs scope env fp) [] (wipe σ (own.map (·.2))) G s' ∧ tn i s'.heap ∧ (∀ b ∈ fp, G b = none) ∧ W i m G) ?_ m0 ⟨0, Hs, Ie, tnf, fun b hb => (free2 b hb).1.1, W0⟩
    rintro m s1 ⟨i, G, I1, tn1, no1, w1⟩
    rcases turn i m G w1 with ⟨stop, fin⟩ | ⟨go, Next, less, step⟩
    · refine thnF (T.done (X.blk sc Hs scope env fp) rfl rfl rfl hc i [] s1 _ G (fun _ _ => False) I1 (held I1 no1) tn1 stop) fun r s2 ⟨er, I2⟩ => ?_
      subst er
      have out : Inv X pins σ G s2 := Ic.call' (ch := fp) I2.os I2.base I2.hok I2.bare fun b hb => by
        have z := (free2 b hb).1
        exact ⟨z.2.2.2.1, z.2.1, z.2.2.2.2.1, z.2.2.2.2.2⟩
      have nl : G env.locals = none := I2.free
      obtain ⟨mp, ns, _⟩ := I2.loc
      have ns : s2.heap.Ns env.locals mp := ns
      rw [locE] at nl ns
      have fo := Ic.fpOk (Nat.le_refl _) nl
      exact ⟨mp, ns, fun h3 sb3 => ⟨.ref Z, G, out.turned (t' := s2.toks) (fun b o hb e => (sb3.2 b hb).trans e) fo.1 fo.2.1 fo.2.2.2.1 fo.2.2.2.2.1 fo.2.2.2.2.2, rfl, fin⟩⟩
    · refine thnF (T.item (X.blk sc Hs scope env fp) rfl rfl rfl hc i [] s1 _ G (fun _ _ => False) I1 (held I1 no1) tn1 go) fun r s2 ⟨u, er, h2⟩ => ?_
      subst er
      refine thnF h2 fun _ s3 ⟨x, G3, I3, rx, y3, tn3, no3⟩ => ?_
      refine thnF (rg.run _ s3 _ G3 x u _ (I3.pinned (held I3 no3) (T.obj _ _ tn3)) rx (step x G3 y3)) fun _ s4 ⟨τ, G4, I4, ew, r4⟩ => ?_
      show wpAny _ _ (pure true) _ _ _
      refine wpAny_pure ?_
      show (if true = true then _ else _)
      rw [if_pos rfl]
      refine thnF (re.run _ s4 τ G4 _ I4 r4) fun z s5 ⟨y, G5, I5, rz, k, S, n, ey, hZ, few, nx⟩ => ?_
      subst ey
      refine add_at_set (X := X.blk sc Hs scope env fp) I5 hZ few rz fun s6 I6 => ?_
      obtain ⟨m', lt, w'⟩ := less _ nx
      have kept : ∀ b ∈ fp, ∀ o, s3.heap.get? b = some o → s6.heap.get? b = some o ∧ (upd G5 Z (SetO X.w Z (fun j => S j || decide (j = k)) (if S k = true then n else n + 1))) b = none := by
        intro b hb o e
        have p := I6.pin (b, o) (List.mem_append_right _ (List.mem_append_right _ (mem_pinsAt hb e)))
        exact ⟨p.1, p.2.1⟩
      refine ⟨m', lt, i + 1, _, (I6.unpinned (pins := [])).weak (by rw [← ew, wipe_length]) (fun j v e => ?_), T.keep _ _ _ tn3 fun b hb o e => (kept b hb o e).1, fun b hb => ?_, w'⟩
      · rw [← ew] at e
        exact (wipe_some e).1
      · obtain ⟨o, e, _⟩ := T.obj _ _ tn3 b hb
        exact (kept b hb o e).2
end
/-! ### how many there are in a set -/
theorem call_lenS {X : Cx} : CallR X (.builtin "len") (fun xs H Q => ∃ a S n, xs = [.ref a] ∧ H a = some (SetO X.w a S n) ∧ Q (.int (n : Nat)) H) := by
  intro pins s σ H xs us Q I r h
  obtain ⟨a, S, n, rfl, ha, q⟩ := h
  obtain ⟨u, rfl, ru⟩ := vals1 r
  cases ru
  obtain ⟨o, es, ep, t, ho, hex, hd, _, _, _, hb, hf, hn, _⟩ := setO_get I ha
  have line : scanBound = 4096 := rfl
  exact call_len_set ho hex hd hf (by omega) ⟨.int (n : Nat), H, I.tok _, ⟨_, by rw [hn]⟩, q⟩
def dist (acc : List Int) : List Int → List Int := List.foldl step_dedup acc
theorem dist_le : ∀ (ns acc : List Int), (dist acc ns).length ≤ acc.length + ns.length
  | [], acc => Nat.le_refl _
  | n :: r, acc => by
    show (dist (step_dedup acc n) r).length ≤ acc.length + (r.length + 1)
    have h := dist_le r (step_dedup acc n)
    have h2 : (step_dedup acc n).length ≤ acc.length + 1 := by
      unfold step_dedup
      split
      · omega
      · rw [List.length_append]
        exact Nat.le_refl _
    omega
theorem dist_nodup : ∀ (ns acc : List Int), (dist acc ns).length = acc.length + ns.length ↔ ns.Nodup ∧ ∀ k ∈ ns, k ∉ acc
  | [], acc => by
    constructor
    · intro _
      exact ⟨List.nodup_nil, fun k h => by cases h⟩
    · intro _
      rfl
  | n :: r, acc => by
    show (dist (step_dedup acc n) r).length = acc.length + (r.length + 1) ↔ _
    by_cases hm : n ∈ acc
    · have e : step_dedup acc n = acc := by
        unfold step_dedup
        rw [if_pos (List.any_eq_true.mpr ⟨n, hm, by simp⟩)]
      rw [e]
      have l := dist_le r acc
      constructor
      · intro z
        omega
      · intro z
        exact absurd hm (z.2 n List.mem_cons_self)
    · have e : step_dedup acc n = acc ++ [n] := by
        unfold step_dedup
        rw [if_neg]
        intro z
        obtain ⟨y, hy, ey⟩ := List.any_eq_true.mp z
        exact hm ((beq_iff_eq.mp ey) ▸ hy)
      rw [e]
      have ih := dist_nodup r (acc ++ [n])
      rw [List.length_append] at ih
      have e2 : acc.length + (r.length + 1) = acc.length + [n].length + r.length := by
        show _ = acc.length + 1 + r.length
        omega
      rw [e2, ih, List.nodup_cons]
      constructor
      · rintro ⟨nd, no⟩
        refine ⟨⟨fun z => no n z (List.mem_append_right _ (List.mem_singleton.mpr rfl)), nd⟩, fun k hk => ?_⟩
        rcases List.mem_cons.mp hk with rfl | hk
        · exact hm
        · exact fun z => no k hk (List.mem_append_left _ z)
      · rintro ⟨⟨nm, nd⟩, no⟩
        refine ⟨nd, fun k hk z => ?_⟩
        rcases List.mem_append.mp z with z | z
        · exact no k (List.mem_cons_of_mem _ hk) z
        · exact nm ((List.mem_singleton.mp z) ▸ hk)
/-- how many unlike ones there are -/
def many (ns : List Int) : Nat := (dist [] ns).length
theorem many_nodup (ns : List Int) : many ns = ns.length ↔ ns.Nodup := by
  have h := dist_nodup ns []
  simp only [List.length_nil, Nat.zero_add, List.not_mem_nil, not_false_eq_true, implies_true, and_true] at h
  exact h
theorem first_dist (ns : List Int) : firstMet (fun i => ns.getD i 0) ns.length = dist [] ns := by
  unfold firstMet
  have e : (List.range ns.length).map (fun i => ns.getD i 0) = ns := by
    apply List.ext_getElem?
    intro i
    rw [List.getElem?_map]
    by_cases h : i < ns.length
    · rw [List.getElem?_range h, List.getElem?_eq_getElem h]
      show some (ns.getD i 0) = _
      rw [List.getD_eq_getElem?_getD, List.getElem?_eq_getElem h]
      rfl
    · rw [List.getElem?_eq_none (by rw [List.length_range]; omega), List.getElem?_eq_none (by omega)]
      rfl
  rw [e]
  rfl
theorem ints_are : ∀ {ns : List Int} {us : List Value}, Vals (ns.map V.int) us → IntsAre us ns
  | [], us, h => by
    cases h
    exact .nil
  | n :: r, us, h => by
    cases h with
    | cons a b =>
      obtain ⟨t, rfl⟩ := a
      exact .cons _ _ (ints_are b)
/-- len(set(xs)), xs a list of whole numbers -/
def tLenOf (K : PySem.W.Frag) (ta : TE) : TE := fun σ H Q => ta σ H fun x H1 => ∃ (l : Addr) (ns : List Int), x = .ref l ∧ SqL K H1 l (ns.map V.int) ∧ ns.length ≤ 4000 ∧ Q (.int (many ns : Nat)) H1
theorem pe_lenOf {X : Cx} {a : Expr} {ta : TE} {p p2 q pos : Pos} (hg : Gl X "len") (hm : X.mg "len" = none) (hg2 : Gl X "set") (hm2 : X.mg "set" = none) (ha : PE X a ta) (hc : X.calm = true := by rfl)
    (na : starEach [a] X.env = (false, eval a X.env) :: starEach [] X.env := by rfl) : PE X (.Call (.Name "len" p) [.Call (.Name "set" p2) [a] [] q] [] pos) (tLenOf X.K ta) := by
  refine ⟨fun pins s σ H Q I rd => Call_ (ld_blt I hg hm boot_len (callWith_builtin1 (args_cons ?_ rfl) rfl rfl))⟩
  refine Call_ (ld_blt I hg2 hm2 boot_set (callWith_type1 (args_cons (thn (ha.run pins s σ H _ I rd) fun v sa ⟨x, Ha, Ia, rx, rest⟩ => args_nil ?_) na) na rfl))
  obtain ⟨l, ns, rfl, at_l, few, rest⟩ := rest
  cases rx
  obtain ⟨its, vs, pl, _⟩ := Ia.list at_l
  have size : its.toArray.size = ns.length := by
    rw [List.size_toArray, ← vs.length, List.length_map]
  have line : scanBound = 4096 := rfl
  refine call_set_list (Ia.ok.hd hc) pl.isList (by simpa using ints_are vs) (by omega) fun h2 tk made kept => args_nil ?_
  rw [size, first_dist] at made
  obtain ⟨o, es, ep, t, ho, hex, hd, _, _, _, hf, hn⟩ := made
  have Ib : Inv X pins σ Ha { sa with heap := h2, toks := tk } := Ia.kept fun b o e => kept b o (Heap.lt_size e) e
  have le := dist_le ns []
  exact call_len_set ho hex hd hf (by rw [hn]; simp only [List.length_nil] at le; omega) ⟨.int (many ns : Nat), Ha, Ib.tok _, ⟨_, by rw [hn]; rfl⟩, rest⟩
/-- the set of f's numbers over a tuple: how many there are is told, whether as many as items -/
theorem scI_tup {w : World} {K : PySem.W.Frag} {a : Addr} {xs : List V} {te : TE} {vs : List Nat} {σ : L2.St} {H : Hp} {Z : Addr} {Qd : Hp → Prop} {j : Nat} (f : V → Int) (hx : SqT K H a xs) (hZ : H Z = none) (hz : xs.length ≤ 4000)
    (hs : ∀ x ∈ xs, SelT H σ vs j tYes te x true (.int (f x))) (k : ∀ H' S n, Same H H' → H' Z = some (SetO w Z S n) → (n = xs.length ↔ (xs.map f).Nodup) → (∀ i, S i = true ↔ i ∈ xs.map f) → Qd H') :
    ∃ W : Nat → Nat → Hp → Prop, (∃ m, W 0 m (upd H Z (SetO w Z (fun _ => false) 0))) ∧ ∀ i m Hc, W i m Hc →
    ((Itt K a).stop i Hc ∧ Qd Hc) ∨ ((Itt K a).go i Hc ∧ ∃ Next : Hp → Prop, (∀ Hd, Next Hd → ∃ m', m' < m ∧ W (i + 1) m' Hd) ∧
      ∀ x Hd, (Itt K a).yld i Hc x Hd → gName j x (wipe σ vs) Hd fun σ' He => wipe σ' vs = wipe σ vs ∧ te σ' He fun y Hf =>
        ∃ (k : Int) (S : Int → Bool) (n : Nat), y = .int k ∧ Hf Z = some (SetO w Z S n) ∧ n + 1 < scanBound ∧ Next (upd Hf Z (SetO w Z (fun j => S j || decide (j = k)) (if S k = true then n else n + 1)))) := by
  have line : scanBound = 4096 := rfl
  refine ⟨fun i m Hc => m = xs.length - i ∧ i ≤ xs.length ∧ Same H Hc ∧ ∃ S n, Hc Z = some (SetO w Z S n) ∧ n ≤ i ∧ (n = i ↔ ((xs.take i).map f).Nodup) ∧ ∀ v, S v = true ↔ v ∈ (xs.take i).map f,
    ⟨xs.length, rfl, Nat.zero_le _, same_new hZ, _, 0, upd_same, Nat.le_refl _, by simp, by simp⟩, ?_⟩
  rintro i m Hc ⟨rfl, hi, sm, S, n, hS, le, iff, mem⟩
  have at_a := Same.seqT sm hx
  by_cases lt : i < xs.length
  · refine .inr ⟨⟨xs, xs[i], at_a, List.getElem?_eq_getElem lt⟩, fun Hd => Same H Hd ∧ ∃ S n, Hd Z = some (SetO w Z S n) ∧ n ≤ i + 1 ∧ (n = i + 1 ↔ ((xs.take (i + 1)).map f).Nodup) ∧ ∀ v, S v = true ↔ v ∈ (xs.take (i + 1)).map f,
      fun Hd h => ⟨xs.length - (i + 1), by omega, rfl, lt, h⟩, ?_⟩
    rintro x Hd ⟨rfl, hy⟩
    have gx := hy xs at_a
    have ex := Option.some.inj ((List.getElem?_eq_getElem lt).symm.trans gx)
    have s := hs x (List.mem_of_getElem? gx)
    refine ⟨s.wip, s.elt rfl Hd sm _ fun He se => ⟨f x, S, n, rfl, se Z _ hS, by omega, fun b o e => ?_, _, _, upd_same, ?_, ?_, fun v => ?_⟩⟩
    · rw [upd_ne (ne_of_none e hZ)]
      exact se b o (sm b o e)
    · split <;> omega
    · have et : xs.take (i + 1) = xs.take i ++ [x] := by
        rw [List.take_add_one, gx]
        rfl
      rw [et, List.map_append, List.nodup_append]
      have hm := mem (f x)
      constructor
      · intro h
        by_cases c : S (f x) = true
        · rw [if_pos c] at h
          omega
        · rw [if_neg c] at h
          refine ⟨iff.mp (by omega), by simp, fun p hp q hq => ?_⟩
          have eq : q = f x := by simpa using hq
          rw [eq]
          intro e
          rw [e] at hp
          exact c (hm.mpr hp)
      · rintro ⟨h1, _, h3⟩
        have c : ¬ S (f x) = true := fun c => h3 _ (hm.mp c) _ (by simp) rfl
        rw [if_neg c, iff.mpr h1]
    · have et : xs.take (i + 1) = xs.take i ++ [x] := by
        rw [List.take_add_one, gx]
        rfl
      rw [et, List.map_append, List.mem_append, Bool.or_eq_true, decide_eq_true_eq, mem v]
      simp
  · have e : i = xs.length := by omega
    subst e
    rw [List.take_length] at iff mem
    exact .inl ⟨⟨xs, at_a, Nat.le_refl _⟩, k Hc S n sm hS iff mem⟩

/-! ### things -/
inductive Plain (H : Hp) : V → Prop where
  | non : Plain H .non
  | bl (b : Bool) : Plain H (.bl b)
  | int (i : Int) : Plain H (.int i)
  | str (s : Str) : Plain H (.str s)
  | lst {a : Addr} {xs : List V} (h : H a = some (.lst xs)) : Plain H (.ref a)
  | tup {a : Addr} {xs : List V} (h : H a = some (.tup xs)) : Plain H (.ref a)
def isIntV : V → Bool
  | .int _ => true
  | _ => false
def isNumV : V → Bool
  | .int _ => true
  | .bl _ => true
  | _ => false
def isBlV : V → Bool
  | .bl _ => true
  | _ => false
theorem whole_V (x : V) : isIntV x = (isNumV x && !isBlV x) := by cases x <;> rfl
theorem plain_ty {K : PySem.W.Frag} {H : Hp} {x : V} (h : Plain H x) : ∃ s, TyX K H x (.type s) ∧ PySem.W.kitOne K (.type s) (.type "int") = some (isNumV x) ∧ PySem.W.kitOne K (.type s) (.type "bool") = some (isBlV x) := by
  cases h with
  | non => exact ⟨_, .base .non, kit_ty (by decide +kernel), kit_ty (by decide +kernel)⟩
  | bl b => exact ⟨_, .base (.bl b), kit_ty (by show kitB "bool" "int" = some true; decide +kernel), kit_ty (by show kitB "bool" "bool" = some true; decide +kernel)⟩
  | int i => exact ⟨_, .base (.int i), kit_ty (by show kitB "int" "int" = some true; decide +kernel), kit_ty (by show kitB "int" "bool" = some false; decide +kernel)⟩
  | str s => exact ⟨_, .base (.str s), kit_ty (by show kitB "str" "int" = some false; decide +kernel), kit_ty (by show kitB "str" "bool" = some false; decide +kernel)⟩
  | lst e => exact ⟨_, .base (.lst e), kit_ty (by show kitB "list" "int" = some false; decide +kernel), kit_ty (by show kitB "list" "bool" = some false; decide +kernel)⟩
  | tup e => exact ⟨_, .base (.tup e), kit_ty (by show kitB "tuple" "int" = some false; decide +kernel), kit_ty (by show kitB "tuple" "bool" = some false; decide +kernel)⟩
def absI (n : Int) : Int := if n < 0 then -n else n
def markV : V → Bool
  | .int i => decide (1 ≤ absI i) && decide (absI i ≤ 1000000000000)
  | _ => false
theorem int_of {x : V} (h : isIntV x = true) : ∃ i, x = .int i := by
  cases x <;> first | exact ⟨_, rfl⟩ | exact Bool.noConfusion h
theorem mark_no {x : V} (h : isIntV x = false) : markV x = false := by
  cases x <;> first | rfl | exact Bool.noConfusion h
def spWhole : Sp := fun vs H Q _ => ∃ x, vs = [x] ∧ Plain H x ∧ Q (.bl (isIntV x)) H
def spMark : Sp := fun vs H Q _ => ∃ x, vs = [x] ∧ Plain H x ∧ Q (.bl (markV x)) H
section
variable {P : Program} {w : World} {K : PySem.W.Frag} {mg : Str → Option Value} {base : Heap}
theorem has_whole (T : Top K mg) : Has P w K mg base 1 "is_whole" ["thing"] spWhole := by
  refine has_of T.d_is_whole sc_is_whole bd_is_whole (fun vs H Q E h => ?_) (fun f cdv A outer s H vs Q E hr h => ?_)
  · obtain ⟨x, rfl, _⟩ := h
    rfl
  · have hu := hu_of hr
    have nd := sc_is_whole.nd
    obtain ⟨x, rfl, hx, k⟩ := h
    refine ⟨_, (pss_one (ps_ret (pe_and (pe_callB call_isi (by rfl) T.b_isinstance (by decide +kernel) (pa_cons (pv 0) (pa_cons (pe_bltn (v := .ty "int") (u := .type "int") (by rfl) T.b_int (by decide +kernel) (by rfl)) pa_nil))) (pe_one (pe_not (pe_callB call_isi (by rfl) T.b_isinstance (by decide +kernel) (pa_cons (pv 0) (pa_cons (pe_bltn (v := .ty "bool") (u := .type "bool") (by rfl) T.b_bool (by decide +kernel) (by rfl)) pa_nil)))))))), ?_⟩
    obtain ⟨s, ty, e1, e2⟩ := plain_ty (K := K) hx
    refine ⟨_, rfl, x, .ty "int", _, _, _, rfl, .ty _, ty, e1, _, rfl, ?_⟩
    rw [whole_V] at k
    cases hb : isNumV x with
    | false =>
      rw [hb] at k
      exact iteF k
    | true =>
      rw [hb] at k
      refine iteT ⟨_, rfl, x, .ty "bool", _, _, _, rfl, .ty _, ty, e2, _, rfl, ?_⟩
      exact k
theorem has_mark (T : Top K mg) (h_is_whole : Has P w K mg base 1 "is_whole" ["thing"] spWhole) : Has P w K mg base 2 "is_mark" ["thing"] spMark := by
  refine has_of T.d_is_mark sc_is_mark bd_is_mark (fun vs H Q E h => ?_) (fun f cdv A outer s H vs Q E hr h => ?_)
  · obtain ⟨x, rfl, _⟩ := h
    rfl
  · have hu := hu_of hr
    have nd := sc_is_mark.nd
    obtain ⟨x, rfl, hx, k⟩ := h
    refine ⟨_, (pss_one (ps_ret (pe_and (pe_has h_is_whole (hr.mono (by omega)) (by rfl) (pa_cons (pv 0) pa_nil)) (pe_one (pe_chain op_le op_le pe_int (pe_callB call_abs (by rfl) T.b_abs (by decide +kernel) (pa_cons (pv 0) pa_nil)) (pe_const T.c_GREATEST_NAME (by rfl))))))), ?_⟩
    refine ⟨_, rfl, x, rfl, hx, _, rfl, ?_⟩
    cases hb : isIntV x with
    | false =>
      rw [mark_no hb] at k
      exact iteF k
    | true =>
      obtain ⟨i, rfl⟩ := int_of hb
      refine iteT ⟨_, rfl, i, rfl, _, _, rfl, rfl, _, rfl, ?_⟩
      have k' : Q (.bl (decide (1 ≤ absI i) && decide (absI i ≤ 1000000000000))) H := k
      refine ite2 (fun h1 => ?_) (fun h1 => ?_)
      · have h1' : decide (1 ≤ absI i) = true := h1
        rw [h1'] at k'
        exact ⟨_, _, rfl, rfl, k'⟩
      · have h1' : decide (1 ≤ absI i) = false := Bool.eq_false_iff.mpr h1
        rw [h1'] at k'
        exact k'
end

/-! ### what may be asked -/
/-- a thing whose items, where it is a tuple, are plain -/
structure Ask (H : Hp) (x : V) : Prop where
  pl : Plain H x
  it : ∀ a xs, x = .ref a → H a = some (.tup xs) → (∀ y ∈ xs, Plain H y) ∧ xs.length ≤ 80
theorem Plain.same {H H' : Hp} {x : V} (s : Same H H') (h : Plain H x) : Plain H' x := by
  cases h with
  | non => exact .non
  | bl b => exact .bl b
  | int i => exact .int i
  | str z => exact .str z
  | lst e => exact .lst (s _ _ e)
  | tup e => exact .tup (s _ _ e)
/-- the absolute value of a mark -/
def absOf : V → Int
  | .int i => absI i
  | _ => 0
def tupB (xs : List V) : Bool := decide (xs.length ≤ 64) && (xs.all markV && decide ((xs.map absOf).Nodup))
def clauseB (H : Hp) : V → Bool
  | .ref a => match H a with
    | some (.tup xs) => tupB xs
    | _ => false
  | _ => false
theorem clauseB_tup {H : Hp} {a : Addr} {xs : List V} (h : H a = some (.tup xs)) : clauseB H (.ref a) = tupB xs := by
  show (match H a with | some (.tup xs) => tupB xs | _ => false) = _
  rw [h]
/-- a plain thing is a tuple, or nothing of the kind -/
theorem plain_tup {K : PySem.W.Frag} {H : Hp} {x : V} (h : Plain H x) : (∃ a xs, x = .ref a ∧ H a = some (.tup xs)) ∨ (clauseB H x = false ∧ ∃ s, TyX K H x (.type s) ∧ PySem.W.kitOne K (.type s) (.type "tuple") = some false) := by
  cases h with
  | non => exact .inr ⟨rfl, _, .base .non, kit_ty (by decide +kernel)⟩
  | bl b => exact .inr ⟨rfl, _, .base (.bl b), kit_ty (by show kitB "bool" "tuple" = some false; decide +kernel)⟩
  | int i => exact .inr ⟨rfl, _, .base (.int i), kit_ty (by show kitB "int" "tuple" = some false; decide +kernel)⟩
  | str s => exact .inr ⟨rfl, _, .base (.str s), kit_ty (by show kitB "str" "tuple" = some false; decide +kernel)⟩
  | @lst a xs e =>
    refine .inr ⟨?_, _, .base (.lst e), kit_ty (by show kitB "list" "tuple" = some false; decide +kernel)⟩
    show (match H a with | some (.tup xs) => tupB xs | _ => false) = false
    rw [e]
  | tup e => exact .inl ⟨_, _, rfl, e⟩
def spClause : Sp := fun vs H Q _ => ∃ x, vs = [x] ∧ Ask H x ∧ ∀ H', Same H H' → Q (.bl (clauseB H x)) H'
section
variable {P : Program} {w : World} {K : PySem.W.Frag} {mg : Str → Option Value} {base : Heap}
theorem mark_abs {x : V} (h : markV x = true) : ∃ i, x = .int i := by
  cases x <;> first | exact ⟨_, rfl⟩ | exact Bool.noConfusion h
theorem no_bad : ∀ xs : List V, ((xs.filter fun x => !markV x).map fun x => x).isEmpty = xs.all markV
  | [] => rfl
  | y :: ys => by
    have ih := no_bad ys
    cases hy : markV y with
    | true =>
      rw [List.filter_cons, if_neg (by rw [hy]; decide), ih, List.all_cons, hy, Bool.true_and]
    | false =>
      rw [List.filter_cons, if_pos (by rw [hy]; rfl), List.all_cons, hy, Bool.false_and]
      rfl
theorem abs_ints : ∀ xs : List V, xs.all markV = true → (xs.filter (fun _ => true)).map (fun x => V.int (absOf x)) = (xs.map absOf).map V.int := fun xs _ => by
  rw [filter_all, List.map_map]
  rfl
theorem has_clause (T : Top K mg) (h_is_mark : Has P w K mg base 2 "is_mark" ["thing"] spMark) : Has P w K mg base 3 "is_clause" ["thing"] spClause := by
  refine has_of T.d_is_clause sc_is_clause bd_is_clause (fun vs H Q E h => ?_) (fun f cdv A outer s H vs Q E hr h => ?_)
  · obtain ⟨x, rfl, _⟩ := h
    rfl
  · have hu := hu_of hr
    have nd := sc_is_clause.nd
    obtain ⟨x, rfl, hx, k⟩ := h
    refine ⟨_, (pss_cons (ps_if (PW.pt (pw_or (pt_not (pt_val (pe_callB call_isi (by rfl) T.b_isinstance (by decide +kernel) (pa_cons (pv 0) (pa_cons (pe_bltn (v := .ty "tuple") (u := .type "tuple") (by rfl) T.b_tuple (by decide +kernel) (by rfl)) pa_nil))))) (pw_or1 (pt_cmpR op_gt (pe_callB call_len_seq (by rfl) T.b_len (by decide +kernel) (pa_cons (pv 0) pa_nil)) (pe_const T.c_MOST_MARKS (by rfl)) (nomark _))))) (pss_one (ps_ret pe_bl)) pss_nil)
    (pss_cons (ps_if (pt_not (pt_val (pe_callB (cr_all rfl) (by rfl) T.b_all (by decide +kernel) (pa_cons (pe_lc (own := [("mark", 1)]) (by rfl) nd (pi_tup (pv 0)) (blkOk_by (own := [("mark", 1)]) (N := nm_is_clause) (sc := defScope s_is_clause) (by decide +kernel)) (fun _ _ _ _ _ => pg_name (i := 1) nd rfl (.inl rfl)) (fun _ _ _ _ _ => pts_nil) (fun _ _ _ _ _ => (pe_has h_is_mark (hr.mono (by omega)) (by rfl) (pa_cons (pv 1) pa_nil)))) pa_nil)))) (pss_one (ps_ret pe_bl)) pss_nil)
    (pss_one (ps_ret (pe_cmpR op_eq (pe_callB call_lenS (by rfl) T.b_len (by decide +kernel) (pa_cons (pe_scI (own := [("mark", 1)]) (by rfl) nd (pi_tup (pv 0)) (blkOk_by (own := [("mark", 1)]) (N := nm_is_clause) (sc := defScope s_is_clause) (by decide +kernel)) (fun _ _ _ _ _ => pg_name (i := 1) nd rfl (.inl rfl)) (fun _ _ _ _ _ => (pe_callB call_abs (by rfl) T.b_abs (by decide +kernel) (pa_cons (pv 1) pa_nil)))) pa_nil)) (pe_callB call_len_seq (by rfl) T.b_len (by decide +kernel) (pa_cons (pv 0) pa_nil)) (nomark _)))))), ?_⟩
    rcases plain_tup (K := K) hx.pl with ⟨a, xs, rfl, ha⟩ | ⟨no, ty, t1, t2⟩
    · obtain ⟨pl, few⟩ := hx.it a xs rfl ha
      have k' := k
      rw [clauseB_tup ha] at k'
      refine ⟨_, rfl, .ref a, .ty "tuple", _, _, true, rfl, .ty _, .base (.tup ha), kit_ty (by decide +kernel), true, rfl, iteF ?_⟩
      refine ⟨_, rfl, a, xs, rfl, .inr (SqT.of ha), _, _, rfl, rfl, _, rfl, ite2 (fun big => ?_) (fun big => ?_)⟩
      · have e : tupB xs = false := by
          have b : (64 : Int) < (xs.length : Int) := of_decide_eq_true big
          unfold tupB
          rw [decide_eq_false (by omega), Bool.false_and]
        rw [e] at k'
        exact k' H (Same.refl H)
      · have b : ¬ (64 : Int) < (xs.length : Int) := fun z => big (decide_eq_true z)
        have e1 : decide (xs.length ≤ 64) = true := decide_eq_true (by omega)
        refine ⟨_, rfl, a, rfl, ⟨xs, SqT.of ha⟩, fun D hD => lc_sel_tup (fun _ => true) (fun x => .bl (markV x)) (SqT.of ha) hD (by omega) (fun x hm => ?_) fun H1 s1 h1 => ?_⟩
        · exact ⟨rfl, fun H' s' R q => q H' (Same.refl _), fun _ H' s' R q => ⟨_, rfl, x, rfl, (pl x hm).same s', q H' (Same.refl _)⟩⟩
        have eb : (xs.filter (fun _ => true)).map (fun x => V.bl (markV x)) = (xs.map markV).map V.bl := by
          rw [filter_all, List.map_map]
          rfl
        rw [eb] at h1
        refine ⟨D, xs.map markV, rfl, SqL.of h1, _, rfl, ?_⟩
        have ea : (xs.map markV).all id = xs.all markV := by
          rw [List.all_map]
          rfl
        rw [ea]
        cases hm : xs.all markV with
        | false =>
          have e : tupB xs = false := by
            unfold tupB
            rw [hm, Bool.false_and, Bool.and_false]
          rw [e] at k'
          exact iteT (k' H1 s1)
        | true =>
          have e : tupB xs = decide ((xs.map absOf).Nodup) := by
            unfold tupB
            rw [hm, Bool.true_and, e1, Bool.true_and]
          rw [e] at k'
          refine iteF ⟨_, rfl, a, rfl, ⟨xs, SqT.of (s1 _ _ ha)⟩, fun Z hZ => scI_tup absOf (SqT.of (s1 _ _ ha)) hZ (by omega) (fun x hx2 => ?_) fun H2 S n s2 h2 iff _ => ?_⟩
          · obtain ⟨i, rfl⟩ := mark_abs (List.all_eq_true.mp hm x hx2)
            exact ⟨rfl, fun H' s' R q => q H' (Same.refl _), fun _ H' s' R q => ⟨_, rfl, i, rfl, q H' (Same.refl _)⟩⟩
          · refine ⟨Z, S, n, rfl, h2, _, rfl, a, xs, rfl, .inr (SqT.of (s2 _ _ (s1 _ _ ha))), rfl, ?_⟩
            have ed : decide (V.int (n : Nat) = V.int (xs.length : Nat)) = decide ((xs.map absOf).Nodup) := by
              by_cases c : n = xs.length
              · rw [decide_eq_true (iff.mp c), decide_eq_true]
                rw [c]
              · rw [decide_eq_false fun z => c (iff.mpr z), decide_eq_false]
                intro z
                exact c (Int.ofNat.inj (V.int.inj z))
            rw [ed]
            exact k' H2 (s1.trans s2)
    · rw [no] at k
      exact ⟨_, rfl, x, .ty "tuple", _, _, false, rfl, .ty _, t1, t2, false, rfl, iteT (iteT (k H (Same.refl H)))⟩
/-! ### the law's own -/
theorem has_lmark (T : Top K mg) : Has P w K mg base 1 "_law_is_mark" ["_law_thing"] spMark := by
  refine has_of T.d__law_is_mark sc__law_is_mark bd__law_is_mark (fun vs H Q E h => ?_) (fun f cdv A outer s H vs Q E hr h => ?_)
  · obtain ⟨x, rfl, _⟩ := h
    rfl
  · have hu := hu_of hr
    have nd := sc__law_is_mark.nd
    obtain ⟨x, rfl, hx, k⟩ := h
    refine ⟨_, (pss_one (ps_ret (pe_and (pe_callB call_isi (by rfl) T.b_isinstance (by decide +kernel) (pa_cons (pv 0) (pa_cons (pe_bltn (v := .ty "int") (u := .type "int") (by rfl) T.b_int (by decide +kernel) (by rfl)) pa_nil))) (pe_and (pe_not (pe_callB call_isi (by rfl) T.b_isinstance (by decide +kernel) (pa_cons (pv 0) (pa_cons (pe_bltn (v := .ty "bool") (u := .type "bool") (by rfl) T.b_bool (by decide +kernel) (by rfl)) pa_nil)))) (pe_one (pe_chain op_le op_le pe_int (pe_callB call_abs (by rfl) T.b_abs (by decide +kernel) (pa_cons (pv 0) pa_nil)) (pe_op op_pow pe_int pe_int))))))), ?_⟩
    cases hx with
    | int i =>
      refine ⟨_, rfl, .int i, .ty "int", _, _, true, rfl, .ty _, .base (.int i), kit_ty (by decide +kernel), _, rfl, iteT ⟨_, rfl, .int i, .ty "bool", _, _, false, rfl, .ty _, .base (.int i), kit_ty (by decide +kernel), _, rfl, _, rfl, iteT ⟨_, rfl, i, rfl, _, _, rfl, rfl, _, rfl, ?_⟩⟩⟩
      have k' : Q (.bl (decide (1 ≤ absI i) && decide (absI i ≤ 1000000000000))) H := k
      refine ite2 (fun h1 => ?_) (fun h1 => ?_)
      · have h1' : decide (1 ≤ absI i) = true := h1
        rw [h1'] at k'
        exact ⟨_, _, rfl, rfl, ⟨by decide, by decide, by decide⟩, _, _, rfl, rfl, k'⟩
      · have h1' : decide (1 ≤ absI i) = false := Bool.eq_false_iff.mpr h1
        rw [h1'] at k'
        exact k'
    | bl b => exact ⟨_, rfl, .bl b, .ty "int", _, _, true, rfl, .ty _, .base (.bl b), kit_ty (by show kitB "bool" "int" = some true; decide +kernel), _, rfl, iteT ⟨_, rfl, .bl b, .ty "bool", _, _, true, rfl, .ty _, .base (.bl b), kit_ty (by show kitB "bool" "bool" = some true; decide +kernel), _, rfl, _, rfl, iteF k⟩⟩
    | non => exact ⟨_, rfl, .non, .ty "int", _, _, false, rfl, .ty _, .base .non, kit_ty (by decide +kernel), _, rfl, iteF k⟩
    | str z => exact ⟨_, rfl, .str z, .ty "int", _, _, false, rfl, .ty _, .base (.str z), kit_ty (by decide +kernel), _, rfl, iteF k⟩
    | lst e => exact ⟨_, rfl, _, .ty "int", _, _, false, rfl, .ty _, .base (.lst e), kit_ty (by decide +kernel), _, rfl, iteF k⟩
    | tup e => exact ⟨_, rfl, _, .ty "int", _, _, false, rfl, .ty _, .base (.tup e), kit_ty (by decide +kernel), _, rfl, iteF k⟩
theorem has_lclause (T : Top K mg) (h__law_is_mark : Has P w K mg base 1 "_law_is_mark" ["_law_thing"] spMark) : Has P w K mg base 2 "_law_is_clause" ["_law_thing"] spClause := by
  refine has_of T.d__law_is_clause sc__law_is_clause bd__law_is_clause (fun vs H Q E h => ?_) (fun f cdv A outer s H vs Q E hr h => ?_)
  · obtain ⟨x, rfl, _⟩ := h
    rfl
  · have hu := hu_of hr
    have nd := sc__law_is_clause.nd
    obtain ⟨x, rfl, hx, k⟩ := h
    refine ⟨_, (pss_cons (ps_if (PW.pt (pw_or (pt_not (pt_val (pe_callB call_isi (by rfl) T.b_isinstance (by decide +kernel) (pa_cons (pv 0) (pa_cons (pe_bltn (v := .ty "tuple") (u := .type "tuple") (by rfl) T.b_tuple (by decide +kernel) (by rfl)) pa_nil))))) (pw_or (pt_cmpR op_gt (pe_callB call_len_seq (by rfl) T.b_len (by decide +kernel) (pa_cons (pv 0) pa_nil)) pe_int (nomark _)) (pw_or1 (pt_cmpR (op_neNil hu) (pe_lc (own := [("_law_one", 1)]) (by rfl) nd (pi_tup (pv 0)) (blkOk_by (own := [("_law_one", 1)]) (N := nm__law_is_clause) (sc := defScope s__law_is_clause) (by decide +kernel)) (fun _ _ _ _ _ => pg_name (i := 1) nd rfl (.inl rfl)) (fun _ _ _ _ _ => pts_one (pt_not (pt_val (pe_has h__law_is_mark (hr.mono (by omega)) (by rfl) (pa_cons (pv 1) pa_nil))))) (fun _ _ _ _ _ => (pv 1))) (pe_lst pa_nil) (nomark _)))))) (pss_one (ps_ret pe_bl)) pss_nil)
    (pss_one (ps_ret (pe_cmpR op_eq (pe_lenOf (by rfl) T.b_len (by rfl) T.b_set (pe_lc (own := [("_law_one", 1)]) (by rfl) nd (pi_tup (pv 0)) (blkOk_by (own := [("_law_one", 1)]) (N := nm__law_is_clause) (sc := defScope s__law_is_clause) (by decide +kernel)) (fun _ _ _ _ _ => pg_name (i := 1) nd rfl (.inl rfl)) (fun _ _ _ _ _ => pts_nil) (fun _ _ _ _ _ => (pe_callB call_abs (by rfl) T.b_abs (by decide +kernel) (pa_cons (pv 1) pa_nil))))) (pe_callB call_len_seq (by rfl) T.b_len (by decide +kernel) (pa_cons (pv 0) pa_nil)) (nomark _))))), ?_⟩
    rcases plain_tup (K := K) hx.pl with ⟨a, xs, rfl, ha⟩ | ⟨no, ty, t1, t2⟩
    · obtain ⟨pl, few⟩ := hx.it a xs rfl ha
      have k' := k
      rw [clauseB_tup ha] at k'
      refine ⟨_, rfl, .ref a, .ty "tuple", _, _, true, rfl, .ty _, .base (.tup ha), kit_ty (by decide +kernel), true, rfl, iteF ?_⟩
      refine ⟨_, rfl, a, xs, rfl, .inr (SqT.of ha), _, _, rfl, rfl, _, rfl, ite2 (fun big => ?_) (fun big => ?_)⟩
      · have e : tupB xs = false := by
          have b : (64 : Int) < (xs.length : Int) := of_decide_eq_true big
          unfold tupB
          rw [decide_eq_false (by omega), Bool.false_and]
        rw [e] at k'
        exact iteT (k' H (Same.refl H))
      · have b : ¬ (64 : Int) < (xs.length : Int) := fun z => big (decide_eq_true z)
        have e1 : decide (xs.length ≤ 64) = true := decide_eq_true (by omega)
        refine ⟨_, rfl, a, rfl, ⟨xs, SqT.of ha⟩, fun D hD => lc_sel_tup (fun x => !markV x) (fun x => x) (SqT.of ha) hD (by omega) (fun x hm => ?_) fun H1 s1 h1 => ?_⟩
        · exact ⟨rfl, fun H' s' R q => ⟨_, rfl, x, rfl, (pl x hm).same s', _, rfl, q H' (Same.refl _)⟩, fun _ H' s' R q => ⟨_, rfl, q H' (Same.refl _)⟩⟩
        refine ⟨by show 0 ≤ sizeLine; decide, fun N hN => ⟨D, N, _, rfl, rfl, SqL.of (by rw [upd_ne (ne_of_none h1 hN)]; exact h1), SqL.of upd_same, _, rfl, ?_⟩⟩
        have s2 := s1.trans (same_new (o := .lst []) hN)
        have em := congrArg (fun b => !b) (no_bad xs)
        show (if (!((xs.filter fun x => !markV x).map fun x => x).isEmpty) = true then _ else _)
        rw [show (!((xs.filter fun x => !markV x).map fun x => x).isEmpty) = !(xs.all markV) from em]
        cases hm : xs.all markV with
        | false =>
          have e : tupB xs = false := by
            unfold tupB
            rw [hm, Bool.false_and, Bool.and_false]
          rw [e] at k'
          exact iteT (k' _ s2)
        | true =>
          have e : tupB xs = decide ((xs.map absOf).Nodup) := by
            unfold tupB
            rw [hm, Bool.true_and, e1, Bool.true_and]
          rw [e] at k'
          have ha2 : (upd H1 N (.lst [])) a = some (.tup xs) := s2 _ _ ha
          refine iteF ⟨_, rfl, a, rfl, ⟨xs, SqT.of ha2⟩, fun Z hZ => lc_sel_tup (fun _ => true) (fun x => .int (absOf x)) (SqT.of ha2) hZ (by omega) (fun x hx2 => ?_) fun H3 s3 h3 => ?_⟩
          · obtain ⟨i, rfl⟩ := mark_abs (List.all_eq_true.mp hm x hx2)
            exact ⟨rfl, fun H' s' R q => q H' (Same.refl _), fun _ H' s' R q => ⟨_, rfl, i, rfl, q H' (Same.refl _)⟩⟩
          rw [abs_ints xs hm] at h3
          refine ⟨Z, xs.map absOf, rfl, SqL.of h3, by rw [List.length_map]; omega, _, rfl, a, xs, rfl, .inr (SqT.of (s3 _ _ ha2)), rfl, ?_⟩
          have iff := many_nodup (xs.map absOf)
          rw [List.length_map] at iff
          have ed : decide (V.int (many (xs.map absOf) : Nat) = V.int (xs.length : Nat)) = decide ((xs.map absOf).Nodup) := by
            by_cases c : many (xs.map absOf) = xs.length
            · rw [decide_eq_true (iff.mp c), decide_eq_true]
              rw [c]
            · rw [decide_eq_false fun z => c (iff.mpr z), decide_eq_false]
              intro z
              exact c (Int.ofNat.inj (V.int.inj z))
          rw [ed]
          exact k' H3 (s2.trans s3)
    · rw [no] at k
      exact ⟨_, rfl, x, .ty "tuple", _, _, false, rfl, .ty _, t1, t2, false, rfl, iteT (iteT (k H (Same.refl H)))⟩
end
/-! ### lists and tuples stay what they are -/
def SK (H H' : Hp) : Prop := ∀ b, (∀ xs, H b = some (.lst xs) → ∃ ys, H' b = some (.lst ys)) ∧ ∀ xs, H b = some (.tup xs) → H' b = some (.tup xs)
theorem SK.same {H H' : Hp} (s : Same H H') : SK H H' := fun b => ⟨fun xs e => ⟨xs, s _ _ e⟩, fun xs e => s _ _ e⟩
theorem SK.kp {H H' : Hp} {t c : Addr} {n : Nat} (h : Tape H t c n) (k : Kp t H H') : SK H H' := fun b => by
  obtain ⟨ns, spot, left, tc, _⟩ := h
  refine ⟨fun xs e => ⟨xs, k _ _ e (ne_of e tc.d (by intro z; cases z))⟩, fun xs e => k _ _ e (ne_of e tc.d (by intro z; cases z))⟩
theorem SK.trans {H H1 H2 : Hp} (a : SK H H1) (b : SK H1 H2) : SK H H2 := fun c => by
  refine ⟨fun xs e => ?_, fun xs e => (b c).2 xs ((a c).2 xs e)⟩
  obtain ⟨ys, e2⟩ := (a c).1 xs e
  exact (b c).1 ys e2
theorem SK.upd {H : Hp} {p : Addr} {xs ys : List V} (h : H p = some (.lst xs)) : SK H (upd H p (.lst ys)) := fun b => by
  refine ⟨fun zs e => ?_, fun zs e => ?_⟩
  · by_cases hb : b = p
    · exact ⟨ys, by rw [hb, upd_same]⟩
    · exact ⟨zs, by rw [upd_ne hb]; exact e⟩
  · have hb : b ≠ p := ne_of e h (by intro z; cases z)
    rw [upd_ne hb]
    exact e
theorem Plain.sk {H H' : Hp} {x : V} (s : SK H H') (h : Plain H x) : Plain H' x := by
  cases h with
  | non => exact .non
  | bl b => exact .bl b
  | int i => exact .int i
  | str z => exact .str z
  | lst e =>
    obtain ⟨ys, e2⟩ := (s _).1 _ e
    exact .lst e2
  | tup e => exact .tup ((s _).2 _ e)
theorem Ask.sk {H H' : Hp} {x : V} (s : SK H H') (h : Ask H x) : Ask H' x := by
  refine ⟨h.pl.sk s, fun a xs e ea => ?_⟩
  have pl := h.pl
  subst e
  cases pl with
  | lst e =>
    obtain ⟨ys, e2⟩ := (s _).1 _ e
    rw [e2] at ea
    cases ea
  | @tup _ zs e =>
    have e2 := (s _).2 _ e
    rw [e2] at ea
    cases ea
    obtain ⟨p, l⟩ := h.it a _ rfl e
    exact ⟨fun y hy => (p y hy).sk s, l⟩
theorem Ask.flat {H : Hp} {x : V} (h : Plain H x) (n : ∀ a, x ≠ .ref a) : Ask H x := ⟨h, fun a xs e _ => absurd e (n a)⟩
theorem Ask.lst {H : Hp} {a : Addr} {xs : List V} (h : H a = some (.lst xs)) : Ask H (.ref a) := ⟨.lst h, fun b ys e eb => by
  cases e
  rw [h] at eb
  cases eb⟩
theorem Ask.tup {H : Hp} {a : Addr} {xs : List V} (h : H a = some (.tup xs)) (p : ∀ y ∈ xs, Plain H y) (l : xs.length ≤ 80) : Ask H (.ref a) := ⟨.tup h, fun b ys e eb => by
  cases e
  rw [h] at eb
  cases eb
  exact ⟨p, l⟩⟩
theorem Tape.ne_lst {H : Hp} {t c p : Addr} {n : Nat} {xs : List V} (h : Tape H t c n) (e : H p = some (.lst xs)) : p ≠ t := by
  obtain ⟨ns, spot, left, tc, _⟩ := h
  exact ne_of e tc.d (by intro z; cases z)
theorem clauseB_same {H H' : Hp} {x : V} (h : Ask H x) (s : Same H H') : clauseB H x = clauseB H' x := by
  have pl := h.pl
  cases pl with
  | non => rfl
  | bl b => rfl
  | int i => rfl
  | str z => rfl
  | @lst a ys e =>
    have e2 := s _ _ e
    show (match H a with | some (.tup xs) => tupB xs | _ => false) = (match H' a with | some (.tup xs) => tupB xs | _ => false)
    rw [e, e2]
  | tup e => rw [clauseB_tup e, clauseB_tup (s _ _ e)]
def odds (d1 d2 d3 d4 : Addr) : List V := [.non, .bl true, .bl false, .int 0, .int 1, .str "", .str "5", .str "none", .ref d1, .ref d2, .ref d3, .ref d4, .int (10 ^ (12 : Int).toNat + 1), .int (0 - 10 ^ (12 : Int).toNat), .int (10 ^ (59 : Int).toNat)]
theorem menu_of {r : Int} {i : Nat} {v : V} (a : 0 ≤ r) (b : r < 98) (h : [V.int 0, V.int 0, V.int 0, V.int 1, V.int 2, V.int (1 + r)][i]? = some v) : ∃ z : Int, v = .int z ∧ 0 ≤ z ∧ z ≤ 98 := by
  have m := List.mem_of_getElem? h
  simp only [List.mem_cons, List.not_mem_nil, or_false] at m
  rcases m with rfl | rfl | rfl | rfl | rfl | rfl
  · exact ⟨_, rfl, by decide, by decide⟩
  · exact ⟨_, rfl, by decide, by decide⟩
  · exact ⟨_, rfl, by decide, by decide⟩
  · exact ⟨_, rfl, by decide, by decide⟩
  · exact ⟨_, rfl, by decide, by decide⟩
  · exact ⟨_, rfl, by omega, by omega⟩
def spOdd : Sp := fun vs H Q _ => ∃ (t c : Addr) (n : Nat), vs = [.ref t] ∧ Tape H t c n ∧ n < 1000000 ∧ ∀ (H' : Hp) (x : V), Ask H' x → Tape H' t c (n + 110) → Kp t H H' → Q x H'
section
variable {P : Program} {w : World} {K : PySem.W.Frag} {mg : Str → Option Value} {base : Heap}
theorem has_odd (T : Top K mg) (h__law_draw : Has P w K mg base 1 "_law_draw" ["_law_tape", "_law_many"] spDraw) (h__law_pick : Has P w K mg base 2 "_law_pick" ["_law_tape", "_law_some"] (spPick K)) :
    Has P w K mg base 3 "_law_odd" ["_law_tape"] spOdd := by
  refine has_of T.d__law_odd sc__law_odd bd__law_odd (fun vs H Q E h => ?_) (fun f cdv A outer s H vs Q E hr h => ?_)
  · obtain ⟨t, c, n, rfl, _⟩ := h
    rfl
  · have hu := hu_of hr
    have nd := sc__law_odd.nd
    obtain ⟨t, c, n, rfl, tp, hn, k⟩ := h
    refine ⟨_, (pss_cons (ps_set (i := 1) nd rfl (.inl rfl) (pe_lst (pa_cons pe_non (pa_cons pe_bl (pa_cons pe_bl (pa_cons pe_int (pa_cons pe_int (pa_cons pe_str (pa_cons pe_str (pa_cons pe_str (pa_cons (pe_lst pa_nil) (pa_cons (pe_tup pa_nil) (pa_cons (pe_lst (pa_cons pe_int pa_nil)) (pa_cons (pe_tup (pa_cons pe_int pa_nil)) (pa_cons (pe_op op_add (pe_op op_pow pe_int pe_int) pe_int) (pa_cons (pe_op op_sub pe_int (pe_op op_pow pe_int pe_int)) (pa_cons (pe_op op_pow pe_int pe_int) pa_nil)))))))))))))))))
    (pss_cons (ps_par (i := 2) (j := 3) (by rfl) nd rfl rfl (by decide) rfl rfl (pa_cons (pe_has h__law_pick (hr.mono (by omega)) (by rfl) (pa_cons (pv 0) (pa_cons (pe_op op_cat (pv 1) (pe_lst (pa_cons (pe_has h__law_draw (hr.mono (by omega)) (by rfl) (pa_cons (pv 0) (pa_cons (pe_op op_pow pe_int pe_int) pa_nil))) pa_nil))) pa_nil))) (pa_cons (pe_op op_add pe_int (pe_has h__law_draw (hr.mono (by omega)) (by rfl) (pa_cons (pv 0) (pa_cons pe_int pa_nil)))) pa_nil)) (by rfl))
    (pss_cons (ps_for PassesOwn.never rfl (pi_range1 (by rfl) T.b_range (pa_cons (pe_has h__law_pick (hr.mono (by omega)) (by rfl) (pa_cons (pv 0) (pa_cons (pe_lst (pa_cons pe_int (pa_cons pe_int (pa_cons pe_int (pa_cons pe_int (pa_cons pe_int (pa_cons (pv 3) pa_nil))))))) pa_nil))) pa_nil)) (pg_name (i := 4) nd rfl (.inl rfl))
      (pss_one (ps_set (i := 2) nd rfl (.inl rfl) (pe_has h__law_pick (hr.mono (by omega)) (by rfl) (pa_cons (pv 0) (pa_cons (pe_lst (pa_cons (pe_lst (pa_cons (pv 2) pa_nil)) (pa_cons (pe_tup (pa_cons (pv 2) pa_nil)) (pa_cons (pe_tup (pa_cons pe_int (pa_cons (pv 2) pa_nil))) (pa_cons (pe_tup (pa_cons (pv 2) (pa_cons (pe_un un_neg pe_int) pa_nil))) pa_nil))))) pa_nil))))))
    (pss_one (ps_ret (pv 2)))))), ?_⟩
    have cp : ∀ z : Int, 0 ≤ z → z ≤ 1000000 → CPow 10 z := fun z h0 h1 => ⟨h0, h1, by decide⟩
    refine ⟨by show 0 ≤ sizeLine; decide, fun d1 h1 => ⟨by show 0 ≤ sizeLine; decide, fun d2 h2 => ⟨by show 1 ≤ sizeLine; decide, fun d3 h3 => ⟨by show 1 ≤ sizeLine; decide, fun d4 h4 => ?_⟩⟩⟩⟩
    have t1 := tp.new (o := .lst []) h1
    have t2 := t1.new (o := .tup []) h2
    have t3 := t2.new (o := .lst [V.int 1]) h3
    have t4 := t3.new (o := .tup [V.int 1]) h4
    refine ⟨_, _, rfl, rfl, cp _ (by decide) (by decide), _, _, rfl, rfl, _, _, rfl, rfl, cp _ (by decide) (by decide), _, _, rfl, rfl, _, _, rfl, rfl, cp _ (by decide) (by decide), by show 15 ≤ sizeLine; decide, fun d5 h5 => ?_⟩
    have t5 := t4.new (o := .lst (odds d1 d2 d3 d4)) h5
    -- the pick
    refine ⟨_, rfl, _, rfl, _, rfl, _, _, rfl, rfl, cp _ (by decide) (by decide), t, c, _, n, rfl, t5, by omega, by decide, by decide +kernel, fun H1 r1 a1 b1 tp1 kp1 => ⟨by show 1 ≤ sizeLine; decide, fun d6 h6 => ?_⟩⟩
    have g5 : H1 d5 = some (.lst (odds d1 d2 d3 d4)) := kp1 d5 _ upd_same (t4.fresh h5)
    refine ⟨d5, d6, _, _, rfl, rfl, by rw [upd_ne (ne_of_none g5 h6)]; exact g5, upd_same, by show 16 ≤ sizeLine; decide, fun d7 h7 => ?_⟩
    have t6 := tp1.new (o := .lst [V.int r1]) h6
    have t7 := t6.new (o := .lst (odds d1 d2 d3 d4 ++ [V.int r1])) h7
    refine ⟨t, c, d7, odds d1 d2 d3 d4 ++ [V.int r1], n + 1, rfl, t7, by omega, fun H' kp => .inl (SqL.of (kp d7 _ upd_same (t6.fresh h7))), by show 0 < 16; decide, by show 16 ≤ 1000000; decide, fun H2 i v gv tp2 kp2 => ?_⟩
    have k45 : Kp t (upd (upd (upd (upd H d1 (.lst [])) d2 (.tup [])) d3 (.lst [V.int 1])) d4 (.tup [V.int 1])) H2 := (Kp.new (o := .lst (odds d1 d2 d3 d4)) h5).trans (kp1.trans ((Kp.new h6).trans ((Kp.new h7).trans kp2)))
    have av : Ask H2 v := by
      have k34 := (Kp.new h4).trans k45
      have k23 := (Kp.new h3).trans k34
      have k12 := (Kp.new h2).trans k23
      rcases List.mem_append.mp (List.mem_of_getElem? gv) with m | m
      · unfold odds at m
        simp only [List.mem_cons, List.not_mem_nil, or_false] at m
        rcases m with rfl | rfl | rfl | rfl | rfl | rfl | rfl | rfl | rfl | rfl | rfl | rfl | rfl | rfl | rfl
        · exact .flat .non (fun a e => by cases e)
        · exact .flat (.bl _) (fun a e => by cases e)
        · exact .flat (.bl _) (fun a e => by cases e)
        · exact .flat (.int _) (fun a e => by cases e)
        · exact .flat (.int _) (fun a e => by cases e)
        · exact .flat (.str _) (fun a e => by cases e)
        · exact .flat (.str _) (fun a e => by cases e)
        · exact .flat (.str _) (fun a e => by cases e)
        · exact .lst (k12 d1 _ upd_same (tp.fresh h1))
        · exact .tup (k23 d2 _ upd_same (t1.fresh h2)) (fun y hy => by cases hy) (by decide)
        · exact .lst (k34 d3 _ upd_same (t2.fresh h3))
        · refine .tup (k45 d4 _ upd_same (t3.fresh h4)) (fun y hy => ?_) (by decide)
          rw [List.mem_singleton.mp hy]
          exact .int _
        · exact .flat (.int _) (fun a e => by cases e)
        · exact .flat (.int _) (fun a e => by cases e)
        · exact .flat (.int _) (fun a e => by cases e)
      · rw [List.mem_singleton.mp m]
        exact .flat (.int _) (fun a e => by cases e)
    have kp02 : Kp t H H2 := (Kp.new h1).trans ((Kp.new h2).trans ((Kp.new h3).trans ((Kp.new h4).trans k45)))
    refine ⟨_, rfl, t, c, _, n + 2, rfl, tp2, by omega, by decide, by decide +kernel, fun H3 r3 a3 b3 tp3 kp3 => ⟨_, _, rfl, rfl, _, _, rfl, ?_⟩⟩
    refine ⟨_, rfl, _, rfl, by show 6 ≤ sizeLine; decide, fun d8 h8 => ?_⟩
    refine ⟨t, c, d8, _, n + 3, rfl, tp3.new h8, by omega, fun H' kp => .inl (SqL.of (kp d8 _ upd_same (tp3.fresh h8))), by show 0 < 6; decide, by show 6 ≤ 1000000; decide, fun H4 j z gj tp4 kp4 => ?_⟩
    obtain ⟨m, rfl, ma, mb⟩ := menu_of a3 b3 gj
    have k24 : Kp t H2 H4 := kp3.trans ((Kp.new h8).trans kp4)
    refine ⟨m, rfl, by omega, by omega, for_range (lo := 0) (fun i σ H' => ∃ x v4, σ = [some (.ref t), some (.ref d5), some x, some (.int (1 + r3)), v4] ∧ Ask H' x ∧ Tape H' t c (n + 4 + i) ∧ Kp t H H') ⟨v, none, rfl, av.sk (SK.kp tp2 k24), tp4, kp02.trans k24⟩ ?_ ?_⟩
    · rintro i σ H5 hi ⟨x, v4, rfl, ax, tp5, kp5⟩
      refine ⟨_, rfl, _, rfl, by show 1 ≤ sizeLine; decide, fun e1 g1 => ⟨_, rfl, by show 1 ≤ sizeLine; decide, fun e2 g2 => ⟨_, rfl, by show 2 ≤ sizeLine; decide, fun e3 g3 => ⟨_, rfl, _, rfl, by show 2 ≤ sizeLine; decide, fun e4 g4 => ⟨by show 4 ≤ sizeLine; decide, fun e5 g5 => ?_⟩⟩⟩⟩⟩
      have u1 := tp5.new (o := .lst [x]) g1
      have u2 := u1.new (o := .tup [x]) g2
      have u3 := u2.new (o := .tup [V.int 1, x]) g3
      have u4 := u3.new (o := .tup [x, V.int (-2)]) g4
      have u5 := u4.new (o := .lst [V.ref e1, V.ref e2, V.ref e3, V.ref e4]) g5
      refine ⟨t, c, e5, _, n + 4 + i, rfl, u5, by omega, fun H' kp => .inl (SqL.of (kp e5 _ upd_same (u4.fresh g5))), by show 0 < 4; decide, by show 4 ≤ 1000000; decide, fun H6 l y gy tp6 kp6 => ?_⟩
      have w5 : Kp t (upd (upd (upd (upd H5 e1 (.lst [x])) e2 (.tup [x])) e3 (.tup [V.int 1, x])) e4 (.tup [x, V.int (-2)])) H6 := (Kp.new g5).trans kp6
      have w4 := (Kp.new g4).trans w5
      have w3 := (Kp.new g3).trans w4
      have w2 := (Kp.new g2).trans w3
      have w1 := (Kp.new g1).trans w2
      have px : Plain H6 x := ax.pl.sk (SK.kp tp5 w1)
      refine ⟨y, _, rfl, ?_, tp6.le (by omega), kp5.trans w1⟩
      have my := List.mem_of_getElem? gy
      simp only [List.mem_cons, List.not_mem_nil, or_false] at my
      rcases my with rfl | rfl | rfl | rfl
      · exact .lst (w2 e1 _ upd_same (tp5.fresh g1))
      · refine .tup (w3 e2 _ upd_same (u1.fresh g2)) (fun y hy => ?_) (by show 1 ≤ 80; decide)
        rw [List.mem_singleton.mp hy]
        exact px
      · refine .tup (w4 e3 _ upd_same (u2.fresh g3)) (fun y hy => ?_) (by show 2 ≤ 80; decide)
        simp only [List.mem_cons, List.not_mem_nil, or_false] at hy
        rcases hy with rfl | rfl
        · exact .int _
        · exact px
      · refine .tup (w5 e4 _ upd_same (u3.fresh g4)) (fun y hy => ?_) (by show 2 ≤ 80; decide)
        simp only [List.mem_cons, List.not_mem_nil, or_false] at hy
        rcases hy with rfl | rfl
        · exact px
        · exact .int _
    · rintro σ H5 ⟨x, v4, rfl, ax, tp5, kp5⟩
      exact ⟨_, rfl, k H5 x ax (tp5.le (by omega)) kp5⟩
end
theorem many_of {r : Int} {i : Nat} {v : V} (a : 0 ≤ r) (b : r < 66) (h : [V.int 0, V.int 1, V.int 2, V.int 3, V.int 5, V.int r, V.int 64, V.int 65][i]? = some v) : ∃ z : Int, v = .int z ∧ 0 ≤ z ∧ z ≤ 66 := by
  have m := List.mem_of_getElem? h
  simp only [List.mem_cons, List.not_mem_nil, or_false] at m
  rcases m with rfl | rfl | rfl | rfl | rfl | rfl | rfl | rfl
  · exact ⟨_, rfl, by decide, by decide⟩
  · exact ⟨_, rfl, by decide, by decide⟩
  · exact ⟨_, rfl, by decide, by decide⟩
  · exact ⟨_, rfl, by decide, by decide⟩
  · exact ⟨_, rfl, by decide, by decide⟩
  · exact ⟨_, rfl, a, by omega⟩
  · exact ⟨_, rfl, by decide, by decide⟩
  · exact ⟨_, rfl, by decide, by decide⟩
theorem leap_of {i : Nat} {v : V} (h : [V.int 1, V.int 1, V.int 7, V.int 14000000000][i]? = some v) : ∃ z : Int, v = .int z ∧ 1 ≤ z ∧ z ≤ 14000000000 := by
  have m := List.mem_of_getElem? h
  simp only [List.mem_cons, List.not_mem_nil, or_false] at m
  rcases m with rfl | rfl | rfl | rfl <;> exact ⟨_, rfl, by decide, by decide⟩
theorem first_of {r z : Int} {i : Nat} {v : V} (h : [V.int 1, V.int 5, V.int 95, V.int (1 + r), V.int (10 ^ (12 : Int).toNat - 66 * z), V.int (10 ^ (12 : Int).toNat - 66 * z + 1)][i]? = some v) : ∃ z : Int, v = .int z := by
  have m := List.mem_of_getElem? h
  simp only [List.mem_cons, List.not_mem_nil, or_false] at m
  rcases m with rfl | rfl | rfl | rfl | rfl | rfl <;> exact ⟨_, rfl⟩
theorem sign_of {i : Nat} {v : V} (h : [V.int 1, V.int 1, V.int (-1)][i]? = some v) : ∃ z : Int, v = .int z ∧ -1 ≤ z ∧ z ≤ 1 := by
  have m := List.mem_of_getElem? h
  simp only [List.mem_cons, List.not_mem_nil, or_false] at m
  rcases m with rfl | rfl | rfl <;> exact ⟨_, rfl, by decide, by decide⟩
section
variable {P : Program} {w : World} {K : PySem.W.Frag} {mg : Str → Option Value} {base : Heap}
/-! ### drawn marks -/
def spMks : Sp := fun vs H Q _ => ∃ (t c : Addr) (n : Nat), vs = [.ref t] ∧ Tape H t c n ∧ n < 1000000 ∧ ∀ (H' : Hp) (p : Addr) (is : List Int), H p = none → H' p = some (.lst (is.map V.int)) → is.length ≤ 66 → Tape H' t c (n + 80) → Kp t H H' → Q (.ref p) H'
theorem has_mks (T : Top K mg) (h__law_draw : Has P w K mg base 1 "_law_draw" ["_law_tape", "_law_many"] spDraw) (h__law_pick : Has P w K mg base 2 "_law_pick" ["_law_tape", "_law_some"] (spPick K)) :
    Has P w K mg base 3 "_law_clause" ["_law_tape"] spMks := by
  refine has_of T.d__law_clause sc__law_clause bd__law_clause (fun vs H Q E h => ?_) (fun f cdv A outer s H vs Q E hr h => ?_)
  · obtain ⟨t, c, n, rfl, _⟩ := h
    rfl
  · have hu := hu_of hr
    have nd := sc__law_clause.nd
    obtain ⟨t, c, n, rfl, tp, hn, k⟩ := h
    refine ⟨_, (pss_cons (ps_asg (pe_tup (pa_cons (pe_has h__law_pick (hr.mono (by omega)) (by rfl) (pa_cons (pv 0) (pa_cons (pe_lst (pa_cons pe_int (pa_cons pe_int (pa_cons pe_int (pa_cons pe_int (pa_cons pe_int (pa_cons (pe_has h__law_draw (hr.mono (by omega)) (by rfl) (pa_cons (pv 0) (pa_cons pe_int pa_nil))) (pa_cons pe_int (pa_cons pe_int pa_nil))))))))) pa_nil))) (pa_cons (pe_op op_add pe_int (pe_has h__law_draw (hr.mono (by omega)) (by rfl) (pa_cons (pv 0) (pa_cons pe_int pa_nil)))) pa_nil))) (pg_tup (by rfl) (pgs_cons (pg_name (i := 1) nd rfl (.inl rfl)) (pgs_cons (pg_name (i := 2) nd rfl (.inr rfl)) pgs_nil))))
    (pss_cons (ps_set (i := 3) nd rfl (.inr rfl) (pe_has h__law_pick (hr.mono (by omega)) (by rfl) (pa_cons (pv 0) (pa_cons (pe_lst (pa_cons pe_int (pa_cons pe_int (pa_cons pe_int (pa_cons pe_int pa_nil))))) pa_nil))))
    (pss_cons (ps_set (i := 4) nd rfl (.inr rfl) (pe_has h__law_pick (hr.mono (by omega)) (by rfl) (pa_cons (pv 0) (pa_cons (pe_lst (pa_cons pe_int (pa_cons pe_int (pa_cons pe_int (pa_cons (pe_op op_add pe_int (pe_has h__law_draw (hr.mono (by omega)) (by rfl) (pa_cons (pv 0) (pa_cons (pe_op op_pow pe_int pe_int) pa_nil)))) (pa_cons (pe_op op_sub (pe_op op_pow pe_int pe_int) (pe_op op_mul pe_int (pv 3))) (pa_cons (pe_op op_add (pe_op op_sub (pe_op op_pow pe_int pe_int) (pe_op op_mul pe_int (pv 3))) pe_int) pa_nil))))))) pa_nil))))
    (pss_one (ps_ret (pe_lc (own := [("_law_k", 5)]) (by rfl) nd (pi_range1 (by rfl) T.b_range (pa_cons (pv 1) pa_nil)) (blkOk_by (own := [("_law_k", 5)]) (N := nm__law_clause) (sc := defScope s__law_clause) (by decide +kernel)) (fun _ _ _ _ _ => pg_name (i := 5) nd rfl (.inl rfl)) (fun _ _ _ _ _ => pts_nil) (fun _ _ _ _ _ => (pe_op op_mul (pe_has h__law_pick (hr.mono (by omega)) (by rfl) (pa_cons (pv 0) (pa_cons (pe_lst (pa_cons pe_int (pa_cons pe_int (pa_cons (pe_un un_neg pe_int) pa_nil)))) pa_nil))) (pe_op op_add (pv 4) (pe_op op_mul (pv 3) (pe_op op_mod (pe_op op_mul (pv 2) (pv 5)) pe_int))))))))))), ?_⟩
    have cp : ∀ z : Int, 0 ≤ z → z ≤ 1000000 → CPow 10 z := fun z h0 h1 => ⟨h0, h1, by decide⟩
    -- many, by
    refine ⟨_, rfl, _, rfl, t, c, _, n, rfl, tp, by omega, by decide, by decide +kernel, fun H1 r1 a1 b1 tp1 kp1 => ⟨by show 8 ≤ sizeLine; decide, fun d1 h1 => ?_⟩⟩
    refine ⟨t, c, d1, _, n + 1, rfl, tp1.new h1, by omega, fun H' kp => .inl (SqL.of (kp d1 _ upd_same (tp1.fresh h1))), by show 0 < 8; decide, by show 8 ≤ 1000000; decide, fun H2 i2 v2 g2 tp2 kp2 => ?_⟩
    obtain ⟨z2, rfl, z2a, z2b⟩ := many_of a1 b1 g2
    refine ⟨_, rfl, t, c, _, n + 2, rfl, tp2, by omega, by decide, by decide +kernel, fun H3 r3 a3 b3 tp3 kp3 => ⟨_, _, rfl, rfl, by show 2 ≤ sizeLine; decide, fun d2 h2 => ?_⟩⟩
    refine ⟨d2, _, rfl, SqT.of upd_same, rfl, _, _, rfl, _, _, rfl, rfl, ?_⟩
    have t3 := tp3.new (o := .tup [V.int z2, V.int (1 + r3)]) h2
    -- leap
    refine ⟨_, rfl, by show 4 ≤ sizeLine; decide, fun d3 h3 => ?_⟩
    refine ⟨t, c, d3, _, n + 3, rfl, t3.new h3, by omega, fun H' kp => .inl (SqL.of (kp d3 _ upd_same (t3.fresh h3))), by show 0 < 4; decide, by show 4 ≤ 1000000; decide, fun H4 i4 v4 g4 tp4 kp4 => ?_⟩
    obtain ⟨z4, rfl, z4a, z4b⟩ := leap_of g4
    -- first
    refine ⟨_, rfl, _, rfl, _, _, rfl, rfl, cp _ (by decide) (by decide), t, c, _, n + 4, rfl, tp4, by omega, by decide, by decide +kernel, fun H5 r5 a5 b5 tp5 kp5 => ?_⟩
    refine ⟨_, _, rfl, rfl, _, _, rfl, rfl, cp _ (by decide) (by decide), _, rfl, _, _, rfl, rfl, .inl ⟨by decide, by decide⟩, _, _, rfl, rfl, _, _, rfl, rfl, cp _ (by decide) (by decide), _, rfl, _, _, rfl, rfl, .inl ⟨by decide, by decide⟩, _, _, rfl, rfl, _, _, rfl, rfl, by show 6 ≤ sizeLine; decide, fun d4 h4 => ?_⟩
    refine ⟨t, c, d4, _, n + 5, rfl, tp5.new h4, by omega, fun H' kp => .inl (SqL.of (kp d4 _ upd_same (tp5.fresh h4))), by show 0 < 6; decide, by show 6 ≤ 1000000; decide, fun H6 i6 v6 g6 tp6 kp6 => ?_⟩
    obtain ⟨z6, rfl⟩ := first_of g6
    have k06 : Kp t H H6 := kp1.trans ((Kp.new h1).trans (kp2.trans (kp3.trans ((Kp.new h2).trans ((Kp.new h3).trans (kp4.trans (kp5.trans ((Kp.new h4).trans kp6))))))))
    -- the list
    refine ⟨_, rfl, z2, rfl, by omega, by omega, fun D hD => lc_range (lo := 0) (fun i H' => Kp t H6 H' ∧ Tape H' t c (n + 6 + i) ∧ ∃ is : List Int, is.length = i ∧ H' D = some (.lst (is.map V.int))) ⟨Kp.new hD, tp6.new hD, [], rfl, upd_same⟩ ?_ ?_⟩
    · rintro i H7 hi ⟨k7, tp7, is, el, h7⟩
      refine ⟨rfl, yes_go ?_⟩
      refine ⟨_, rfl, _, rfl, by show 3 ≤ sizeLine; decide, fun e he => ?_⟩
      refine ⟨t, c, e, _, n + 6 + i, rfl, tp7.new he, by omega, fun H' kp => .inl (SqL.of (kp e _ upd_same (tp7.fresh he))), by show 0 < 3; decide, by show 3 ≤ 1000000; decide, fun H8 i8 v8 g8 tp8 kp8 => ?_⟩
      obtain ⟨z8, rfl, z8a, z8b⟩ := sign_of g8
      have nDt : D ≠ t := tp6.fresh hD
      have k78 : Kp t H7 H8 := (Kp.new he).trans kp8
      have h8 := k78 D _ h7 nDt
      have nDc : D ≠ c := tp6.fresh_c hD
      refine ⟨_, rfl, _, rfl, _, rfl, _, rfl, _, _, rfl, rfl, .inl ⟨by omega, by omega⟩, _, _, rfl, rfl, by show (0 : Int) < 67; decide, _, _, rfl, rfl, .inl ⟨by omega, by omega⟩, _, _, rfl, rfl, _, _, rfl, rfl, .inl ⟨by omega, by omega⟩, is.map V.int, h8, ?_, (k7.trans k78).mut hD, tp8.mut nDt nDc, is ++ [z8 * (z6 + z4 * ((1 + r3) * (0 + (i : Int)) % 67))], by rw [List.length_append, el]; rfl, ?_⟩
      · rw [List.length_map, el]
        have line : 1000000 < sizeLine := by decide
        omega
      · rw [upd_same, List.map_append]
        rfl
    · rintro H7 ⟨k7, tp7, is, el, h7⟩
      exact k H7 D is (k06.free hD (tp6.fresh hD)) h7 (by omega) (tp7.le (by omega)) (k06.trans k7)
/-! ### the law -/
def spLaw (K : PySem.W.Frag) : Sp := fun vs H Q _ => ∃ (a : Addr) (ns : List Int), vs = [.ref a] ∧ SqL K H a (ns.map V.int) ∧ ns.length ≤ 63 ∧ ∀ H', Q (.bl true) H'
theorem ok_law {f : Addr} {fd : FuncData} (F : Fun K "law" "law" s_law f fd) (T : Top K mg) (h__law_begun : Has P w K mg base 1 "_law_begun" ["_law_script"] (spBegun K)) (h__law_draw : Has P w K mg base 1 "_law_draw" ["_law_tape", "_law_many"] spDraw)
    (h__law_pick : Has P w K mg base 2 "_law_pick" ["_law_tape", "_law_some"] (spPick K)) (h__law_odd : Has P w K mg base 3 "_law_odd" ["_law_tape"] spOdd) (h__law_clause : Has P w K mg base 3 "_law_clause" ["_law_tape"] spMks)
    (h_is_clause : Has P w K mg base 3 "is_clause" ["thing"] spClause) (h__law_is_clause : Has P w K mg base 2 "_law_is_clause" ["_law_thing"] spClause) : FnOk P w K mg base CX0 4 f fd ["_law_script"] (spLaw K) := by
  refine F.ok sc_law (fun vs H Q E h => ?_) (fun cdv A outer s H vs Q E hr h => ?_)
  · obtain ⟨a, ns, rfl, _⟩ := h
    rfl
  · have hu := hu_of hr
    have nd := sc_law.nd
    obtain ⟨a, ns, rfl, hS, hl, k⟩ := h
    refine ⟨_, (pss_cons (ps_set (i := 1) nd rfl (.inl rfl) (pe_has h__law_begun (hr.mono (by omega)) (by rfl) (pa_cons (pv 0) pa_nil)))
    (pss_cons (ps_for PassesOwn.never rfl (pi_range1 (by rfl) T.b_range (pa_cons (pe_op op_add pe_int (pe_callB (call_min2 rfl) (by rfl) T.b_min (by decide +kernel) (pa_cons pe_int (pa_cons (pe_callB call_len_seq (by rfl) T.b_len (by decide +kernel) (pa_cons (pv 0) pa_nil)) pa_nil)))) pa_nil)) (pg_name (i := 2) nd rfl (.inl rfl))
      (pss_cons (ps_par (i := 3) (j := 4) (by rfl) nd rfl rfl (by decide) rfl rfl (pa_cons (pe_has h__law_draw (hr.mono (by omega)) (by rfl) (pa_cons (pv 1) (pa_cons pe_int pa_nil))) (pa_cons (pe_has h__law_clause (hr.mono (by omega)) (by rfl) (pa_cons (pv 1) pa_nil)) pa_nil)) (by rfl))
    (pss_cons (ps_set (i := 5) nd rfl (.inl rfl) (pe_has h__law_odd (hr.mono (by omega)) (by rfl) (pa_cons (pv 1) pa_nil)))
    (C8.pss_cut (ps_if (PW.pt (pw_and (pt_cmpR op_lt (pv 3) pe_int (nomark _)) (pw_and1 (pt_cmpR (op_neNil hu) (pv 4) (pe_lst pa_nil) (nomark _))))) (pss_cons (ps_set (i := 6) nd rfl (.inl rfl) (pe_has h__law_draw (hr.mono (by omega)) (by rfl) (pa_cons (pv 1) (pa_cons (pe_callB call_len_seq (by rfl) T.b_len (by decide +kernel) (pa_cons (pv 4) pa_nil)) pa_nil))))
    (pss_cons (ps_set (i := 7) nd rfl (.inl rfl) (pe_ix ix_list (pv 4) (pe_has h__law_draw (hr.mono (by omega)) (by rfl) (pa_cons (pv 1) (pa_cons (pe_callB call_len_seq (by rfl) T.b_len (by decide +kernel) (pa_cons (pv 4) pa_nil)) pa_nil))) (fun _ _ => rfl)))
    (pss_one (ps_asg (pe_has h__law_pick (hr.mono (by omega)) (by rfl) (pa_cons (pv 1) (pa_cons (pe_lst (pa_cons (pv 5) (pa_cons (pv 5) (pa_cons (pv 7) (pa_cons (pe_op op_sub pe_int (pv 7)) (pa_cons (pe_callB call_abs (by rfl) T.b_abs (by decide +kernel) (pa_cons (pv 7) pa_nil)) pa_nil)))))) pa_nil))) (pg_sub (pv 4) (pv 6) set_list))))) pss_nil)
    (pss_cons (ps_set (i := 8) nd rfl (.inl rfl) (pe_lst (pa_cons (pe_callTy call_tuple_of (by rfl) T.b_tuple (by decide +kernel) (pa_cons (pv 4) pa_nil)) (pa_cons (pe_callTy call_list_of (by rfl) T.b_list (by decide +kernel) (pa_cons (pv 4) pa_nil)) (pa_cons (pe_tup (pa_cons (pe_callTy call_tuple_of (by rfl) T.b_tuple (by decide +kernel) (pa_cons (pv 4) pa_nil)) pa_nil)) (pa_cons (pe_callTy call_tuple_of (by rfl) T.b_tuple (by decide +kernel) (pa_cons (pe_op op_cat (pv 4) (pe_lst (pa_cons (pv 5) pa_nil))) pa_nil)) pa_nil))))))
    (pss_cons (ps_set (i := 9) nd rfl (.inl rfl) (pe_ix ix_list (pe_lst (pa_cons (pe_ix ix_list (pv 8) pe_int (fun _ _ => rfl)) (pa_cons (pe_ix ix_list (pv 8) pe_int (fun _ _ => rfl)) (pa_cons (pe_ix ix_list (pv 8) pe_int (fun _ _ => rfl)) (pa_cons (pe_ix ix_list (pv 8) pe_int (fun _ _ => rfl)) (pa_cons (pe_ix ix_list (pv 8) pe_int (fun _ _ => rfl)) (pa_cons (pe_ix ix_list (pv 8) pe_int (fun _ _ => rfl)) (pa_cons (pe_ix ix_list (pv 8) pe_int (fun _ _ => rfl)) (pa_cons (pe_ix ix_list (pv 8) pe_int (fun _ _ => rfl)) pa_nil))))))))) (pv 3) (fun _ _ => rfl)))
    (C8.pss_cut (ps_if (pt_cmpR op_eq (pe_has h__law_draw (hr.mono (by omega)) (by rfl) (pa_cons (pv 1) (pa_cons pe_int pa_nil))) pe_int (nomark _)) (pss_one (ps_set (i := 9) nd rfl (.inl rfl) (pv 5))) pss_nil)
    (pss_one (ps_if (pt_cmpR op_ne (pe_callB call_repr_bool (by rfl) T.b_repr (by decide +kernel) (pa_cons (pe_has h_is_clause (hr.mono (by omega)) (by rfl) (pa_cons (pv 9) pa_nil)) pa_nil)) (pe_callB call_repr_bool (by rfl) T.b_repr (by decide +kernel) (pa_cons (pe_has h__law_is_clause (hr.mono (by omega)) (by rfl) (pa_cons (pv 9) pa_nil)) pa_nil)) (nomark _)) (pss_one (ps_ret pe_bl)) pss_nil)))))))))
    (pss_one (ps_ret pe_bl)))), ?_⟩
    refine ⟨_, rfl, a, ns, rfl, hS, hl, fun H1 t c ht hc sm tp => ?_⟩
    refine ⟨_, rfl, a, _, rfl, .inl (sm.seq hS), _, _, rfl, _, _, rfl, rfl, _, rfl, ?_, ?_, for_range (lo := 0) (fun i σ H2 => ∃ v2 v3 v4 v5 v6 v7 v8 v9, σ = [some (.ref a), some (.ref t), v2, v3, v4, v5, v6, v7, v8, v9] ∧ Tape H2 t c (200 * i)) ⟨none, none, none, none, none, none, none, none, rfl, tp⟩ ?_ ?_⟩
    · split <;> omega
    · split <;> omega
    · rintro i σ H2 hi ⟨v2, v3, v4, v5, v6, v7, v8, v9, rfl, tp2⟩
      have hi2 : i < 12 := by
        rw [List.length_map] at hi
        split at hi <;> omega
      -- way, marks
      refine ⟨_, rfl, t, c, _, 200 * i, rfl, tp2, by omega, by decide, by decide +kernel, fun H3 way wa wb tp3 kp3 => ?_⟩
      refine ⟨_, rfl, t, c, 200 * i + 1, rfl, tp3, by omega, fun H4 p is np hp hlen tp4 kp4 => ⟨_, _, rfl, ?_⟩⟩
      -- the thing
      refine ⟨_, rfl, t, c, _, rfl, tp4, by omega, fun H5 x ax tp5 kp5 => ?_⟩
      have npt : p ≠ t := tp3.fresh np
      have npc : p ≠ c := tp3.fresh_c np
      have hp5 := kp5 p _ hp npt
      have isPl : ∀ y ∈ is.map V.int, Plain H5 y := fun y hy => by
        obtain ⟨z, _, rfl⟩ := List.mem_map.mp hy
        exact .int z
      refine ⟨fun σ' H' => ∃ w6 w7 xs, σ' = [some (.ref a), some (.ref t), some (.int (0 + i)), some (.int way), some (.ref p), some x, w6, w7, v8, v9] ∧ H' p = some (.lst xs) ∧ (∀ y ∈ xs, Plain H' y) ∧ xs.length ≤ 66 ∧ Ask H' x ∧ Tape H' t c (200 * i + 194), ?_, ?_⟩
      · refine ⟨_, rfl, _, _, rfl, rfl, _, rfl, ite2 (fun _ => ?_) (fun _ => iteF ⟨_, _, _, rfl, hp5, isPl, by rw [List.length_map]; exact hlen, ax, tp5.le (by omega)⟩)⟩
        refine ⟨_, rfl, by show 0 ≤ sizeLine; decide, fun q hq => ?_⟩
        have hpq : (upd H5 q (.lst [])) p = some (.lst (is.map V.int)) := by
          rw [upd_ne (ne_of_none hp5 hq)]
          exact hp5
        have sq : SK H5 (upd H5 q (.lst [])) := SK.same (same_new hq)
        refine ⟨p, q, _, rfl, rfl, SqL.of hpq, SqL.of upd_same, _, rfl, ite2 (fun nonE => ?_) (fun _ => ⟨_, _, _, rfl, hpq, fun y hy => (isPl y hy).sk sq, by rw [List.length_map]; exact hlen, ax.sk sq, (tp5.new hq).le (by omega)⟩)⟩
        have pos : 0 < is.length := by
          cases is with
          | nil => exact absurd nonE (by decide)
          | cons z zs => exact Nat.succ_pos _
        have lim : ((is.map V.int).length : Int) < 2 ^ 8000 := by
          rw [List.length_map]
          exact Int.lt_of_le_of_lt (b := 66) (by omega) (by decide +kernel)
        refine ⟨_, rfl, _, rfl, p, _, rfl, .inl (SqL.of hpq), t, c, _, _, rfl, tp5.new hq, by omega, by rw [List.length_map]; omega, lim, fun H6 r6 a6 b6 tp6 kp6 => ?_⟩
        have hp6 := kp6 p _ hpq npt
        refine ⟨_, rfl, _, rfl, _, rfl, p, _, rfl, .inl (SqL.of hp6), t, c, _, _, rfl, tp6, by omega, by rw [List.length_map]; omega, lim, fun H7 r7 a7 b7 tp7 kp7 => ?_⟩
        have hp7 := kp7 p _ hp6 npt
        rw [List.length_map] at b6 b7
        have l7 : r7.toNat < is.length := by omega
        have g7 : (is.map V.int)[r7.toNat]? = some (.int is[r7.toNat]) := by
          rw [List.getElem?_map, List.getElem?_eq_getElem l7]
          rfl
        refine ⟨p, _, _, _, rfl, rfl, SqL.of hp7, at_of (by omega) g7, ?_⟩
        generalize is[r7.toNat] = twin
        refine ⟨_, rfl, _, rfl, _, rfl, _, rfl, _, rfl, _, _, rfl, rfl, _, rfl, _, rfl, by show 5 ≤ sizeLine; decide, fun q2 hq2 => ?_⟩
        refine ⟨t, c, q2, _, _, rfl, tp7.new hq2, by omega, fun H' kp => .inl (SqL.of (kp q2 _ upd_same (tp7.fresh hq2))), by show 0 < 5; decide, by show 5 ≤ 1000000; decide, fun H8 i8 u8 g8 tp8 kp8 => ?_⟩
        have k78 := (Kp.new hq2).trans kp8
        have hp8 := k78 p _ hp7 npt
        have s58 : SK H5 H8 := sq.trans ((SK.kp (tp5.new hq) kp6).trans ((SK.kp tp6 kp7).trans (SK.kp tp7 k78)))
        have e6 : ixN (is.map V.int).length r6 = some r6.toNat := by
          unfold ixN
          rw [if_pos a6, if_pos (by rw [List.length_map]; exact b6)]
        refine ⟨_, rfl, _, rfl, p, _, r6, r6.toNat, rfl, rfl, hp8, e6, ?_⟩
        have s9 : SK H8 (upd H8 p (.lst ((is.map V.int).set r6.toNat u8))) := SK.upd hp8
        have pu : Plain H8 u8 := by
          have m8 := List.mem_of_getElem? g8
          simp only [List.mem_cons, List.not_mem_nil, or_false] at m8
          rcases m8 with rfl | rfl | rfl | rfl | rfl
          · exact ax.pl.sk s58
          · exact ax.pl.sk s58
          · exact .int _
          · exact .int _
          · exact .int _
        refine ⟨_, _, _, rfl, upd_same, fun y hy => ?_, by rw [List.length_set, List.length_map]; exact hlen, ax.sk (s58.trans s9), (tp8.mut npt npc).le (by omega)⟩
        rcases List.mem_or_eq_of_mem_set hy with m | rfl
        · exact ((isPl y m).sk s58).sk s9
        · exact pu.sk s9
      · rintro σ' H' ⟨w6, w7, xs, rfl, hx, px, lx, ax', tp'⟩
        -- the four
        have sx : ∀ {H''}, Same H' H'' → SqL K H'' p xs := fun s => SqL.of (s p _ hx)
        refine ⟨_, rfl, p, xs, rfl, .inl ⟨sx (Same.refl _), fun e1 g1 => ?_⟩⟩
        have s1 : Same H' (upd H' e1 (.tup xs)) := same_new g1
        refine ⟨_, rfl, p, xs, rfl, .inl (sx s1), fun e2 g2 => ?_⟩
        have s2 := s1.trans (same_new (o := .lst xs) g2)
        refine ⟨_, rfl, p, xs, rfl, .inl ⟨sx s2, fun e3 g3 => ⟨by show 1 ≤ sizeLine; decide, fun e4 g4 => ?_⟩⟩⟩
        have s4 := s2.trans ((same_new (o := .tup xs) g3).trans (same_new (o := .tup [V.ref e3]) g4))
        refine ⟨_, rfl, _, rfl, by show 1 ≤ sizeLine; decide, fun e5 g5 => ?_⟩
        have s5 := s4.trans (same_new (o := .lst [x]) g5)
        have line : 1000000 < sizeLine := by decide
        refine ⟨p, e5, _, _, rfl, rfl, s5 p _ hx, upd_same, by show xs.length + 1 ≤ sizeLine; omega, fun e6 g6 => ?_⟩
        have s6 := s5.trans (same_new (o := .lst (xs ++ [x])) g6)
        refine ⟨e6, _, rfl, .inl ⟨SqL.of upd_same, fun e7 g7 => ⟨by show 4 ≤ sizeLine; decide, fun e8 g8 => ?_⟩⟩⟩
        have s7 := s6.trans (same_new (o := .tup (xs ++ [x])) g7)
        have s8 := s7.trans (same_new (o := .lst [V.ref e1, V.ref e2, V.ref e4, V.ref e7]) g8)
        generalize eH : upd (upd (upd (upd (upd (upd (upd (upd H' e1 (.tup xs)) e2 (.lst xs)) e3 (.tup xs)) e4 (.tup [V.ref e3])) e5 (.lst [x])) e6 (.lst (xs ++ [x]))) e7 (.tup (xs ++ [x]))) e8 (.lst [V.ref e1, V.ref e2, V.ref e4, V.ref e7]) = H9 at s8
        have f8 : H9 e8 = some (.lst [V.ref e1, V.ref e2, V.ref e4, V.ref e7]) := by
          rw [← eH]
          exact upd_same
        have f7 : H9 e7 = some (.tup (xs ++ [x])) := by
          rw [← eH]
          exact same_new g8 _ _ upd_same
        have c4 : Same (upd (upd (upd (upd H' e1 (.tup xs)) e2 (.lst xs)) e3 (.tup xs)) e4 (.tup [V.ref e3])) H9 := by
          rw [← eH]
          exact (same_new g5).trans ((same_new g6).trans ((same_new g7).trans (same_new g8)))
        have f4 : H9 e4 = some (.tup [V.ref e3]) := c4 _ _ upd_same
        have c3 := (same_new g4).trans c4
        have f3 : H9 e3 = some (.tup xs) := c3 _ _ upd_same
        have c2 := (same_new g3).trans c3
        have f2 : H9 e2 = some (.lst xs) := c2 _ _ upd_same
        have f1 : H9 e1 = some (.tup xs) := ((same_new g2).trans c2) _ _ upd_same
        have S8 := SK.same s8
        have px9 : ∀ y ∈ xs, Plain H9 y := fun y hy => (px y hy).sk S8
        have ax9 : Ask H9 x := ax'.sk S8
        have l8 : SqL K H9 e8 [V.ref e1, V.ref e2, V.ref e4, V.ref e7] := SqL.of f8
        -- the one that is asked
        show tSeq _ _ _ _ H9
        refine ⟨_, rfl, e8, _, _, _, rfl, rfl, l8, atI_nat (j := 0) rfl, _, rfl, e8, _, _, _, rfl, rfl, l8, atI_nat (j := 0) rfl, _, rfl, e8, _, _, _, rfl, rfl, l8, atI_nat (j := 0) rfl, _, rfl, e8, _, _, _, rfl, rfl, l8, atI_nat (j := 0) rfl, _, rfl, e8, _, _, _, rfl, rfl, l8, atI_nat (j := 0) rfl,
          _, rfl, e8, _, _, _, rfl, rfl, l8, atI_nat (j := 1) rfl, _, rfl, e8, _, _, _, rfl, rfl, l8, atI_nat (j := 2) rfl, _, rfl, e8, _, _, _, rfl, rfl, l8, atI_nat (j := 3) rfl, by show 8 ≤ sizeLine; decide, fun e9 g9 => ?_⟩
        obtain ⟨y, gy, ay⟩ : ∃ y, [V.ref e1, V.ref e1, V.ref e1, V.ref e1, V.ref e1, V.ref e2, V.ref e4, V.ref e7][way.toNat]? = some y ∧ Ask H9 y := by
          have lw : way.toNat < [V.ref e1, V.ref e1, V.ref e1, V.ref e1, V.ref e1, V.ref e2, V.ref e4, V.ref e7].length := by
            show way.toNat < 8
            omega
          refine ⟨_, List.getElem?_eq_getElem lw, ?_⟩
          have m := List.getElem_mem lw
          have a1 : Ask H9 (.ref e1) := .tup f1 px9 (by omega)
          have a2 : Ask H9 (.ref e2) := .lst f2
          have a4 : Ask H9 (.ref e4) := .tup f4 (fun y hy => by
            rw [List.mem_singleton.mp hy]
            exact .tup f3) (by show 1 ≤ 80; decide)
          have a7 : Ask H9 (.ref e7) := .tup f7 (fun y hy => by
            rcases List.mem_append.mp hy with m | m
            · exact px9 y m
            · rw [List.mem_singleton.mp m]
              exact ax9.pl) (by rw [List.length_append]; show xs.length + 1 ≤ 80; omega)
          generalize [V.ref e1, V.ref e1, V.ref e1, V.ref e1, V.ref e1, V.ref e2, V.ref e4, V.ref e7][way.toNat] = z at m
          simp only [List.mem_cons, List.not_mem_nil, or_false] at m
          rcases m with rfl | rfl | rfl | rfl | rfl | rfl | rfl | rfl
          · exact a1
          · exact a1
          · exact a1
          · exact a1
          · exact a1
          · exact a2
          · exact a4
          · exact a7
        refine ⟨_, rfl, e9, _, _, _, rfl, rfl, SqL.of upd_same, at_of (by omega) gy, ?_⟩
        have S9 := SK.same (same_new (o := .lst [V.ref e1, V.ref e1, V.ref e1, V.ref e1, V.ref e1, V.ref e2, V.ref e4, V.ref e7]) g9)
        have tp9 := (tp'.same s8).new (o := .lst [V.ref e1, V.ref e1, V.ref e1, V.ref e1, V.ref e1, V.ref e2, V.ref e4, V.ref e7]) g9
        refine ⟨fun σ' H' => ∃ w6 w7 w8 y, σ' = [some (.ref a), some (.ref t), some (.int (0 + i)), some (.int way), some (.ref p), some x, w6, w7, w8, some y] ∧ Ask H' y ∧ Tape H' t c (200 * i + 195), ?_, ?_⟩
        · refine ⟨_, rfl, t, c, _, _, rfl, tp9, by omega, by decide, by decide +kernel, fun Ha r ra rb tpa kpa => ?_⟩
          have Sa := SK.kp tp9 kpa
          refine ⟨rfl, _, rfl, ite2 (fun _ => ?_) (fun _ => ?_)⟩
          · exact ⟨_, rfl, _, _, _, _, rfl, (ax9.sk S9).sk Sa, tpa⟩
          · exact ⟨_, _, _, _, rfl, (ay.sk S9).sk Sa, tpa⟩
        · rintro σ' Ha ⟨u6, u7, u8, y, rfl, ay, tpa⟩
          refine ⟨_, rfl, y, rfl, ay, fun Hb sb => ⟨_, rfl, _, rfl, y, rfl, ay.sk (SK.same sb), fun Hc sc => ⟨_, rfl, rfl, _, rfl, iteNS ?_ ⟨_, _, _, _, _, _, _, _, rfl, (tpa.same (sb.trans sc)).le (by omega)⟩⟩⟩⟩
          rw [clauseB_same ay sb]
    · rintro σ H2 ⟨v2, v3, v4, v5, v6, v7, v8, v9, rfl, tp2⟩
      exact k H2
theorem law_fn {f : Addr} {fd : FuncData} (T : Top K mg) (F : Fun K "law" "law" s_law f fd) : FnOk P w K mg base CX0 4 f fd ["_law_script"] (spLaw K) :=
  have d := has_draw T
  have p := has_pick T d
  ok_law F T (has_begun T) d p (has_odd T d p) (has_mks T d p) (has_clause T (has_mark T (has_whole T))) (has_lclause T (has_lmark T))
end
theorem all_mk {l : PySem.W.OpenLaw} {w : World} {K : PySem.W.Frag} {h : Heap} {mg : Str → Option Value} {fa : Addr} (X : K.In h) (G : h.Ns mainGlobals mg) (hfa : mg "law" = some (.ref fa))
    {f0 : Addr} {od0 an0 : Option Addr} {sl0 : Array (Option Value)} {oc0 kV0 dc0 pm0 cd0 ct0 : Value}
    (a0 : PySem.W.nsIn K mainGlobals "is_whole" = some (some (.ref f0))) (l0 : K.lookup f0 = some ⟨oc0, od0, .func (PySem.W.fnOf "is_whole" "is_whole" (defArgs s_is_whole) (defBody s_is_whole) (defScope s_is_whole) .none kV0 dc0 pm0 an0 cd0 ct0), sl0⟩) (cc0 : PySem.W.codeIn K cd0 "is_whole" = true) (k0 : PySem.W.keepIn K (.ref f0) = true)
    {f1 : Addr} {od1 an1 : Option Addr} {sl1 : Array (Option Value)} {oc1 kV1 dc1 pm1 cd1 ct1 : Value}
    (a1 : PySem.W.nsIn K mainGlobals "is_mark" = some (some (.ref f1))) (l1 : K.lookup f1 = some ⟨oc1, od1, .func (PySem.W.fnOf "is_mark" "is_mark" (defArgs s_is_mark) (defBody s_is_mark) (defScope s_is_mark) .none kV1 dc1 pm1 an1 cd1 ct1), sl1⟩) (cc1 : PySem.W.codeIn K cd1 "is_mark" = true) (k1 : PySem.W.keepIn K (.ref f1) = true)
    {f2 : Addr} {od2 an2 : Option Addr} {sl2 : Array (Option Value)} {oc2 kV2 dc2 pm2 cd2 ct2 : Value}
    (a2 : PySem.W.nsIn K mainGlobals "is_clause" = some (some (.ref f2))) (l2 : K.lookup f2 = some ⟨oc2, od2, .func (PySem.W.fnOf "is_clause" "is_clause" (defArgs s_is_clause) (defBody s_is_clause) (defScope s_is_clause) .none kV2 dc2 pm2 an2 cd2 ct2), sl2⟩) (cc2 : PySem.W.codeIn K cd2 "is_clause" = true) (k2 : PySem.W.keepIn K (.ref f2) = true)
    {f3 : Addr} {od3 an3 : Option Addr} {sl3 : Array (Option Value)} {oc3 kV3 dc3 pm3 cd3 ct3 : Value}
    (a3 : PySem.W.nsIn K mainGlobals "_law_begun" = some (some (.ref f3))) (l3 : K.lookup f3 = some ⟨oc3, od3, .func (PySem.W.fnOf "_law_begun" "_law_begun" (defArgs s__law_begun) (defBody s__law_begun) (defScope s__law_begun) .none kV3 dc3 pm3 an3 cd3 ct3), sl3⟩) (cc3 : PySem.W.codeIn K cd3 "_law_begun" = true) (k3 : PySem.W.keepIn K (.ref f3) = true)
    {f4 : Addr} {od4 an4 : Option Addr} {sl4 : Array (Option Value)} {oc4 kV4 dc4 pm4 cd4 ct4 : Value}
    (a4 : PySem.W.nsIn K mainGlobals "_law_draw" = some (some (.ref f4))) (l4 : K.lookup f4 = some ⟨oc4, od4, .func (PySem.W.fnOf "_law_draw" "_law_draw" (defArgs s__law_draw) (defBody s__law_draw) (defScope s__law_draw) .none kV4 dc4 pm4 an4 cd4 ct4), sl4⟩) (cc4 : PySem.W.codeIn K cd4 "_law_draw" = true) (k4 : PySem.W.keepIn K (.ref f4) = true)
    {f5 : Addr} {od5 an5 : Option Addr} {sl5 : Array (Option Value)} {oc5 kV5 dc5 pm5 cd5 ct5 : Value}
    (a5 : PySem.W.nsIn K mainGlobals "_law_pick" = some (some (.ref f5))) (l5 : K.lookup f5 = some ⟨oc5, od5, .func (PySem.W.fnOf "_law_pick" "_law_pick" (defArgs s__law_pick) (defBody s__law_pick) (defScope s__law_pick) .none kV5 dc5 pm5 an5 cd5 ct5), sl5⟩) (cc5 : PySem.W.codeIn K cd5 "_law_pick" = true) (k5 : PySem.W.keepIn K (.ref f5) = true)
    {f6 : Addr} {od6 an6 : Option Addr} {sl6 : Array (Option Value)} {oc6 kV6 dc6 pm6 cd6 ct6 : Value}
    (a6 : PySem.W.nsIn K mainGlobals "_law_is_mark" = some (some (.ref f6))) (l6 : K.lookup f6 = some ⟨oc6, od6, .func (PySem.W.fnOf "_law_is_mark" "_law_is_mark" (defArgs s__law_is_mark) (defBody s__law_is_mark) (defScope s__law_is_mark) .none kV6 dc6 pm6 an6 cd6 ct6), sl6⟩) (cc6 : PySem.W.codeIn K cd6 "_law_is_mark" = true) (k6 : PySem.W.keepIn K (.ref f6) = true)
    {f7 : Addr} {od7 an7 : Option Addr} {sl7 : Array (Option Value)} {oc7 kV7 dc7 pm7 cd7 ct7 : Value}
    (a7 : PySem.W.nsIn K mainGlobals "_law_is_clause" = some (some (.ref f7))) (l7 : K.lookup f7 = some ⟨oc7, od7, .func (PySem.W.fnOf "_law_is_clause" "_law_is_clause" (defArgs s__law_is_clause) (defBody s__law_is_clause) (defScope s__law_is_clause) .none kV7 dc7 pm7 an7 cd7 ct7), sl7⟩) (cc7 : PySem.W.codeIn K cd7 "_law_is_clause" = true) (k7 : PySem.W.keepIn K (.ref f7) = true)
    {f8 : Addr} {od8 an8 : Option Addr} {sl8 : Array (Option Value)} {oc8 kV8 dc8 pm8 cd8 ct8 : Value}
    (a8 : PySem.W.nsIn K mainGlobals "_law_odd" = some (some (.ref f8))) (l8 : K.lookup f8 = some ⟨oc8, od8, .func (PySem.W.fnOf "_law_odd" "_law_odd" (defArgs s__law_odd) (defBody s__law_odd) (defScope s__law_odd) .none kV8 dc8 pm8 an8 cd8 ct8), sl8⟩) (cc8 : PySem.W.codeIn K cd8 "_law_odd" = true) (k8 : PySem.W.keepIn K (.ref f8) = true)
    {f9 : Addr} {od9 an9 : Option Addr} {sl9 : Array (Option Value)} {oc9 kV9 dc9 pm9 cd9 ct9 : Value}
    (a9 : PySem.W.nsIn K mainGlobals "_law_clause" = some (some (.ref f9))) (l9 : K.lookup f9 = some ⟨oc9, od9, .func (PySem.W.fnOf "_law_clause" "_law_clause" (defArgs s__law_clause) (defBody s__law_clause) (defScope s__law_clause) .none kV9 dc9 pm9 an9 cd9 ct9), sl9⟩) (cc9 : PySem.W.codeIn K cd9 "_law_clause" = true) (k9 : PySem.W.keepIn K (.ref f9) = true)
    {f10 : Addr} {od10 an10 : Option Addr} {sl10 : Array (Option Value)} {oc10 kV10 dc10 pm10 cd10 ct10 : Value}
    (a10 : PySem.W.nsIn K mainGlobals "law" = some (some (.ref f10))) (l10 : K.lookup f10 = some ⟨oc10, od10, .func (PySem.W.fnOf "law" "law" (defArgs s_law) (defBody s_law) (defScope s_law) .none kV10 dc10 pm10 an10 cd10 ct10), sl10⟩) (cc10 : PySem.W.codeIn K cd10 "law" = true) (k10 : PySem.W.keepIn K (.ref f10) = true)
    {t0 : Tok} (v0 : PySem.W.nsIn K mainGlobals "GREATEST_NAME" = some (some (.int 1000000000000 t0)))
    {t1 : Tok} (v1 : PySem.W.nsIn K mainGlobals "MOST_MARKS" = some (some (.int 64 t1)))
    (z0 : PySem.W.nsIn K mainGlobals "isinstance" = some none)
    (z1 : PySem.W.nsIn K mainGlobals "bool" = some none)
    (z2 : PySem.W.nsIn K mainGlobals "int" = some none)
    (z3 : PySem.W.nsIn K mainGlobals "abs" = some none)
    (z4 : PySem.W.nsIn K mainGlobals "len" = some none)
    (z5 : PySem.W.nsIn K mainGlobals "tuple" = some none)
    (z6 : PySem.W.nsIn K mainGlobals "all" = some none)
    (z7 : PySem.W.nsIn K mainGlobals "set" = some none)
    (z8 : PySem.W.nsIn K mainGlobals "range" = some none)
    (z9 : PySem.W.nsIn K mainGlobals "min" = some none)
    (z10 : PySem.W.nsIn K mainGlobals "list" = some none)
    (z11 : PySem.W.nsIn K mainGlobals "repr" = some none)
    : ∃ fd : FuncData, (∀ (s : Shared) (v : Value), BindsTo s fd ⟨[v], []⟩ [("_law_script", v)]) ∧ ∀ base : Heap, K.In base → base.Ns mainGlobals mg → FnOk l.prog w K mg base CX0 4 fa fd ["_law_script"] (spLaw K) := by
  have e := hfa.symm.trans (PySem.W.mg_of X G a10)
  cases e
  have T : Top K mg := ⟨⟨⟨_, _, PySem.W.mg_of X G a0, fun_mk (st := s_is_whole) l0 cc0 k0⟩⟩, ⟨⟨_, _, PySem.W.mg_of X G a1, fun_mk (st := s_is_mark) l1 cc1 k1⟩⟩, ⟨⟨_, _, PySem.W.mg_of X G a2, fun_mk (st := s_is_clause) l2 cc2 k2⟩⟩, ⟨⟨_, _, PySem.W.mg_of X G a3, fun_mk (st := s__law_begun) l3 cc3 k3⟩⟩, ⟨⟨_, _, PySem.W.mg_of X G a4, fun_mk (st := s__law_draw) l4 cc4 k4⟩⟩, ⟨⟨_, _, PySem.W.mg_of X G a5, fun_mk (st := s__law_pick) l5 cc5 k5⟩⟩, ⟨⟨_, _, PySem.W.mg_of X G a6, fun_mk (st := s__law_is_mark) l6 cc6 k6⟩⟩, ⟨⟨_, _, PySem.W.mg_of X G a7, fun_mk (st := s__law_is_clause) l7 cc7 k7⟩⟩, ⟨⟨_, _, PySem.W.mg_of X G a8, fun_mk (st := s__law_odd) l8 cc8 k8⟩⟩, ⟨⟨_, _, PySem.W.mg_of X G a9, fun_mk (st := s__law_clause) l9 cc9 k9⟩⟩, ⟨⟨_, _, PySem.W.mg_of X G a10, fun_mk (st := s_law) l10 cc10 k10⟩⟩, ⟨_, PySem.W.mg_of X G v0⟩, ⟨_, PySem.W.mg_of X G v1⟩, PySem.W.mg_none_of X G z0, PySem.W.mg_none_of X G z1, PySem.W.mg_none_of X G z2, PySem.W.mg_none_of X G z3, PySem.W.mg_none_of X G z4, PySem.W.mg_none_of X G z5, PySem.W.mg_none_of X G z6, PySem.W.mg_none_of X G z7, PySem.W.mg_none_of X G z8, PySem.W.mg_none_of X G z9, PySem.W.mg_none_of X G z10, PySem.W.mg_none_of X G z11⟩
  exact ⟨_, fun s v => .of_eq rfl, fun base _ _ => law_fn T (fun_mk (st := s_law) l10 cc10 k10)⟩
end Mc
open PySem PySem.W PyProof.Rows
set_option maxRecDepth 100000 in
set_option maxHeartbeats 0 in
theorem PySem.Challenge.cw_mostclauses_k01_clauses_or_not_holds : PySem.Challenge.rw_mostclauses_k01_clauses_or_not.Holds := by
  w_on; o_law; k_head; (case hw => w_witness2)
  k_fill
  refine L2.walk_of (l := PySem.Challenge.rw_mostclauses_k01_clauses_or_not) (n := 63) (k := 4) (x := "_law_script") (CX := fun _ => L2.CX0) (sp := fun w => Mc.spLaw _) rfl (by decide) rfl ⟨rfl, by decide, by decide⟩ (fun w h Y => PySem.W.kIn_of Y) ?F (fun _ _ a ns hl _ hS => ⟨a, ns, rfl, hS, hl, fun _ => rfl⟩) (fun _ _ _ _ _ h => h)
  case F =>
    intro w mg fa h KX G hmg
    refine' Mc.all_mk KX G hmg ?a0 ?l0 ?cc0 ?k0 ?a1 ?l1 ?cc1 ?k1 ?a2 ?l2 ?cc2 ?k2 ?a3 ?l3 ?cc3 ?k3 ?a4 ?l4 ?cc4 ?k4 ?a5 ?l5 ?cc5 ?k5 ?a6 ?l6 ?cc6 ?k6 ?a7 ?l7 ?cc7 ?k7 ?a8 ?l8 ?cc8 ?k8 ?a9 ?l9 ?cc9 ?k9 ?a10 ?l10 ?cc10 ?k10 ?v0 ?v1 ?z0 ?z1 ?z2 ?z3 ?z4 ?z5 ?z6 ?z7 ?z8 ?z9 ?z10 ?z11
    (case a0 => k_is)
    (case l0 => k_is)
    (case cc0 => k_is)
    (case k0 => k_is)
    (case a1 => k_is)
    (case l1 => k_is)
    (case cc1 => k_is)
    (case k1 => k_is)
    (case a2 => k_is)
    (case l2 => k_is)
    (case cc2 => k_is)
    (case k2 => k_is)
    (case a3 => k_is)
    (case l3 => k_is)
    (case cc3 => k_is)
    (case k3 => k_is)
    (case a4 => k_is)
    (case l4 => k_is)
    (case cc4 => k_is)
    (case k4 => k_is)
    (case a5 => k_is)
    (case l5 => k_is)
    (case cc5 => k_is)
    (case k5 => k_is)
    (case a6 => k_is)
    (case l6 => k_is)
    (case cc6 => k_is)
    (case k6 => k_is)
    (case a7 => k_is)
    (case l7 => k_is)
    (case cc7 => k_is)
    (case k7 => k_is)
    (case a8 => k_is)
    (case l8 => k_is)
    (case cc8 => k_is)
    (case k8 => k_is)
    (case a9 => k_is)
    (case l9 => k_is)
    (case cc9 => k_is)
    (case k9 => k_is)
    (case a10 => k_is)
    (case l10 => k_is)
    (case cc10 => k_is)
    (case k10 => k_is)
    (case v0 => k_is)
    (case v1 => k_is)
    (case z0 => k_is)
    (case z1 => k_is)
    (case z2 => k_is)
    (case z3 => k_is)
    (case z4 => k_is)
    (case z5 => k_is)
    (case z6 => k_is)
    (case z7 => k_is)
    (case z8 => k_is)
    (case z9 => k_is)
    (case z10 => k_is)
    (case z11 => k_is)
