import PyProof.Rows.All
import Wide.All
import OpenK.AllK
import Wide.FinOn
import HandS.ForMost
import HandS.Flow
import HandS.Wide
import HandS.Small
import HandS.Style
import HandS.IsInst
import HandS.RaiseMore
import HandS.Codes
import HandS.ExcInit
import HandS.ExcIs
import HandS.ExcField
import HandS.FStr
import KE.KExcInit
import PyProof.ReprRoads
import PyProof.Rows.ReprShort
import PyProof.Rows.RegFStrParts
import PyProof.FString2
import PyProof.ExcBaseAll.ValueError
import PyProof.ExcBaseAll.IndexError
import PyProof.ExcBaseAll.LookupError
import PyProof.Rows.FactsExc_KeyError
import PyProof.Rows.FactsExc_ValueError
import PyProof.Rows.FactsExc_IndexError
import PyProof.Rows.FactsExc_LookupError
import HandS.WordsExc
import HandS.ExcOwn
import HandS.TryMany
import HandS.Star
import HandS.TupMul
import HandS.Iter
import HandS.Text
import HandS.TupAny
import HandS.Conv
import PyProof.ReprBulk
import HandS.TupLe
import HandS.Zip
import PySem.Challenge.RW_mostclauses_k11_choices_in_order
set_option Elab.async false
set_option linter.all false
set_option maxRecDepth 100000
set_option maxHeartbeats 4000000
namespace Mc
open PySem PySem.Spec PyProof.Rows L2
/-! ### the text by places -/
def top (i : Nat) : Stmt := PySem.Challenge.pw_mostclauses_k11_choices_in_order.main.body.getD i (.Pass ⟨0, 0, 0, 0⟩)

abbrev s_ways : Stmt := top 6
abbrev nm_ways : List Str := ["lens", "many", "length"]
theorem sc_ways : FnScope nm_ways ["lens"] (defScope s_ways) := ⟨rfl, rfl, rfl, by decide +kernel, rfl, by decide +kernel, by decide +kernel⟩
abbrev s_how_many : Stmt := top 7
abbrev nm_how_many : List Str := ["lens", "total", "many"]
theorem sc_how_many : FnScope nm_how_many ["lens", "total"] (defScope s_how_many) := ⟨rfl, rfl, rfl, by decide +kernel, rfl, by decide +kernel, by decide +kernel⟩
abbrev s_choices : Stmt := top 8
abbrev nm_choices : List Str := ["lens", "total", "many", "begun", "behind", "length", "counts", "left", "count"]
theorem sc_choices : FnScope nm_choices ["lens", "total"] (defScope s_choices) := ⟨rfl, rfl, rfl, by decide +kernel, rfl, by decide +kernel, by decide +kernel⟩
abbrev s__with_one_more : Stmt := top 9
abbrev nm__with_one_more : List Str := ["many", "length", "told", "held", "total"]
theorem sc__with_one_more : FnScope nm__with_one_more ["many", "length"] (defScope s__with_one_more) := ⟨rfl, rfl, rfl, by decide +kernel, rfl, by decide +kernel, by decide +kernel⟩
abbrev s__law_begun : Stmt := top 11
abbrev nm__law_begun : List Str := ["_law_script"]
theorem sc__law_begun : FnScope nm__law_begun ["_law_script"] (defScope s__law_begun) := ⟨rfl, rfl, rfl, by decide +kernel, rfl, by decide +kernel, by decide +kernel⟩
abbrev s__law_draw : Stmt := top 12
abbrev nm__law_draw : List Str := ["_law_tape", "_law_many_here", "_law_spot", "_law_most", "_law_cell", "_law_found"]
theorem sc__law_draw : FnScope nm__law_draw ["_law_tape", "_law_many_here"] (defScope s__law_draw) := ⟨rfl, rfl, rfl, by decide +kernel, rfl, by decide +kernel, by decide +kernel⟩
abbrev s__law_pick : Stmt := top 13
abbrev nm__law_pick : List Str := ["_law_tape", "_law_some"]
theorem sc__law_pick : FnScope nm__law_pick ["_law_tape", "_law_some"] (defScope s__law_pick) := ⟨rfl, rfl, rfl, by decide +kernel, rfl, by decide +kernel, by decide +kernel⟩
abbrev s__law_due : Stmt := top 14
abbrev nm__law_due : List Str := ["_law_lens", "_law_total", "_law_found", "_law_most", "_law_longer", "_law_some", "_law_left", "_law_k"]
theorem sc__law_due : FnScope nm__law_due ["_law_lens", "_law_total"] (defScope s__law_due) := ⟨rfl, rfl, rfl, by decide +kernel, rfl, by decide +kernel, by decide +kernel⟩
abbrev s__law_shuffled : Stmt := top 15
abbrev nm__law_shuffled : List Str := ["_law_tape", "_law_some", "_law_left", "_law_found"]
theorem sc__law_shuffled : FnScope nm__law_shuffled ["_law_tape", "_law_some"] (defScope s__law_shuffled) := ⟨rfl, rfl, rfl, by decide +kernel, rfl, by decide +kernel, by decide +kernel⟩
abbrev s__law_many : Stmt := top 16
abbrev nm__law_many : List Str := ["_law_lens", "_law_total", "_law_found", "e", "_law_is_well", "_law_is_rising", "_law_is_right", "_law_k", "_law_some"]
theorem sc__law_many : FnScope nm__law_many ["_law_lens", "_law_total"] (defScope s__law_many) := ⟨rfl, rfl, rfl, by decide +kernel, rfl, by decide +kernel, by decide +kernel⟩
abbrev s_law : Stmt := top 17
abbrev nm_law : List Str := ["_law_script", "_law_tape", "_law_turn", "_law_lens", "_law_total", "_law_kept", "_law_told", "_law_due_here", "_law_many_here", "_law_some", "_law_one", "_law_k"]
theorem sc_law : FnScope nm_law ["_law_script"] (defScope s_law) := ⟨rfl, rfl, rfl, by decide +kernel, rfl, by decide +kernel, by decide +kernel⟩
/-- an inner statement of a class -/
def inner (s : Stmt) (j : Nat) : Stmt := match s with
  | .ClassDef _ _ _ b _ _ _ _ _ _ _ => b.getD j (.Pass ⟨0, 0, 0, 0⟩)
  | z => z
abbrev s_TooMany___init__ : Stmt := inner (top 1) 0
abbrev nm_TooMany___init__ : List Str := ["self", "many"]
theorem sc_TooMany___init__ : FnScope nm_TooMany___init__ ["self", "many"] (defScope s_TooMany___init__) := ⟨rfl, rfl, rfl, by decide +kernel, rfl, by decide +kernel, by decide +kernel⟩
abbrev s_NoPut___init__ : Stmt := inner (top 2) 0
abbrev nm_NoPut___init__ : List Str := ["self"]
theorem sc_NoPut___init__ : FnScope nm_NoPut___init__ ["self"] (defScope s_NoPut___init__) := ⟨rfl, rfl, rfl, by decide +kernel, rfl, by decide +kernel, by decide +kernel⟩
abbrev s_NoDeed___init__ : Stmt := inner (top 3) 0
abbrev nm_NoDeed___init__ : List Str := ["self"]
theorem sc_NoDeed___init__ : FnScope nm_NoDeed___init__ ["self"] (defScope s_NoDeed___init__) := ⟨rfl, rfl, rfl, by decide +kernel, rfl, by decide +kernel, by decide +kernel⟩
/-! ### a def that stands in the top and keeps a promise -/
structure At (K : PySem.W.Frag) (mg : Str → Option Value) (x : Str) (st : Stmt) : Prop where
  ex : ∃ f fd, mg x = some (.ref f) ∧ Fun K x x st f fd
structure Has (P : Program) (w : World) (K : PySem.W.Frag) (mg : Str → Option Value) (base : Heap) (k : Nat) (x : Str) (ps : List Str) (sp : Sp) : Prop where
  ex : ∃ f fd, mg x = some (.ref f) ∧ PySem.W.keepIn K (.ref f) = true ∧ Binds K fd ps [] ∧ FnOk P w K mg base CX0 k f fd ps sp
theorem pe_has {X : Cx} {k : Nat} {x : Str} {ps : List Str} {sp : Sp} {e : Expr} {es : List Expr} {t : TA} {p pos : Pos} (h : Has X.prog X.w X.K X.mg X.base k x ps sp) (hr : Room k X.A) (hg : Gl X x) (ha : PA X (e :: es) t)
    (hdb : (x == ("__debug__" : Str)) = false := by decide) (he : starEach (e :: es) X.env = (false, eval e X.env) :: starEach es X.env := by rfl) (hpl : (backTo pos (starEach es X.env)).any (·.1) = false := by rfl) :
    PE X (.Call (.Name x p) (e :: es) [] pos) (tCall sp [] E0 t) := by
  obtain ⟨f, fd, hm, hk, hb, F⟩ := h.ex
  exact pe_call F hr hg hm hk hb .nil pass0 ha hdb he hpl
abbrev BindsAll (x : Str) (st : Stmt) (ps : List Str) : Prop :=
  ∀ (kV doc pm : Value) (an : Option Addr) (cdv ct : Value) (us : List Value), us.length = ps.length → bindArgs (PySem.W.fnOf x x (defArgs st) (defBody st) (defScope st) .none kV doc pm an cdv ct) ⟨us, []⟩ = pure (ps.zip us)
section
variable {P : Program} {w : World} {K : PySem.W.Frag} {mg : Str → Option Value} {base : Heap}
theorem has_of {x : Str} {st : Stmt} {N ps : List Str} {k : Nat} {sp : Sp} (A : At K mg x st) (S : FnScope N ps (defScope st)) (B : BindsAll x st ps) (len : ∀ vs H Q E, sp vs H Q E → vs.length = ps.length)
    (hbody : ∀ (f : Addr) (cdv : Value) (A : Around) (outer : List Env) (s : Shared) (H : Hp) (vs : List V) (Q : VK) (E : XK), Room k (A.deeper (envOfC x (defScope st) s.heap.objs.size f cdv)) → sp vs H Q E →
      ∃ t, PSs (cxOf CX0 P w K mg base N x (defScope st) f cdv A outer s H E).nox (defBody st) t ∧ t { nx := fun _ H' => Q .non H', rt := Q } (start N vs) H) : Has P w K mg base (k + 1) x ps sp := by
  obtain ⟨f, fd, hm, F⟩ := A.ex
  exact ⟨f, fd, hm, F.kp, F.binds B, F.ok S len fun cdv A outer s H vs Q E hr h => hbody f cdv A outer s H vs Q E hr h⟩
end
theorem pe_const {X : Cx} {x : Str} {i : Int} {pos : Pos} (hm : ∃ t, X.mg x = some (.int i t)) (hg : Gl X x) (hd : (x == ("__debug__" : Str)) = false := by decide) : PE X (.Name x pos) (tC (.int i)) := by
  obtain ⟨t, hm⟩ := hm
  exact pe_glob hg hm ⟨t, rfl⟩ hd
/-! ### repr of a truth -/
def boolText (b : Bool) : Str := if b then "True" else "False"
theorem boolText_inj {a b : Bool} (h : boolText a = boolText b) : a = b := by
  cases a <;> cases b <;> first | rfl | exact absurd h (by decide +kernel)
theorem call_repr_bool {X : Cx} : CallR X (.builtin "repr") (fun xs H Q => ∃ b, xs = [.bl b] ∧ Q (.str (boolText b)) H) := by
  intro pins s σ H xs us Q I r h
  obtain ⟨b, rfl, q⟩ := h
  obtain ⟨u, rfl, ru⟩ := vals1 r
  cases ru
  cases b with
  | true => exact PySem.P.repr_of_bool ⟨.str (boolText true), H, I.tok _, ⟨_, rfl⟩, q⟩
  | false => exact PySem.P.repr_of_bool ⟨.str (boolText false), H, I.tok _, ⟨_, rfl⟩, q⟩
/-! ### heaps -/
/-- all that is known stays, but for what stands at t -/
def Kp (t : Addr) (H H' : Hp) : Prop := ∀ b o, H b = some o → b ≠ t → H' b = some o
theorem Kp.refl {t : Addr} (H : Hp) : Kp t H H := fun _ _ h _ => h
theorem Kp.trans {t : Addr} {H H1 H2 : Hp} (a : Kp t H H1) (b : Kp t H1 H2) : Kp t H H2 := fun c o h n => b c o (a c o h n) n
theorem Kp.new {t p : Addr} {H : Hp} {o : HO} (h : H p = none) : Kp t H (upd H p o) := fun b u e _ => by
  rw [upd_ne (ne_of_none e h)]
  exact e
theorem Kp.at {t : Addr} {H : Hp} {o : HO} : Kp t H (upd H t o) := fun b u e n => by
  rw [upd_ne n]
  exact e
theorem Kp.same {t : Addr} {H H' : Hp} (s : Same H H') : Kp t H H' := fun b o e _ => s b o e
theorem same_new {H : Hp} {p : Addr} {o : HO} (h : H p = none) : Same H (upd H p o) := fun b u e => by
  rw [upd_ne (ne_of_none e h)]
  exact e
/-! ### the tape -/
def tk (c : Addr) (spot left : Int) : List (Key × V) := [(.inr "cells", .ref c), (.inr "spot", .int spot), (.inr "left", .int left)]
structure TapeC (H : Hp) (t c : Addr) (ns : List Int) (spot left : Int) : Prop where
  d : H t = some (.dK (tk c spot left))
  l : H c = some (.lst (ns.map V.int))
  ne : 0 < ns.length
  lt : ns.length ≤ 63
  s0 : 0 ≤ spot
  l0 : 0 ≤ left
/-- a tape at t, its cells at c, of which at most n draws are taken -/
def Tape (H : Hp) (t c : Addr) (n : Nat) : Prop := ∃ ns spot left, TapeC H t c ns spot left ∧ spot ≤ n
theorem Tape.ne {H : Hp} {t c : Addr} {n : Nat} (h : Tape H t c n) : t ≠ c := by
  obtain ⟨ns, spot, left, h, _⟩ := h
  exact ne_of h.d h.l (by intro z; cases z)
theorem Tape.le {H : Hp} {t c : Addr} {n m : Nat} (h : Tape H t c n) (l : n ≤ m) : Tape H t c m := by
  obtain ⟨ns, spot, left, h, e⟩ := h
  exact ⟨ns, spot, left, h, by omega⟩
theorem Tape.stay {H H' : Hp} {t c : Addr} {n : Nat} (h : Tape H t c n) (k : ∀ b o, H b = some o → b = t ∨ b = c → H' b = some o) : Tape H' t c n := by
  obtain ⟨ns, spot, left, h, e⟩ := h
  exact ⟨ns, spot, left, ⟨k _ _ h.d (.inl rfl), k _ _ h.l (.inr rfl), h.ne, h.lt, h.s0, h.l0⟩, e⟩
theorem Tape.same {H H' : Hp} {t c : Addr} {n : Nat} (h : Tape H t c n) (s : Same H H') : Tape H' t c n := h.stay fun b o e _ => s b o e
theorem Tape.new {H : Hp} {t c p : Addr} {n : Nat} {o : HO} (h : Tape H t c n) (hp : H p = none) : Tape (upd H p o) t c n := h.same (same_new hp)
theorem Tape.at_t {H : Hp} {t c : Addr} {n : Nat} (h : Tape H t c n) : ∃ o, H t = some o := by
  obtain ⟨ns, spot, left, h, _⟩ := h
  exact ⟨_, h.d⟩
theorem Tape.at_c {H : Hp} {t c : Addr} {n : Nat} (h : Tape H t c n) : ∃ o, H c = some o := by
  obtain ⟨ns, spot, left, h, _⟩ := h
  exact ⟨_, h.l⟩
theorem k_cells : ¬ (("cells" : Str) = "spot") := by decide +kernel
theorem k_cells2 : ¬ (("cells" : Str) = "left") := by decide +kernel
theorem k_spot : ¬ (("spot" : Str) = "left") := by decide +kernel
theorem tk_cells (c : Addr) (a b : Int) : valV (tk c a b) (Sum.inr "cells" : Key) = some (.ref c) := valV_pos rfl
theorem tk_spot (c : Addr) (a b : Int) : valV (tk c a b) (Sum.inr "spot" : Key) = some (.int a) := by
  unfold tk
  rw [valV_neg (fun e => k_cells (Sum.inr.inj e)), valV_pos rfl]
theorem tk_left (c : Addr) (a b : Int) : valV (tk c a b) (Sum.inr "left" : Key) = some (.int b) := by
  unfold tk
  rw [valV_neg (fun e => k_cells2 (Sum.inr.inj e)), valV_neg (fun e => k_spot (Sum.inr.inj e)), valV_pos rfl]
theorem tk_put_spot (c : Addr) (a b x : Int) : putK (tk c a b) (Sum.inr "spot" : Key) (.int x) = tk c x b := by
  rfl
theorem tk_put_left (c : Addr) (a b x : Int) : putK (tk c a b) (Sum.inr "left" : Key) (.int x) = tk c a x := by
  rfl
theorem dg_cells {H : Hp} {t c : Addr} {a b : Int} (h : H t = some (.dK (tk c a b))) : DGet H t (.str "cells") (some (.ref c)) := by
  have g := DGet.k (k := (Sum.inr "cells" : Key)) h
  rw [tk_cells] at g
  exact g
theorem dg_spot {H : Hp} {t c : Addr} {a b : Int} (h : H t = some (.dK (tk c a b))) : DGet H t (.str "spot") (some (.int a)) := by
  have g := DGet.k (k := (Sum.inr "spot" : Key)) h
  rw [tk_spot] at g
  exact g
theorem dg_left {H : Hp} {t c : Addr} {a b : Int} (h : H t = some (.dK (tk c a b))) : DGet H t (.str "left") (some (.int b)) := by
  have g := DGet.k (k := (Sum.inr "left" : Key)) h
  rw [tk_left] at g
  exact g
theorem dp_spot {H : Hp} {t c : Addr} {a b : Int} (x : Int) (h : H t = some (.dK (tk c a b))) : DPut H t (.str "spot") (.int x) (upd H t (.dK (tk c x b))) := by
  have g := DPut.k (k := (Sum.inr "spot" : Key)) (v := .int x) h (small1000 (by show 3 ≤ 1000; decide))
  rw [tk_put_spot] at g
  exact g
theorem dp_left {H : Hp} {t c : Addr} {a b : Int} (x : Int) (h : H t = some (.dK (tk c a b))) : DPut H t (.str "left") (.int x) (upd H t (.dK (tk c a x))) := by
  have g := DPut.k (k := (Sum.inr "left" : Key)) (v := .int x) h (small1000 (by show 3 ≤ 1000; decide))
  rw [tk_put_left] at g
  exact g
theorem Tape.fresh {H : Hp} {t c p : Addr} {n : Nat} (h : Tape H t c n) (hp : H p = none) : p ≠ t := by
  obtain ⟨o, e⟩ := h.at_t
  exact (ne_of_none e hp).symm
theorem Tape.fresh_c {H : Hp} {t c p : Addr} {n : Nat} (h : Tape H t c n) (hp : H p = none) : p ≠ c := by
  obtain ⟨o, e⟩ := h.at_c
  exact (ne_of_none e hp).symm
/-! ### a list beside the empty list -/
section
variable {X : Cx}
def rEqNil (K : PySem.W.Frag) (neg : Bool) : R2 := fun x y H Q => ∃ a b xs, x = .ref a ∧ y = .ref b ∧ SqL K H a xs ∧ SqL K H b [] ∧ Q (.bl (if neg = true then !xs.isEmpty else xs.isEmpty)) H
theorem op_eqNil (hu : X.A.units + 1 < cLine) : OpR X (compareOp .Eq) (rEqNil X.K false) := by
  intro pins s σ H x y v u Q I rx ry h
  obtain ⟨a, b, xs, rfl, rfl, ha, hb, q⟩ := h
  cases rx
  cases ry
  obtain ⟨us, vs, pl, _⟩ := I.list ha
  obtain ⟨ws, vs2, pl2, _⟩ := I.list hb
  cases vs2
  have l := vs.length
  cases xs with
  | nil =>
    cases vs
    exact SeqAt.RcAt.lists (e := fun _ => true) pl.isList pl2.isList rfl (by omega) (fun j h1 => absurd h1 (Nat.not_lt_zero _)) _ _ _ _ ⟨.bl true, H, I, rfl, q⟩
  | cons z zs => exact SeqAt.RcAt.lists_lengths pl.isList pl2.isList (by rw [List.size_toArray, ← l]; rfl) (by omega) _ _ _ _ ⟨.bl false, H, I, rfl, q⟩
theorem op_neNil (hu : X.A.units + 1 < cLine) : OpR X (compareOp .NotEq) (rEqNil X.K true) := by
  intro pins s σ H x y v u Q I rx ry h
  obtain ⟨a, b, xs, rfl, rfl, ha, hb, q⟩ := h
  cases rx
  cases ry
  obtain ⟨us, vs, pl, _⟩ := I.list ha
  obtain ⟨ws, vs2, pl2, _⟩ := I.list hb
  cases vs2
  have l := vs.length
  cases xs with
  | nil =>
    cases vs
    exact SeqAt.RcNeAt.lists (e := fun _ => true) pl.isList pl2.isList rfl (by omega) (fun j h1 => absurd h1 (Nat.not_lt_zero _)) _ _ _ _ ⟨.bl false, H, I, rfl, q⟩
  | cons z zs => exact SeqAt.RcNeAt.lists_lengths pl.isList pl2.isList (by rw [List.size_toArray, ← l]; rfl) (by omega) _ _ _ _ ⟨.bl true, H, I, rfl, q⟩
end
/-! ### comprehensions that leave what is known as it is -/
theorem take_sel {α β : Type} (t : α → Bool) (f : α → β) {xs : List α} {i : Nat} {x : α} (h : xs[i]? = some x) :
    ((xs.take (i + 1)).filter t).map f = ((xs.take i).filter t).map f ++ (if t x = true then [f x] else []) := by
  rw [List.take_add_one, h, List.filter_append, List.map_append]
  by_cases ht : t x = true
  · rw [if_pos ht]
    simp [ht]
  · rw [if_neg ht]
    simp [ht]
section
variable {K : PySem.W.Frag} {a : Addr} {xs : List V} {tt : TT} {te : TE} {vs : List Nat} {σ : L2.St} {H : Hp} {D : Addr} {Qd : Hp → Prop} {j : Nat}
/-- what a turn asks: the test, the item -/
structure SelT (H : Hp) (σ : L2.St) (vs : List Nat) (j : Nat) (tt : TT) (te : TE) (x : V) (b : Bool) (y : V) : Prop where
  wip : wipe ((wipe σ vs).set j (some x)) vs = wipe σ vs
  tst : ∀ H', Same H H' → ∀ R : Bool → Hp → Prop, (∀ H'', Same H' H'' → R b H'') → tt ((wipe σ vs).set j (some x)) H' R
  elt : b = true → ∀ H', Same H H' → ∀ R : VK, (∀ H'', Same H' H'' → R y H'') → te ((wipe σ vs).set j (some x)) H' R
theorem sel_turn {x y : V} {b : Bool} {acc : List V} {H' : Hp} {P : Hp → Prop} (hD : H D = none) (s : SelT H σ vs j tt te x b y) (hs : Same H H') (ha : H' D = some (.lst acc)) (hz : acc.length < sizeLine)
    (k : ∀ H'', Same H H'' → H'' D = some (.lst (acc ++ (if b = true then [y] else []))) → P H'') :
    gName j x (wipe σ vs) H' fun σ2 H2 => wipe σ2 vs = wipe σ vs ∧ tt σ2 H2 fun c H3 => if c = true then te σ2 H3 fun y H4 => ∃ acc, H4 D = some (.lst acc) ∧ acc.length < sizeLine ∧ P (upd H4 D (.lst (acc ++ [y]))) else P H3 := by
  refine ⟨s.wip, s.tst H' hs _ fun H3 s3 => ?_⟩
  have h3 := s3 D _ ha
  cases b with
  | false =>
    refine iteF (k H3 (hs.trans s3) ?_)
    rw [h3, if_neg Bool.false_ne_true, List.append_nil]
  | true =>
    refine iteT (s.elt rfl H3 (hs.trans s3) _ fun H4 s4 => ⟨acc, s4 D _ h3, hz, k _ (fun c o e => ?_) ?_⟩)
    · rw [upd_ne (ne_of_none e hD)]
      exact s4 c o (s3 c o (hs c o e))
    · rw [upd_same, if_pos rfl]
theorem lc_sel_list (t : V → Bool) (f : V → V) (hx : SqL K H a xs) (hD : H D = none) (hz : xs.length ≤ 1000000) (hs : ∀ x ∈ xs, SelT H σ vs j tt te x (t x) (f x)) (k : ∀ H', Same H H' → H' D = some (.lst ((xs.filter t).map f)) → Qd H') :
    ∃ W : Nat → Nat → Hp → Prop, (∃ m, W 0 m (upd H D (.lst []))) ∧ ∀ i m H, W i m H →
      ((Itl K a).stop i H ∧ Qd H) ∨ ((Itl K a).go i H ∧ ∃ Nx : Hp → Prop, (∀ H', Nx H' → ∃ m', m' < m ∧ W (i + 1) m' H') ∧ ∀ x H', (Itl K a).yld i H x H' → gName j x (wipe σ vs) H' fun σ2 H2 => wipe σ2 vs = wipe σ vs ∧ tt σ2 H2 fun b H3 =>
        if b = true then te σ2 H3 fun y H4 => ∃ acc, H4 D = some (.lst acc) ∧ acc.length < sizeLine ∧ Nx (upd H4 D (.lst (acc ++ [y]))) else Nx H3) := by
  have line : 1000000 < sizeLine := by decide
  refine lc_list (xs := xs) (fun i H' => Same H H' ∧ H' D = some (.lst (((xs.take i).filter t).map f))) ⟨same_new hD, upd_same⟩ (fun i H' _ p => p.1.seq hx) (fun i x H' hi p => ?_) fun H' p => k H' p.1 (by rw [p.2, List.take_length])
  refine sel_turn hD (hs x (List.mem_of_getElem? hi)) p.1 p.2 ?_ fun H'' s'' e => ⟨s'', by rw [e, take_sel t f hi]⟩
  have l1 := List.length_filter_le t (xs.take i)
  have l2 := List.length_take_le i xs
  have l3 : (xs.take i).length ≤ xs.length := by rw [List.length_take]; omega
  rw [List.length_map]
  omega
theorem Same.seqT {H H' : Hp} (e : Same H H') (h : SqT K H a xs) : SqT K H' a xs := by
  rcases h with (h | ⟨o, h⟩) | h
  · exact .inl (.inl (e _ _ h))
  · exact .inl (.inr ⟨o, e _ _ h⟩)
  · exact .inr h
theorem lc_sel_tup (t : V → Bool) (f : V → V) (hx : SqT K H a xs) (hD : H D = none) (hz : xs.length ≤ 1000000) (hs : ∀ x ∈ xs, SelT H σ vs j tt te x (t x) (f x)) (k : ∀ H', Same H H' → H' D = some (.lst ((xs.filter t).map f)) → Qd H') :
    ∃ W : Nat → Nat → Hp → Prop, (∃ m, W 0 m (upd H D (.lst []))) ∧ ∀ i m H, W i m H →
      ((Itt K a).stop i H ∧ Qd H) ∨ ((Itt K a).go i H ∧ ∃ Nx : Hp → Prop, (∀ H', Nx H' → ∃ m', m' < m ∧ W (i + 1) m' H') ∧ ∀ x H', (Itt K a).yld i H x H' → gName j x (wipe σ vs) H' fun σ2 H2 => wipe σ2 vs = wipe σ vs ∧ tt σ2 H2 fun b H3 =>
        if b = true then te σ2 H3 fun y H4 => ∃ acc, H4 D = some (.lst acc) ∧ acc.length < sizeLine ∧ Nx (upd H4 D (.lst (acc ++ [y]))) else Nx H3) := by
  have line : 1000000 < sizeLine := by decide
  refine lc_tup (xs := xs) (fun i H' => Same H H' ∧ H' D = some (.lst (((xs.take i).filter t).map f))) ⟨same_new hD, upd_same⟩ (fun i H' _ p => Same.seqT p.1 hx) (fun i x H' hi p => ?_) fun H' p => k H' p.1 (by rw [p.2, List.take_length])
  refine sel_turn hD (hs x (List.mem_of_getElem? hi)) p.1 p.2 ?_ fun H'' s'' e => ⟨s'', by rw [e, take_sel t f hi]⟩
  have l1 := List.length_filter_le t (xs.take i)
  have l3 : (xs.take i).length ≤ xs.length := by rw [List.length_take]; omega
  rw [List.length_map]
  omega
theorem take_range {n i : Nat} (h : i < n) : (List.range n)[i]? = some i := by
  rw [List.getElem?_range h]
theorem lc_sel_range {lo : Int} {n : Nat} (t : Nat → Bool) (f : Nat → V) (hD : H D = none) (hz : n ≤ 1000000) (hs : ∀ i, i < n → SelT H σ vs j tt te (.int (lo + i)) (t i) (f i)) (k : ∀ H', Same H H' → H' D = some (.lst (((List.range n).filter t).map f)) → Qd H') :
    ∃ W : Nat → Nat → Hp → Prop, (∃ m, W 0 m (upd H D (.lst []))) ∧ ∀ i m H, W i m H →
      ((Itr lo n).stop i H ∧ Qd H) ∨ ((Itr lo n).go i H ∧ ∃ Nx : Hp → Prop, (∀ H', Nx H' → ∃ m', m' < m ∧ W (i + 1) m' H') ∧ ∀ x H', (Itr lo n).yld i H x H' → gName j x (wipe σ vs) H' fun σ2 H2 => wipe σ2 vs = wipe σ vs ∧ tt σ2 H2 fun b H3 =>
        if b = true then te σ2 H3 fun y H4 => ∃ acc, H4 D = some (.lst acc) ∧ acc.length < sizeLine ∧ Nx (upd H4 D (.lst (acc ++ [y]))) else Nx H3) := by
  have line : 1000000 < sizeLine := by decide
  refine lc_range (fun i H' => Same H H' ∧ H' D = some (.lst ((((List.range n).take i).filter t).map f))) ⟨same_new hD, upd_same⟩ (fun i H' hi p => ?_) fun H' p => k H' p.1 (by rw [p.2, List.take_of_length_le (by rw [List.length_range]; omega)])
  refine sel_turn hD (hs i hi) p.1 p.2 ?_ fun H'' s'' e => ⟨s'', by rw [e, take_sel t f (take_range hi)]⟩
  have l1 := List.length_filter_le t ((List.range n).take i)
  have l3 : ((List.range n).take i).length ≤ n := by rw [List.length_take, List.length_range]; omega
  rw [List.length_map]
  omega
end
theorem filter_all {α : Type} (xs : List α) : xs.filter (fun _ => true) = xs := List.filter_eq_self.mpr fun _ _ => rfl
theorem Kp.free {t D : Addr} {H H' : Hp} (k : Kp t H H') (h : H' D = none) (n : D ≠ t) : H D = none := by
  cases e : H D with
  | none => rfl
  | some o =>
    rw [k D o e n] at h
    cases h
theorem Kp.mut {t p : Addr} {H H' : Hp} {o : HO} (k : Kp t H H') (h : H p = none) : Kp t H (upd H' p o) := fun b u e n => by
  rw [upd_ne (ne_of_none e h)]
  exact k b u e n
theorem Tape.mut {H : Hp} {t c p : Addr} {n : Nat} {o : HO} (h : Tape H t c n) (n1 : p ≠ t) (n2 : p ≠ c) : Tape (upd H p o) t c n := h.stay fun b u e z => by
  rw [upd_ne]
  · exact e
  · rcases z with rfl | rfl
    · exact n1.symm
    · exact n2.symm
theorem yes_go {σ : L2.St} {H : Hp} {A B : Hp → Prop} (h : A H) : tYes σ H (fun b H' => if b = true then A H' else B H') := by
  show (if true = true then A H else B H)
  rw [if_pos rfl]
  exact h
/-! ### d.update(e) of two dicts -/
theorem mt_update {X : Cx} : MtR X "dict.update" (fun x xs H Q => ∃ (a b : Addr) (ks ms : List (Key × V)), x = .ref a ∧ xs = [.ref b] ∧ H a = some (.dK ks) ∧ H b = some (.dK ms) ∧ a ≠ b ∧ ks.length + ms.length ≤ sizeLine ∧
    Q .non (upd H a (.dK (mergeK ks ms)))) := by
  intro pins s σ H x xs v us Q I rx rxs h
  obtain ⟨a, b, ks, ms, rfl, rfl, ha, hb, ne, few, q⟩ := h
  cases rx
  obtain ⟨u, rfl, ru⟩ := vals1 rxs
  cases ru
  obtain ⟨za, da, va, ra, dda⟩ := dk_of I.hok ha
  obtain ⟨zb, db, vb, rb, ddb⟩ := dk_of I.hok hb
  refine call_meetsIn PySem.F.slot_dict_update dda.typeIs PySem.F.entry_dict_update (PySem.F.args_dict_update_2 _ _) (meets_dict_update (mixKind X.prog X.w) a b ne db) ⟨va, vb, dda, ddb, by rw [← ra.length, ← rb.length]; exact few, fun h' d1 d2 same => ?_⟩
  have there : ∃ o, h'.get? a = some o := by
    obtain ⟨o, _, _, ho, _⟩ := id d1
    exact ⟨o, ho⟩
  have small : (mergeK ks ms).length ≤ sizeLine := Nat.le_trans (length_mergeK ms ks) few
  exact ⟨.non, _, d_write (t' := s.toks) I (by rw [ha]; exact True.intro) same there (dk_new small da (rb.merge ra) d1), rfl, q⟩
/-! ### rules whose reading names the written part, for use within a comprehension -/
section
variable {X : Cx} {K : PySem.W.Frag}
theorem op_inK (h : X.K = K) : OpR X (compareOp .In) (rIn K false) := h ▸ op_in_seq
theorem op_notInK (h : X.K = K) : OpR X (compareOp .NotIn) (rIn K true) := h ▸ op_notIn_seq
theorem op_eqNilK (h : X.K = K) (hu : X.A.units + 1 < cLine) : OpR X (compareOp .Eq) (rEqNil K false) := h ▸ op_eqNil hu
theorem op_neNilK (h : X.K = K) (hu : X.A.units + 1 < cLine) : OpR X (compareOp .NotEq) (rEqNil K true) := h ▸ op_neNil hu
theorem ix_listK (h : X.K = K) : IxR X (rIxL K) := h ▸ ix_list
theorem ix_tupK (h : X.K = K) : IxR X (rIxT K) := h ▸ ix_tup
theorem ix_seqK (h : X.K = K) : IxR X (rIx K) := h ▸ ix_seq
theorem len_seqK (h : X.K = K) : CallR X (.builtin "len") (fun xs H Q => ∃ p ys, xs = [.ref p] ∧ (SqL K H p ys ∨ SqT K H p ys) ∧ Q (.int (ys.length : Nat)) H) := h ▸ call_len_seq
theorem pi_listK {tg l : Expr} {tl : TE} (h : X.K = K) (hl : PE X l tl) : PI X tg l (iList K tl) := h ▸ pi_list hl
theorem pi_tupK {tg l : Expr} {tl : TE} (h : X.K = K) (hl : PE X l tl) : PI X tg l (iTup K tl) := h ▸ pi_tup hl
theorem sl_listK (h : X.K = K) : SlR X (rSlL K) := h ▸ sl_list
theorem sl_tupK (h : X.K = K) : SlR X (rSlT K) := h ▸ sl_tup
theorem cr_sumK (h : X.K = K) (hc : X.calm = true) : CallR X (.builtin "sum") (rSum K) := h ▸ cr_sum hc
theorem cr_maxL (h : X.K = K) (hc : X.calm = true) : CallR X (.builtin "max") (rMax K) := h ▸ cr_max hc
theorem cr_minL (h : X.K = K) (hc : X.calm = true) : CallR X (.builtin "min") (rMin K) := h ▸ cr_min hc
theorem cr_allK (h : X.K = K) (hc : X.calm = true) : CallR X (.builtin "all") (rAll K) := h ▸ cr_all hc
theorem cr_anyK (h : X.K = K) (hc : X.calm = true) : CallR X (.builtin "any") (rAny K) := h ▸ cr_any hc
theorem call_list_ofK (h : X.K = K) : CallR X (.type "list") (fun xs H Q => ∃ p ys, xs = [.ref p] ∧ (SqL K H p ys ∨ SqT K H p ys) ∧ ∀ l, H l = none → Q (.ref l) (upd H l (.lst ys))) := h ▸ call_list_of
theorem call_tuple_ofK (h : X.K = K) : CallR X (.type "tuple") (fun xs H Q => ∃ p ys, xs = [.ref p] ∧ ((SqL K H p ys ∧ ∀ l, H l = none → Q (.ref l) (upd H l (.tup ys))) ∨ (SqT K H p ys ∧ Q (.ref p) H))) := h ▸ call_tuple_of
theorem op_catTK (h : X.K = K) : OpR X (binaryOp .Add) (rCatT K) := h ▸ op_catT
end
theorem bd_ways : BindsAll "ways" s_ways ["lens"] := fun _ _ _ _ _ _ us hl => match us, hl with | [_], _ => rfl
theorem bd_how_many : BindsAll "how_many" s_how_many ["lens", "total"] := fun _ _ _ _ _ _ us hl => match us, hl with | [_, _], _ => rfl
theorem bd_choices : BindsAll "choices" s_choices ["lens", "total"] := fun _ _ _ _ _ _ us hl => match us, hl with | [_, _], _ => rfl
theorem bd__with_one_more : BindsAll "_with_one_more" s__with_one_more ["many", "length"] := fun _ _ _ _ _ _ us hl => match us, hl with | [_, _], _ => rfl
theorem bd__law_begun : BindsAll "_law_begun" s__law_begun ["_law_script"] := fun _ _ _ _ _ _ us hl => match us, hl with | [_], _ => rfl
theorem bd__law_draw : BindsAll "_law_draw" s__law_draw ["_law_tape", "_law_many_here"] := fun _ _ _ _ _ _ us hl => match us, hl with | [_, _], _ => rfl
theorem bd__law_pick : BindsAll "_law_pick" s__law_pick ["_law_tape", "_law_some"] := fun _ _ _ _ _ _ us hl => match us, hl with | [_, _], _ => rfl
theorem bd__law_due : BindsAll "_law_due" s__law_due ["_law_lens", "_law_total"] := fun _ _ _ _ _ _ us hl => match us, hl with | [_, _], _ => rfl
theorem bd__law_shuffled : BindsAll "_law_shuffled" s__law_shuffled ["_law_tape", "_law_some"] := fun _ _ _ _ _ _ us hl => match us, hl with | [_, _], _ => rfl
theorem bd__law_many : BindsAll "_law_many" s__law_many ["_law_lens", "_law_total"] := fun _ _ _ _ _ _ us hl => match us, hl with | [_, _], _ => rfl
theorem bd_law : BindsAll "law" s_law ["_law_script"] := fun _ _ _ _ _ _ us hl => match us, hl with | [_], _ => rfl
/-! ### making an exception of an own class, over any of the builtin ones -/
/-- by which __new__ an own class is made, and what its mro must tell -/
structure NewBy (bm : List Value) (nB newId : String) : Prop where
  f : ∃ i l, ExcBaseFacts nB newId i l
  b : bm.contains (.type nB) = true
  a : bm.contains (.type "AttributeError") = false
  n : bm.contains (.type "NameError") = false
section
variable {M : Model} {A : Around} {E : Value → Shared → Prop} {h : Heap} {g : Array GenState} {d : Drawn} {t : Nat} {os : OsState}
variable {nm q : Str} {C N : Addr} {bs bm : List Value} {hdct : Bool} {sn : List Str} {sub : List Value} {ab : Bool} {col : Option Bool} {dd : Option Addr} {k0 k1 k2 k3 k5 : Option Value} {nB newId iB initId : String}
theorem new_checked (Y : NewBy bm nB newId) {rest : List Value} {Q : Unit → Shared → Prop} (o : h.get? C = some (excClassObj nm q C N bs bm hdct sn sub ab col dd k0 k1 k2 k3 k5 newId))
    (k : Q () ⟨h, g, d, t, os⟩) : wpAny M A (checkBuiltinCall newId ⟨.ref C :: rest, []⟩) Q E ⟨h, g, d, t, os⟩ := by
  obtain ⟨⟨i, l, F⟩, yb, _, _⟩ := Y
  have own : (Value.ref C :: bm).contains (.type nB) = true := by
    rw [List.contains_cons, yb]
    exact Bool.or_true _
  have star := F.noStar
  simp only [F.newRow, F.newSplit, F.newKind, checkBuiltinCall]
  repeat (first
    | refine wpAny_loadPart_at o ?_
    | (refine wpAny_isSubtype_exc o ?_; rw [own])
    | refine wpAny_staticBase_exc o ?_
    | refine wpAny_madeBy_exc o ?_
    | simp only [Bool.false_eq_true, if_false, bne_self_eq_false]
    | wp_step)
  exact k
end
section
variable {prog : Program} {w : World} {A : Around} {E : Value → Shared → Prop} {R : Result → Shared → Prop} {h : Heap} {g : Array GenState} {d : Drawn} {t : Nat} {os : OsState}
variable {nm q : Str} {C N : Addr} {bs bm : List Value} {hdct : Bool} {sn : List Str} {sub : List Value} {ab : Bool} {col : Option Bool} {dd : Option Addr} {k0 k1 k2 k3 k5 : Option Value} {nB newId iB initId : String}
/-- the new object, its args aside -/
abbrev bare (C t : Addr) : Obj := { cls := .ref C, data := .fields #[.ref t, .none, .none, .none, .bool false, .none] }
theorem new_made (Y : NewBy bm nB newId) {rest : List Value} (o : h.get? C = some (excClassObj nm q C N bs bm hdct sn sub ab col dd k0 k1 k2 k3 k5 newId))
    (k : R (.ok (.ret (.ref (h.objs.size + 1)))) ⟨(h.push (PySem.W.kdv_tup rest)).push (bare C h.objs.size), g, d, t, os⟩) (few : rest.length ≤ sizeLine) :
    codeAny (model prog w) A (.builtin newId ⟨.ref C :: rest, []⟩) R ⟨h, g, d, t, os⟩ := by
  obtain ⟨⟨i, l, F⟩, yb, ya, yn⟩ := Y
  have e1 := F.ends
  have m1 : (Value.ref C :: bm).contains (.type nB) = true := by
    rw [List.contains_cons, yb]
    exact Bool.or_true _
  have m2 : (Value.ref C :: bm).contains (.type "AttributeError") = false := by
    rw [List.contains_cons, ya]
    rfl
  have m3 : (Value.ref C :: bm).contains (.type "NameError") = false := by
    rw [List.contains_cons, yn]
    rfl
  refine codeAny_builtinAt F.entry ?_
  unfold Builtin.«BaseException.__new__»
  refine PySem.wpAt_bind ?_
  show PySem.wpAt _ _ _ (stack >>= _) _ _ _
  refine PySem.wpAt_bind (PySem.wpAt_stack fun p1 p2 => PySem.wpAt_of_wpAny ?_)
  wp_walk
  refine PySem.wpAt_of_wpAny ?_
  rw [F.owner]
  repeat (first
    | with_reducible refine wpAny_madeHere_exc F.canon o ?_
    | with_reducible refine wpAny_loadPart_at o ?_
    | (with_reducible refine wpAny_isSubtype_exc o ?_; first | rw [m1] | rw [m2] | rw [m3])
    | wp_step)
  show R _ _
  rw [Heap.size_push]
  exact k
theorem type_made (Y : NewBy bm nB newId) {rest : List Value} {fI : Addr} {Q : Fin → Shared → Prop} (o : h.get? C = some (excClassObj nm q C N bs bm hdct sn sub ab col dd k0 k1 k2 k3 k5 newId))
    (hi : PySem.W.Looks (model prog w) h (typeLookup (.ref C) "__init__") (some (.ref fI))) (hb : ∀ x, PySem.W.Looks (model prog w) h (bindSpecial (.ref fI) x) (.ref fI, [x])) (few : rest.length ≤ sizeLine)
    (k : codeAny (model prog w) A (.call (.ref fI) ⟨.ref (h.objs.size + 1) :: rest, []⟩) (fun r s' => match r with | .ok (.ret v) => v = .none ∧ Q (.done (.ret (.ref (h.objs.size + 1)))) s' | .ok _ => False | .error e => E e s')
      ⟨(h.push (PySem.W.kdv_tup rest)).push (bare C h.objs.size), g, d, t, os⟩) :
    wpAny (model prog w) A (Builtin.«type.__call__» ⟨.ref C :: rest, []⟩) Q E ⟨h, g, d, t, os⟩ := by
  obtain ⟨i, l, F⟩ := Y.f
  repeat (first
    | with_reducible refine wpAny_loadPart_at o ?_
    | with_reducible refine wpAny_madeBy_exc o ?_
    | wp_step)
  refine codeAny_call_builtin_code (Code.quiet_builtin _ F.quiet) (new_checked Y o ?_)
  refine new_made Y o ?_ few
  show wpAny _ _ _ _ _ _
  have up : ∀ b u, h.get? b = some u → ((h.push (PySem.W.kdv_tup rest)).push (bare C h.objs.size)).get? b = some u := fun b u e => Heap.get?_push_of_some _ (Heap.get?_push_of_some _ e)
  have o2 := up _ _ o
  have at2 : ((h.push (PySem.W.kdv_tup rest)).push (bare C h.objs.size)).get? (h.objs.size + 1) = some (bare C h.objs.size) := by heap_get
  have self : (Value.ref C :: bm).contains (.ref C) = true := by simp
  have i2 := hi.keeps up
  have b2 := (hb (.ref (h.objs.size + 1))).keeps up
  unfold isInstance
  repeat (first
    | with_reducible refine wpAny_loadPart_at at2 ?_
    | (with_reducible refine wpAny_isSubtype_exc o2 ?_; rw [self])
    | wp_step)
  show wpAny _ _ (typeLookup (.ref C) _) _ _ _
  refine i2.at ?_
  refine wpAny_holding (wpAny_bind (b2.at ?_))
  refine wpAny_bind (wpAny_call (codeAny_mono k fun r s2 z => ?_))
  rcases r with e | (v | _ | _ | _)
  all_goals first
    | exact z
    | exact z.elim
    | skip
  obtain ⟨rfl, z⟩ := z
  first
    | exact wpAny_pure (wpAny_pure z)
    | (wp_walk; done)
    | (wp_walk; exact z)
theorem call_made (Y : NewBy bm nB newId) {rest : List Value} {fI : Addr} (o : h.get? C = some (excClassObj nm q C N bs bm hdct sn sub ab col dd k0 k1 k2 k3 k5 newId))
    (hi : PySem.W.Looks (model prog w) h (typeLookup (.ref C) "__init__") (some (.ref fI))) (hb : ∀ x, PySem.W.Looks (model prog w) h (bindSpecial (.ref fI) x) (.ref fI, [x])) (few : rest.length ≤ sizeLine)
    (k : codeAny (model prog w) (A.under (.builtin "type.__call__" ⟨.ref C :: rest, []⟩)) (.call (.ref fI) ⟨.ref (h.objs.size + 1) :: rest, []⟩) (PySem.W.InitBack (h.objs.size + 1) R)
      ⟨(h.push (PySem.W.kdv_tup rest)).push (bare C h.objs.size), g, d, t, os⟩) :
    codeAny (model prog w) A (.call (.ref C) ⟨rest, []⟩) R ⟨h, g, d, t, os⟩ := by
  have t1 := tc_lookup
  have t2 := tc_bind (.ref C)
  have ty : (⟨h, g, d, t, os⟩ : Shared).TypeIs (.ref C) "type" := ⟨_, o, rfl⟩
  refine codeAny_of_tree ?_
  show wpAny _ _ (callAny (.ref C) _) _ _ _
  repeat (any_goals (first
    | assumption
    | with_reducible refine wpAny_loadPart_at o ?_
    | wp_step))
  refine ⟨rfl, ?_⟩
  refine codeAny_call_builtin_at (Code.quiet_builtin _ (by decide +kernel)) entry_typeCall (wpAny_check_type_call_sub o (type_made Y o hi hb few ?_))
  refine codeAny_mono k fun r s2 z => ?_
  rcases r with e | (v | _ | _ | _)
  all_goals exact z
end

/-! ### the builtin __init__ that an own one calls -/
structure InitBy (bm : List Value) (iB initId : String) : Prop where
  c : ∃ n, ExcClass iB n initId
  b : bm.contains (.type iB) = true
section
variable {prog : Program} {w : World} {A : Around} {E : Value → Shared → Prop} {R : Result → Shared → Prop} {h : Heap} {g : Array GenState} {d : Drawn} {t : Nat} {os : OsState}
variable {nm q : Str} {C N : Addr} {bs bm : List Value} {hdct : Bool} {sn : List Str} {sub : List Value} {ab : Bool} {col : Option Bool} {dd : Option Addr} {k0 k1 k2 k3 k5 : Option Value} {newId iB initId : String}
theorem init_checked {M : Model} (Y : InitBy bm iB initId) {e : Addr} {oe : Obj} {rest : List Value} {Q : Unit → Shared → Prop} (o : h.get? C = some (excClassObj nm q C N bs bm hdct sn sub ab col dd k0 k1 k2 k3 k5 newId)) (he : h.get? e = some oe) (hc : oe.cls = .ref C)
    (k : Q () ⟨h, g, d, t, os⟩) : wpAny M A (checkBuiltinCall initId ⟨.ref e :: rest, []⟩) Q E ⟨h, g, d, t, os⟩ := by
  obtain ⟨⟨n, F⟩, yb⟩ := Y
  have own : (Value.ref C :: bm).contains (.type iB) = true := by
    rw [List.contains_cons, yb]
    exact Bool.or_true _
  have star := F.notStar
  simp only [F.initSig, F.initSplit, F.initKind, checkBuiltinCall]
  repeat (first
    | (with_reducible refine wpAny_loadPart_at he ?_; rw [hc])
    | with_reducible refine wpAny_loadPart_at o ?_
    | (with_reducible refine wpAny_isSubtype_exc o ?_; rw [own])
    | wp_step)
  refine wpAny_onRaise ?_
  rw [show ∀ (x y : String) (n : Nat), Bind.check ⟨.positional, "*", iB, .self, [⟨"args", .varPos, false⟩]⟩ x y n (List.map (fun z => z.fst) ({ pos := Value.ref e :: rest } : Args).kw) = pure () from
    fun x y n => check_star_args _ _ _ _ _ _]
  exact wpAny_pure k
theorem init_done (Y : InitBy bm iB initId) {e t0 : Addr} {rest : List Value} (o : h.get? C = some (excClassObj nm q C N bs bm hdct sn sub ab col dd k0 k1 k2 k3 k5 newId)) (he : h.get? e = some (bare C t0)) (few : rest.length ≤ sizeLine)
    (k : ∀ h2 t1, (∀ b u, b ≠ e → h.get? b = some u → h2.get? b = some u) → h2.get? e = some (bare C t1) → R (.ok (.ret .none)) ⟨h2, g, d, t, os⟩) :
    codeAny (model prog w) A (.call (.builtin initId) ⟨.ref e :: rest, []⟩) R ⟨h, g, d, t, os⟩ := by
  obtain ⟨n, F⟩ := Y.c
  refine codeAny_call_builtin F.init.plain F.initEntry (init_checked Y o he rfl ?_)
  wp_walk
  refine k _ h.objs.size (fun b u hb hu => ?_) ?_
  · rw [Heap.get?_update_other _ _ (Ne.symm hb)]
    exact Heap.get?_push_of_some _ hu
  · rw [Heap.get?_update_self _ (Heap.get?_push_of_some _ he) rfl]
    rfl
end
/-! ### an own class, as the written part tells it -/
structure OwnC (K : PySem.W.Frag) (C : Addr) (B newId initId : String) (bm : List Value) : Prop where
  cls : ∃ nm q N bs sn sub ab col dd k0 k1 k2 k3 k5, K.lookup C = some (excClassObj nm q C N bs bm true sn sub ab col dd k0 k1 k2 k3 k5 newId)
  new : ∃ nB, NewBy bm nB newId
  ini : InitBy bm B initId
  sto : ∃ S, StoreFacts S bm "object.__setattr__" "object"
  sa : PySem.W.findIn K (.ref C) "__setattr__" = some (some (.builtin "object.__setattr__"))
  tl : PySem.W.excTail bm bm = true
  ob : bm.contains (.type "object") = true
  exC : PySem.W.subIn K (.ref C) (.type "BaseException") = some true
  tyC : PySem.W.typeIn K (.ref C) = some (.type "type")
  kC : PySem.W.keepIn K (.ref C) = true
section
variable {X : Cx} {pins : List (Addr × Obj)} {σ : L2.St} {H : Hp} {s : Shared} {a C dx : Addr} {f : Str} {y : V} {u : Value} {fs : List (Str × V)} {A : Around} {B newId initId : String} {bm : List Value}
/-- B.__init__(self, ..) tells nothing -/
theorem own_init {us : List Value} {E : Value → Shared → Prop} {Q : Value → Shared → Prop} (T : OwnC X.K C B newId initId bm) (I : Inv X pins σ H s) (e : H a = some (exo a C none)) (few : us.length ≤ sizeLine) (k : ∀ s', Inv X pins σ H s' → Q .none s') :
    wpAny (model X.prog X.w) A (call (.builtin initId) (.ref a :: us)) Q E s := by
  obtain ⟨nm, q, N, bs, sn, sub, ab, col, dd, k0, k1, k2, k3, k5, o⟩ := T.cls
  obtain ⟨t1, at1⟩ := exo_at I.hok e
  obtain ⟨hp, g, d, t, os⟩ := s
  refine wpAny_call (init_done T.ini (I.kIn _ _ o) at1 few fun h2 t2 stay at2 => ?_)
  have J := I.write (t' := t) (x := a) (e := a) (o := exo a C none) (by rw [e]; exact True.intro) (.inl rfl) stay ⟨_, at2⟩ (exo_ok at2)
  have same : upd H a (exo a C none) = H := funext fun b => by
    by_cases hb : b = a
    · subst hb
      rw [upd_same, e]
    · rw [upd_ne hb]
  rw [same] at J
  exact k _ J
end
def tOwnI (K : PySem.W.Frag) (B newId initId : String) (bm : List Value) (ta : TA) : TE := fun σ H Q => ta σ H fun vs H1 => ∃ (a C : Addr) (ws : List V), vs = .ref a :: ws ∧ ws.length ≤ 1000 ∧ OwnC K C B newId initId bm ∧ H1 a = some (exo a C none) ∧ Q .non H1
section
variable {X : Cx} {o e : Expr} {es : List Expr} {to te : TE} {ta : TA} {f : Str} {p p' p1 p2 pos : Pos} {B newId initId : String} {bm : List Value}
/-- B.__init__(self, ..), B builtin -/
theorem pe_ownInit {x : Str} {pl : Sem Bool} (hg : Gl X x) (hm : X.mg x = none) (hb : bootBuiltins x = some (.type B)) (ty : typeOf (.type B) = pure (.type "type")) (st : Manifest.isStub B = false)
    (vV : PySem.W.findCls X.K (.type B) (.type "type") "__init__" = some (.val (.builtin initId))) (kb : PySem.W.handedIn (.builtin initId) = true) (ha : PA X (e :: es) ta) (n1 : x ≠ "__name__" := by decide) (n2 : (x == ("__debug__" : Str)) = false := by decide)
    (hc : eval (.Call (.Attribute (.Name x p1) "__init__" p2) (e :: es) [] pos) X.env = (do
      let ov ← eval (.Name x p1) X.env
      standAt p2.atName
      let (f, first) ← holding [ov] (getMethod ov "__init__" pl)
      callWith pos f first (backTo pos (starEach (e :: es) X.env)) (backToKw pos (keywordEach [] X.env))) := by rfl)
    (he : starEach (e :: es) X.env = (false, eval e X.env) :: starEach es X.env := by rfl) (hpl : (backTo pos (starEach es X.env)).any (·.1) = false := by rfl) :
    PE X (.Call (.Attribute (.Name x p1) "__init__" p2) (e :: es) [] pos) (tOwnI X.K B newId initId bm ta) := by
  refine ⟨fun pins s σ H Q I h => ?_⟩
  refine PySem.W.methodCall_KW (ld_blt I hg hm hb ?_ n1 n2) hc
  obtain ⟨m, fr⟩ := I.fr
  refine PySem.W.method_type fr I.ok.mod.kin ty st vV kb ?_
  show wpAny _ _ (callWith pos (Value.builtin initId) [] (backTo pos (starEach (e :: es) X.env)) []) _ _ _
  refine PyProof.Rows.callWith_method1 (thn (ha.run pos pins _ σ H _ (I.tok _) h) fun us s1 ⟨vs, H1, I1, r1, a, C, ws, ev, few, T, ea, k⟩ => ?_) he hpl
  subst ev
  cases r1 with
  | @cons _ u0 _ ur ra rw' =>
    obtain rfl : u0 = Value.ref a := ra
    have fit : ur.length ≤ sizeLine := by
      rw [← Paired.length rw', sizeLine_eq]
      omega
    exact own_init T I1 ea fit fun s2 J => ⟨.non, H1, J, rfl, k⟩
/-- C(e, ..) as a value: a new exception -/
def tOwnV (C : Addr) (sp : Sp) (ta : TA) : TE := fun σ H Q => ta σ H fun vs H1 => vs.length ≤ 1000 ∧ ∀ a, H1 a = none → sp (.ref a :: vs) (upd H1 a (exo a C none)) (fun v H2 => v = .non ∧ Q (.ref a) H2) (fun _ _ _ => False)
theorem own_call {CX : CXT} {C fI : Addr} {k : Nat} {fd : FuncData} {ps : List Str} {sp : Sp} (T : OwnC X.K C B newId initId bm) (iC : PySem.W.findIn X.K (.ref C) "__init__" = some (some (.ref fI))) (tI : PySem.W.typeIn X.K (.ref fI) = some (.type "function"))
    (F1 : FnOk X.prog X.w X.K X.mg X.base CX k fI fd ps sp) (hr : Room (k + 1) X.A) (hb : Binds X.K fd ps []) (hx : Passes CX X (fun _ _ _ => False)) {pins : List (Addr × Obj)} {σ : L2.St} {H : Hp} {s : Shared} {Q : VK} {us : List Value} {vs : List V}
    (I : Inv X pins σ H s) (r : Vals vs us) (few : vs.length ≤ 1000) (h : ∀ a, H a = none → sp (.ref a :: vs) (upd H a (exo a C none)) (fun v H2 => v = .non ∧ Q (.ref a) H2) (fun _ _ _ => False)) :
    wpAny (model X.prog X.w) X.A (call (.ref C) us) (EP X pins σ Q) X.xe s := by
  obtain ⟨nm, q, N, bs, sn, sub, ab, col, dd, k0, k1, k2, k3, k5, o⟩ := T.cls
  obtain ⟨nB, Y⟩ := T.new
  obtain ⟨hp, g, dr, tk, os⟩ := s
  have lt : hp.objs.size ≤ hp.objs.size + 1 := Nat.le_succ _
  have no : H (hp.objs.size + 1) = none := I.hok.fresh lt
  have hq := h (hp.objs.size + 1) no
  have up : ∀ b u, hp.get? b = some u → ((hp.push (PySem.W.kdv_tup us)).push (bare C hp.objs.size)).get? b = some u := fun b u e => Heap.get?_push_of_some _ (Heap.get?_push_of_some _ e)
  have at2 : ((hp.push (PySem.W.kdv_tup us)).push (bare C hp.objs.size)).get? (hp.objs.size + 1) = some (bare C hp.objs.size) := by heap_get
  have I2 : Inv X pins σ (upd H (hp.objs.size + 1) (exo (hp.objs.size + 1) C none)) ⟨(hp.push (PySem.W.kdv_tup us)).push (bare C hp.objs.size), g, dr, tk, os⟩ :=
    I.laid (t' := tk) (a := hp.objs.size + 1) (o := exo (hp.objs.size + 1) C none) (h' := (hp.push (PySem.W.kdv_tup us)).push (bare C hp.objs.size)) up lt (exo_ok at2)
  have r2 : Vals (V.ref (hp.objs.size + 1) :: vs) (Value.ref (hp.objs.size + 1) :: us) := .cons rfl r
  have hl : (Value.ref (hp.objs.size + 1) :: us).length = ps.length := by
    rw [← r2.length]
    exact F1.len _ _ _ _ hq
  have fit : us.length ≤ sizeLine := by
    rw [← Paired.length r, sizeLine_eq]
    omega
  have hbd := hb ⟨(hp.push (PySem.W.kdv_tup us)).push (bare C hp.objs.size), g, dr, tk, os⟩ (Value.ref (hp.objs.size + 1) :: us) I2.kIn (by rw [List.append_nil]; exact hl)
  rw [List.append_nil] at hbd
  refine wpAny_call (call_made Y (I.kIn _ _ o) (PySem.W.looks_findIn I.kIn iC) (fun x => PySem.W.bind_fn I.kIn x tI) fit
    (codeAny_mono (F1.run _ X.stack _ _ ⟨Value.ref (hp.objs.size + 1) :: us, []⟩ (Value.ref (hp.objs.size + 1) :: us) _ _ (fun _ _ _ => False) (hr.make C us []) (I2.env0.make C us []) hbd r2 hq) fun r s2 z => ?_))
  cases r with
  | error er => exact hx pins σ _ _ er s2 I2 z
  | ok fl =>
    cases fl with
    | ret u =>
      obtain ⟨v, H2, J, rv, ev, k⟩ := I2.after z
      subst ev
      exact ⟨rv, .ref (hp.objs.size + 1), H2, J, rfl, k⟩
    | next => exact False.elim z
    | brk => exact False.elim z
    | cont => exact False.elim z
theorem pe_own {CX : CXT} {x : Str} {C fI : Addr} {k : Nat} {fd : FuncData} {ps : List Str} {sp : Sp} (T : OwnC X.K C B newId initId bm) (iC : PySem.W.findIn X.K (.ref C) "__init__" = some (some (.ref fI))) (tI : PySem.W.typeIn X.K (.ref fI) = some (.type "function"))
    (F1 : FnOk X.prog X.w X.K X.mg X.base CX k fI fd ps sp) (hr : Room (k + 1) X.A) (hb : Binds X.K fd ps []) (hx : Passes CX X (fun _ _ _ => False)) (hg : Gl X x) (hm : X.mg x = some (.ref C)) (ha : PA X (e :: es) ta)
    (hdb : (x == ("__debug__" : Str)) = false := by decide) (he : starEach (e :: es) X.env = (false, eval e X.env) :: starEach es X.env := by rfl) (hpl : (backTo pos (starEach es X.env)).any (·.1) = false := by rfl) :
    PE X (.Call (.Name x p) (e :: es) [] pos) (tOwnV C sp ta) := by
  refine ⟨fun pins s σ H Q I h => ?_⟩
  refine wpAny_Call_Name_kw (ld_glob I hg hm ?_ hdb)
  refine PySem.W.callWith_K (h₀ := X.base) I.ok.mod.kin T.kC (thn (ha.run pos pins s σ H _ I h) fun us s1 ⟨vs, H1, I1, r1, hz, q1⟩ => ⟨I1.kIn, ?_⟩) he hpl
  exact own_call T iC tI F1 hr hb hx I1 r1 hz q1
theorem pe_own0 {CX : CXT} {x : Str} {C fI : Addr} {k : Nat} {fd : FuncData} {ps : List Str} {sp : Sp} (T : OwnC X.K C B newId initId bm) (iC : PySem.W.findIn X.K (.ref C) "__init__" = some (some (.ref fI))) (tI : PySem.W.typeIn X.K (.ref fI) = some (.type "function"))
    (F1 : FnOk X.prog X.w X.K X.mg X.base CX k fI fd ps sp) (hr : Room (k + 1) X.A) (hb : Binds X.K fd ps []) (hx : Passes CX X (fun _ _ _ => False)) (hg : Gl X x) (hm : X.mg x = some (.ref C)) (hdb : (x == ("__debug__" : Str)) = false := by decide) :
    PE X (.Call (.Name x p) [] [] pos) (tOwnV C sp tNil) := by
  refine ⟨fun pins s σ H Q I h => ?_⟩
  refine wpAny_Call_Name_kw (ld_glob I hg hm ?_ hdb)
  exact PySem.W.callWith_K0 I.kIn T.kC (own_call (us := []) T iC tI F1 hr hb hx I .nil h.1 h.2)
end

/-! ### self.f = e on such -/
section
open PySem.Builtin PySem.Builtin.ObjectAttr
variable {prog : Program} {w : World} {A : Around} {R : Result → Shared → Prop} {hp : Heap} {g : Array GenState} {d : Drawn} {t : Nat} {os : OsState} {K : PySem.W.Frag} {C x dx : Addr} {B newId initId : String} {bm : List Value} {name : Str} {tk : Tok} {v : Value} {fv : Array Value}
theorem OwnC.clsIn (T : OwnC K C B newId initId bm) : ∃ cd : ClassData, PySem.W.clsIn K C = some cd ∧ cd.mro = .ref C :: bm ∧ cd.hasDict = true := by
  obtain ⟨nm, q, N, bs, sn, sub, ab, col, dd, k0, k1, k2, k3, k5, o⟩ := T.cls
  refine ⟨{ name := nm, bases := bs, mro := .ref C :: bm, ns := N, qualname := q, hasDict := true, slotNames := sn, subclasses := sub, abstract := ab, collection := col, hasDel := false }, ?_, rfl, rfl⟩
  unfold PySem.W.clsIn
  rw [o] <;> rfl
theorem OwnC.over (T : OwnC K C B newId initId bm) : PySem.W.excOver K C bm = true := by
  obtain ⟨cd, hc, hm, _⟩ := T.clsIn
  unfold PySem.W.excOver
  rw [hc]
  show (match cd.mro with | .ref C' :: l => C' == C && PySem.W.excTail bm l | _ => false) = true
  rw [hm]
  show (C == C && PySem.W.excTail bm bm) = true
  rw [T.tl, Bool.and_true]
  exact beq_self_eq_true C
theorem taker_none (h : PySem.W.findIn K (.ref C) name = some none) : PySem.W.takerIn K C name = some none := by
  unfold PySem.W.takerIn
  rw [h]
  rfl
theorem own_sa0 (T : OwnC K C B newId initId bm) (X : K.In hp) (hx : hp.get? x = some { cls := .ref C, data := .fields fv }) (no : PySem.W.findIn K (.ref C) name = some none)
    (k : ∀ h2 t2 dx, (∀ b u, b ≠ x → hp.get? b = some u → h2.get? b = some u) → hp.objs.size ≤ dx → dx ≠ x → h2.get? x = some { cls := .ref C, dict := some dx, data := .fields fv } →
      h2.Ns1 dx (fun y => if y = name then some v else none) → R (.ok (.ret .none)) ⟨h2, g, d, t2, os⟩) :
    codeAny (model prog w) A (.call (.builtin "object.__setattr__") ⟨[.ref x, .str name tk, v], []⟩) R ⟨hp, g, d, t, os⟩ := by
  obtain ⟨S, SF⟩ := T.sto
  obtain ⟨cd, hc, hm, hh⟩ := T.clsIn
  have far : x ≠ hp.objs.size := Nat.ne_of_lt (Heap.lt_size hx)
  have lk : PySem.W.Looks (model prog w) hp (classData C) cd := PySem.W.looks_clsIn X hc
  refine PySem.W.osa_openX (s := ⟨hp, g, d, t, os⟩) (ox := { cls := .ref C, data := .fields fv }) (od := none) SF X ⟨hx, rfl, rfl, trivial⟩ T.over (taker_none no) fun b => ?_
  show wpAny _ _ (storeInOwnDict (.ref x) (.ref C) (.str name tk) name v b) _ _ _
  obtain ⟨c1, c2, c3, c4, c5, hd, c7, c8, c9, c10, c11⟩ := cd
  dsimp only at hh
  subst hh
  unfold storeInOwnDict ownDictForStores
  repeat (first
    | with_reducible refine PySem.HandSPX.store_in_new ?_ ?_
    | with_reducible refine wpAny_loadPart_at hx ?_
    | with_reducible refine lk.at ?_
    | wp_step)
  · exact ⟨_, #[], _, (Heap.get?_update_ne _ _ _ _ far.symm).trans (Heap.get?_push_at rfl rfl), rfl, fun e he => absurd he (by simp), fun _ => rfl⟩
  · intro h2 t2 hn hs
    have hx1 : (hp.push { cls := .type "dict", data := .dict #[] }).get? x = some { cls := .ref C, data := .fields fv } := Heap.get?_push_of_some _ hx
    refine k h2 t2 hp.objs.size (fun b u hb hu => ?_) (Nat.le_refl _) far.symm ?_ hn
    · exact (hs.2 b (Nat.ne_of_lt (Heap.lt_size hu))).trans ((Heap.get?_update_ne _ _ _ _ hb).trans (Heap.get?_push_of_some _ hu))
    · exact (hs.2 x far).trans (Heap.get?_update_self _ hx1 rfl)
theorem own_sa1 {m0 : Str → Option Value} {nl : List Str} (T : OwnC K C B newId initId bm) (X : K.In hp) (hx : hp.get? x = some { cls := .ref C, dict := some dx, data := .fields fv }) (hns : hp.Ns1 dx m0) (hw : Within m0 nl) (hz : nl.length ≤ 1000)
    (no : PySem.W.findIn K (.ref C) name = some none)
    (k : ∀ h2 t2, (∀ b u, b ≠ dx → hp.get? b = some u → h2.get? b = some u) → h2.Ns1 dx (fun y => if y = name then some v else m0 y) → R (.ok (.ret .none)) ⟨h2, g, d, t2, os⟩) :
    codeAny (model prog w) A (.call (.builtin "object.__setattr__") ⟨[.ref x, .str name tk, v], []⟩) R ⟨hp, g, d, t, os⟩ := by
  obtain ⟨S, SF⟩ := T.sto
  obtain ⟨cd, hc, hm, hh⟩ := T.clsIn
  obtain ⟨oD, _, _, hoD, _, _⟩ := hns.count hw
  have lk : PySem.W.Looks (model prog w) hp (classData C) cd := PySem.W.looks_clsIn X hc
  refine PySem.W.osa_openX (s := ⟨hp, g, d, t, os⟩) (ox := { cls := .ref C, dict := some dx, data := .fields fv }) (od := some oD) SF X ⟨hx, rfl, rfl, hoD⟩ T.over (taker_none no) fun b => ?_
  show wpAny _ _ (storeInOwnDict (.ref x) (.ref C) (.str name tk) name v b) _ _ _
  obtain ⟨c1, c2, c3, c4, c5, hd, c7, c8, c9, c10, c11⟩ := cd
  dsimp only at hh
  subst hh
  unfold storeInOwnDict ownDictForStores
  repeat (first
    | with_reducible refine PySem.OEX.store_in_old hns hw hz ?_
    | with_reducible refine wpAny_loadPart_at hx ?_
    | with_reducible refine lk.at ?_
    | wp_step)
  intro h2 t2 hn hs
  exact k h2 t2 (fun b u hb hu => (hs.2 b hb).trans hu) hn
end
section
variable {X : Cx} {pins : List (Addr × Obj)} {σ : L2.St} {H : Hp} {s : Shared} {a C dx : Addr} {f : Str} {y : V} {u : Value} {fs : List (Str × V)} {Q : Unit → Shared → Prop} {E : Value → Shared → Prop} {A : Around} {B newId initId : String} {bm : List Value}
theorem own_st0 (T : OwnC X.K C B newId initId bm) (I : Inv X pins σ H s) (e : H a = some (exo a C none)) (no : PySem.W.findIn X.K (.ref C) f = some none) (ry : RelV y u)
    (k : ∀ dx s', H dx = none → dx ≠ a → Inv X pins σ (upd (upd H dx (exd dx [(f, y)])) a (exo a C (some dx))) s' → Q () s') : wpAny (model X.prog X.w) A (setAttr (.ref a) f u) Q E s := by
  obtain ⟨t1, ho⟩ := exo_at I.hok e
  obtain ⟨hp, g, d, t, os⟩ := s
  refine PySem.W.set_plain I.kIn (ox := { cls := .ref C, dict := none, data := .fields #[.ref t1, .none, .none, .none, .bool false, .none] }) (od := none) ⟨ho, rfl, rfl, trivial⟩ T.sa ?_
  refine own_sa0 T I.kIn ho no fun h2 t2 dx stay dn dne hx hn => ?_
  have nodx : H dx = none := I.hok.fresh dn
  have ndx : ∀ {b : Addr} {o : Obj}, hp.get? b = some o → b ≠ dx := fun {b o} z => Nat.ne_of_lt (Nat.lt_of_lt_of_le (Heap.lt_size z) dn)
  have na : ∀ {b : Addr}, H b = none → b ≠ a := fun {b} n z => by
    rw [z, e] at n
    cases n
  have un : Un X.fs [] H (upd (upd H dx (exd dx [(f, y)])) a (exo a C (some dx))) hp h2 := {
    keep := fun b o z n _ _ => stay b o (na n) z
    slot := fun b o z n _ _ => ⟨o.slots, stay b o (na n) z⟩
    free := fun b o z n _ => by
      rw [upd_ne (na n), upd_ne (ndx z)]
      exact n
    there := fun b o z _ => by
      by_cases hb : b = a
      · subst hb
        exact ⟨_, hx⟩
      · exact ⟨o, stay b o hb z⟩
    tups := fun b xs z => by
      rw [upd_ne (L2.at_ne e z exo_tup), upd_ne (ne_of_none z nodx)]
      exact z
    frzs := fun b o v z => by
      rw [upd_ne (L2.at_ne e z exo_frz), upd_ne (ne_of_none z nodx)]
      exact z
    tbls := fun b ps z => ⟨#[], by
      rw [upd_ne (L2.at_ne e z exo_tbl), upd_ne (ne_of_none z nodx), z]
      simp⟩ }
  refine k dx _ nodx dne (I.un (t' := t2) un fun b o z => ?_)
  by_cases hb : b = a
  · subst hb
    rw [upd_same] at z
    cases z
    exact exo_ok hx
  · rw [upd_ne hb] at z
    by_cases hd : b = dx
    · subst hd
      rw [upd_same] at z
      cases z
      exact exd_ok hn (relO_put (fs := []) ry fun g => True.intro)
    · rw [upd_ne hd] at z
      refine (I.hok b o z).stay (fun c v hc q => stay c v ?_ q) (fun c hc => ?_) fun c xs hc => ?_
      · rcases hc with hc | hc
        · subst hc
          exact hb
        · exact L2.at_ne e hc exo_own
      · rw [upd_ne (L2.at_ne e hc exo_own), upd_ne (ne_of_none hc nodx)]
        exact hc
      · rw [upd_ne (L2.at_ne e hc exo_tup), upd_ne (ne_of_none hc nodx)]
        exact hc
theorem own_st1 (T : OwnC X.K C B newId initId bm) (I : Inv X pins σ H s) (e : H a = some (exo a C (some dx))) (ed : H dx = some (exd dx fs)) (hl : fs.length ≤ 900) (no : PySem.W.findIn X.K (.ref C) f = some none) (ry : RelV y u)
    (k : ∀ s', Inv X pins σ (upd H dx (exd dx ((f, y) :: fs))) s' → Q () s') : wpAny (model X.prog X.w) A (setAttr (.ref a) f u) Q E s := by
  obtain ⟨t1, ho⟩ := exo_at I.hok e
  obtain ⟨mA, hns, rel⟩ := exd_at I.hok ed
  have hw := within_of rel
  obtain ⟨hp, g, d, t, os⟩ := s
  obtain ⟨oD, _, _, hoD, _, _⟩ := hns.count hw
  refine PySem.W.set_plain I.kIn (ox := { cls := .ref C, dict := some dx, data := .fields #[.ref t1, .none, .none, .none, .bool false, .none] }) (od := some oD) ⟨ho, rfl, rfl, hoD⟩ T.sa ?_
  refine own_sa1 T I.kIn ho hns hw (by rw [List.length_map]; omega) no fun h2 t2 stay hn => ?_
  have there : ∃ o, h2.get? dx = some o := by
    obtain ⟨o, _, _, z, _⟩ := id hn
    exact ⟨o, z⟩
  exact k _ (I.write (t' := t2) (x := dx) (e := dx) (o := exd dx ((f, y) :: fs)) (by rw [ed]; exact True.intro) (.inl rfl) stay there (exd_ok hn (relO_put ry rel)))
end
def tOwnS (K : PySem.W.Frag) (B newId initId : String) (bm : List Value) (f : Str) (to te : TE) : TS := fun D σ H => te σ H fun y H1 => to σ H1 fun x H2 => ∃ a C : Addr, x = .ref a ∧ OwnC K C B newId initId bm ∧ PySem.W.findIn K (.ref C) f = some none ∧
  ((H2 a = some (exo a C none) ∧ ∀ dx, H2 dx = none → dx ≠ a → D.nx σ (upd (upd H2 dx (exd dx [(f, y)])) a (exo a C (some dx)))) ∨
    ∃ (dx : Addr) (fs : List (Str × V)), H2 a = some (exo a C (some dx)) ∧ H2 dx = some (exd dx fs) ∧ fs.length ≤ 900 ∧ D.nx σ (upd H2 dx (exd dx ((f, y) :: fs))))
theorem ps_ownS {X : Cx} {o e : Expr} {to te : TE} {f : Str} {p' pos : Pos} {B newId initId : String} {bm : List Value} (ho : PE X o to) (he : PE X e te) (hs : swapsWith e (some (.Attribute o f p')) pos.line X.env = pure false := by rfl) :
    PS X (.Assign [.Attribute o f p'] e pos) (tOwnS X.K B newId initId bm f to te) := by
  refine ⟨fun pins s σ H D I h => ?_⟩
  refine plainObj_wpAny_Assign_Attribute (thn (he.run pins s σ H _ I h) fun v s1 ⟨y, H1, I1, r1, q1⟩ => thn (ho.run pins s1 σ H1 _ I1 q1) fun u s2 ⟨x, H2, I2, r2, a, C, ex, T, no, z⟩ => ?_) hs
  subst ex
  obtain rfl : u = Value.ref a := r2
  rcases z with ⟨ea, z⟩ | ⟨dx, fs, ea, ed, hl, z⟩
  · exact own_st0 T I2 ea no r1 fun dx s2 n ne J => ⟨σ, _, J, z dx n ne⟩
  · exact own_st1 T I2 ea ed hl no r1 fun s2 J => ⟨σ, _, J, z⟩

/-! ### isinstance of an exception that is held as a value -/
section
open PySem.W
variable {prog : Program} {w : World} {A : Around} {E : Value → Shared → Prop} {s : Shared} {K : Frag} {x D : Addr} {ox : Obj} {od : Option Obj}
theorem found_data {n : Str} {a g : Value} (hc : (clsIn K D).isSome = true) (h1 : findIn K (.ref D) n = some (some a)) (h2 : specialIn K a "__get__" = some (some g)) (h3 : takesIn K a = some true) :
    findObj K D od n = some (.bind g a) := by
  obtain ⟨cd, z⟩ := Option.isSome_iff_exists.mp hc
  unfold findObj
  rw [z, Option.bind_some, h1, Option.bind_some]
  simp [h2, h3]
theorem class_told {Q : Option Value → Shared → Prop} (T : ExcC K D) (X : K.In s.heap) (I : InstAt s.heap x ox D od) (k : Q (some (.ref D)) { s with toks := s.toks + 1 }) : wpAny (model prog w) A (getAttr? (.ref x) "__class__") Q E s := by
  have there : (clsIn K D).isSome = true := by
    obtain ⟨cd, z, _⟩ := any_some T.hd
    rw [z]
    rfl
  have fo : findObj K D od "__class__" = some (.bind (.builtin "getset_descriptor.__get__") (.builtin "object.__class__")) := found_data there T.ha T.hn T.ht
  obtain ⟨hp, g, d, t, os⟩ := s
  have l0 := I.type (M := model prog w)
  have l1 := looks_findIn (M := model prog w) X T.hg
  have l2 := looks_findIn (M := model prog w) X T.hk
  have l3 := looks_find (M := model prog w) X I fo
  have under : Looks (model prog w) hp (isInstance (.ref x) (.type "BaseException")) true := l0.andThen (looks_subIn X T.hs)
  have z0 : (false && onTheHeap (Value.builtin "BaseException.__getattribute__")) = false := rfl
  have z2 : (Value.builtin "BaseException.__getattribute__" == Value.builtin "object.__getattribute__") = false := by decide +kernel
  have z1 : (onTheHeap (Value.ref D) && Value.builtin "BaseException.__getattribute__" == Value.builtin "object.__getattribute__") = false := by
    rw [z2]
    rfl
  unfold getAttr?
  unfold getAttrBy?
  unfold getAttrBy
  refine wpAny_bind (wpAny_mkText (wpAny_bind (wpAny_attempt (wpAny_holding (wpAny_bind (l0.at (wpAny_bind (l1.at ?_))))))))
  show wpAny _ _ (if (onTheHeap (Value.ref D) && Value.builtin "BaseException.__getattribute__" == Value.builtin "object.__getattribute__") = true
    then _ else _) _ _ _
  rw [z1, if_neg Bool.false_ne_true]
  unfold getAttrByItsOwn
  unfold hookBefore
  refine wpAny_bind ?_
  rw [if_pos (show onTheHeap (Value.ref D) = true by rfl)]
  refine l2.at ?_
  refine wpAny_bind ?_
  refine wpAny_attempt (wpAny_holding ?_)
  unfold callGetattribute
  rw [z0, if_neg Bool.false_ne_true]
  unfold boundAndCalled
  rw [PySem.F.excAttr_ValueError.ga.bind (.ref x)]
  refine wpAny_bind ?_
  refine wpAny_pure ?_
  show wpAny (model prog w) _ (call (.builtin "BaseException.__getattribute__") [.ref x, .str "__class__" t]) _ _ _
  refine wpAny_call ?_
  refine codeAny_call_builtin PySem.F.excAttr_ValueError.ga.plain PySem.F.entry_bexc_ga ?_
  refine @check_slot (model prog w) _ _ ⟨hp, g, d, t + 1, os⟩ "BaseException.__getattribute__" "BaseException" "__getattribute__" (.ref x) [.str "__class__" t] [] _ (by decide +kernel) (by decide +kernel) under (PySem.F.args_bexc_ga (.ref x) (.str "__class__" t)) ?_
  unfold PySem.Builtin.«object.__getattribute__»
  refine wpAny_bind ?_
  refine wpAny_of_eq (a := ((Value.ref x : Value), [Value.str "__class__" t])) (by first | rfl | (simp only [PySem.Builtin.slotArgs]; done)) ?_
  refine wpAny_bind ?_
  refine wpAny_pure (wpAny_bind (l0.at (wpAny_bind (l3.at ?_))))
  show wpAny (model prog w) _ (holding [Value.builtin "object.__class__"] (call (.builtin "getset_descriptor.__get__") [.builtin "object.__class__", .ref x, .ref D]) >>= ret) _ _ _
  refine wpAny_bind ?_
  refine wpAny_holding (wpAny_call (class_get (s := ⟨hp, g, d, t + 1, os⟩) (ox := ox) (od := od) X I T.hm ?_))
  refine wpAny_pure ?_
  show wpAny (model prog w) _ (handedOut (.ref D)) _ _ _
  rw [handedOut_of (v := .ref D) rfl]
  first
    | exact wpAny_pure (wpAny_pure k)
    | exact wpAny_pure k
    | exact wpAny_pure (wpAny_bind (wpAny_pure (wpAny_pure k)))
theorem exo_kit (T : ExcC K D) : KitX K (.ref x) (.ref D) (fun h => InstAt h x ox D od) where
  ty := fun _ _ _ I => I.type
  it := fun M h X _ => by
    obtain ⟨cd, z, _⟩ := any_some T.hd
    unfold clsIn at z
    split at z
    · rename_i o
      intro _ _ _ s' k q
      unfold isType
      unfold loadHead
      exact wpAny_bind (wpAny_loadPart (k _ _ (X _ _ o)) (wpAny_pure q))
    · cases z
  ne := fun h tp _ _ _ _ X htp => by
    obtain ⟨cd, z, _⟩ := any_some T.hd
    refine Bool.eq_false_iff.mpr fun q => ?_
    have e : D = tp := Value.ref.inj (beq_iff_eq.mp q)
    subst e
    unfold clsIn at z
    split at z
    · rename_i o
      cases (X _ _ o).symm.trans htp
    · cases z
  ca := fun X I k => class_told T X I k
theorem kit_own {C C' : Addr} (T' : PySem.W.hasDictIn K C' = true) (ty : typeIn K (.ref C') = some (.type "type")) (ex : subIn K (.ref C) (.ref C') = some (decide (C = C'))) :
    kitOne K (.ref C) (.ref C') = some (decide (C = C')) := by
  unfold kitOne
  by_cases h : C = C'
  · subst h
    rw [if_pos (beq_self_eq_true _), decide_eq_true rfl]
  · rw [if_neg (fun z => h (Value.ref.inj (beq_iff_eq.mp z)))]
    unfold kitCls
    obtain ⟨cd, z, _⟩ := any_some T'
    have yes : ((clsIn K C').isSome && typeIn K (.ref C') == some (.type "type")) = true := by
      rw [z, ty]
      rfl
    show (if ((clsIn K C').isSome && typeIn K (.ref C') == some (.type "type")) = true then subIn K (.ref C) (.ref C') else none) = _
    rw [if_pos yes]
    exact ex
end
/-- isinstance(e, c), e an exception of an own class that is held as a value -/
def rIsO (K : PySem.W.Frag) : List V → Hp → VK → Prop := fun xs H Q => ∃ (a C : Addr) (d : Option Addr) (c : V) (cv : Value) (b : Bool), xs = [.ref a, c] ∧ ClsV c cv ∧ ExcC K C ∧ H a = some (exo a C d) ∧ (∀ dx, d = some dx → ∃ fs, H dx = some (exd dx fs)) ∧ PySem.W.kitOne K (.ref C) cv = some b ∧ Q (.bl b) H
theorem call_isO {X : Cx} : CallR X (.builtin "isinstance") (rIsO X.K) := by
  intro pins s σ H xs us Q I r h
  obtain ⟨a, C, d, c, cv, b, rfl, kc, T, ea, ed, e, q⟩ := h
  obtain ⟨u1, u2, rfl, r1, r2⟩ := vals2 r
  have e2 := kc.eq r2
  subst e2
  cases r1
  obtain ⟨t1, ho⟩ := exo_at I.hok ea
  have J : ∃ od, PySem.W.InstAt s.heap a { cls := .ref C, dict := d, data := .fields #[.ref t1, .none, .none, .none, .bool false, .none] } C od := by
    cases d with
    | none => exact ⟨none, ho, rfl, rfl, trivial⟩
    | some dx =>
      obtain ⟨fs, hd⟩ := ed dx rfl
      obtain ⟨mA, hns, rel⟩ := exd_at I.hok hd
      obtain ⟨oD, _, _, hoD, _, _⟩ := hns.count (within_of rel)
      exact ⟨some oD, ho, rfl, rfl, hoD⟩
  obtain ⟨od, J⟩ := J
  exact PySem.W.kia_one (exo_kit T) I.kIn J e (fun z => nomatch z) fun tk => ⟨.bl b, H, I.tok tk, rfl, q⟩
/-- e.f of such -/
def tOwnF (K : PySem.W.Frag) (f : Str) (te : TE) : TE := fun σ H Q => te σ H fun x H1 => ∃ (a C d : Addr) (fs : List (Str × V)) (v : V), x = .ref a ∧ XfC K C ∧ PySem.W.findIn K (.ref C) f = some none ∧ H1 a = some (exo a C (some d)) ∧ H1 d = some (exd d fs) ∧ fs.lookup f = some v ∧ Q v H1
theorem pe_ownF {X : Cx} {e : Expr} {te : TE} {pos : Pos} {n : Str} (he : PE X e te) (hb : attributeBase e n X.env (eval e X.env) = eval e X.env := by rfl) : PE X (.Attribute e n pos) (tOwnF X.K n te) := by
  refine ⟨fun pins s σ H Q I h => ?_⟩
  refine attr_of hb (thn (he.run pins s σ H _ I h) fun u s1 hh => ?_)
  obtain ⟨x, H1, I1, rx, a, C, d, fs, v, ex, T, no, ea, ed, l, q⟩ := hh
  subst ex
  obtain rfl : u = Value.ref a := rx
  obtain ⟨t1, ho⟩ := exo_at I1.hok ea
  obtain ⟨mA, hns, rel⟩ := exd_at I1.hok ed
  obtain ⟨od, hoD, hl⟩ := lookIn_ns hns
  obtain ⟨u, hu, ru⟩ := RelO.some_of (v := v) (o := mA n) (by rw [← l]; exact rel n)
  have J : PySem.W.InstAt s1.heap a { cls := .ref C, dict := some d, data := .fields #[.ref t1, .none, .none, .none, .bool false, .none] } C (some od) := ⟨ho, rfl, rfl, hoD⟩
  exact HandSPX.exc_get I1.kIn J T.ga T.gg T.exC (PySem.W.findObj_own T.hdC no rfl (by rw [hl, hu])) (handed_of ru) ⟨v, H1, I1.tok _, ru, q⟩

/-! ### the law's own def, run where the law is asked: nothing is being shown there -/
def RunAt (P : Program) (w : World) (K : PySem.W.Frag) (mg : Str → Option Value) (base : Heap) (f : Addr) (fd : FuncData) (ps : List Str) (sp : Sp) : Prop :=
  ∀ (s : Shared) (H : Hp) (us : List Value) (vs : List V) (Q : VK) (E : XK), Env0 P w K mg base callerA [] s H → BindsTo s fd ⟨us, []⟩ (ps.zip us) → Vals vs us → sp vs H Q E → codeAny (model P w) callerA (.call (.ref f) ⟨us, []⟩) (CR CX0 [] P w H s Q E) s
section
variable {P : Program} {w : World} {K : PySem.W.Frag} {mg : Str → Option Value} {base : Heap}
theorem run_at {x qual : Str} {st : Stmt} {f : Addr} {fd : FuncData} {N ps : List Str} {k : Nat} {sp : Sp} (F : Fun K x qual st f fd) (S : FnScope N ps (defScope st)) (room : Room (k + 1) callerA) (len : ∀ vs H Q E, sp vs H Q E → vs.length = ps.length)
    (body : ∀ (cdv : Value) (s : Shared) (H : Hp) (vs : List V) (Q : VK) (E : XK), Room k (callerA.deeper (envOfC qual (defScope st) s.heap.objs.size f cdv)) → sp vs H Q E →
      ∃ t, PSs (cxOf CX0 P w K mg base N qual (defScope st) f cdv callerA [] s H E).nox (defBody st) t ∧ t { nx := fun _ H' => Q .non H', rt := Q } (start N vs) H) : RunAt P w K mg base f fd ps sp := by
  obtain ⟨oc, od, kV, doc, pm, an, cdv, ct, osl, rfl, lk, hcd⟩ := F.ex
  intro s H us vs Q E e0 hb r hsp
  have few := len _ _ _ _ hsp
  have kin : K.In s.heap := e0.mod.kin.keeps fun b o z => (e0.bs b o z).1
  have lim : s.heap.NoLimit := e0.mod.nolimit.keeps fun b o z => (e0.bs b o z).1
  have kinds : ∀ z ∈ ps.zip us, (defScope st).names.lookup z.1 = some .local ∨ ((defScope st).names.lookup z.1 = some .cell ∧ ((cellsFrom (s.heap.objs.size + 1) (defScope st).names []).lookup z.1).isSome = true) := by
    rintro ⟨n, v⟩ hz
    rcases S.par n (List.of_mem_zip hz).1 with z | z
    · exact .inl z
    · exact .inr ⟨z, PySem.W.cellsFrom_some _ _ _ (.inl z)⟩
  refine codeAny_call_function room.depth (kin _ _ lk) rfl S.co S.gen rfl (PySem.W.codeRec_of kin hcd) (hb _ _ _ _ ?_)
  refine wpAny_newFunctionEnv_cells S.kind kinds fun env he s1 z => ?_
  subst he
  refine ⟨lim.keeps z.toInCall.keep, codeAny_func ?_⟩
  obtain ⟨t, ht, hq⟩ := body cdv s H vs Q E (room.deeper _) hsp
  have I : Inv (cxOf CX0 P w K mg base N qual (defScope st) f cdv callerA [] s H E) [] (start N vs) H s1 := inv_start S room.hd e0 few r z
  refine wpAny_mono (ht.nox.run [] s1 (start N vs) H _ I hq) (fun fl s2 hs => ?_) fun e s2 hs => hs
  cases fl with
  | ret u =>
    obtain ⟨v, σ2, H2, J, rv, q⟩ := hs
    exact ⟨v, H2, J.os, J.bare, J.base, J.hok, rv, q⟩
  | next =>
    obtain ⟨σ2, H2, J, q⟩ := hs
    exact ⟨.non, H2, J.os, J.bare, J.base, J.hok, rfl, q⟩
  | brk =>
    obtain ⟨_, _, _, q⟩ := hs
    exact q.elim
  | cont =>
    obtain ⟨_, _, _, q⟩ := hs
    exact q.elim
theorem law_at {mb : Str → Option Value} {fa p : Addr} {fd : FuncData} {x : Str} {sp : Sp} {s1 : Shared} {vs : List Value} {ns : List Int}
    (kin : K.In s1.heap) (hns : s1.heap.Ns mainGlobals mg) (hb : s1.heap.Ns builtinsNs mb) (hbb : ∀ y : Str, y ≠ "__name__" → mb y = bootBuiltins y) (hlim : s1.heap.NoLimit) (hg : s1.gens = #[])
    (hp : s1.heap.get? p = some { cls := .type "list", data := .seq vs.toArray }) (hi : IntsAre vs ns) (few : ns.length ≤ sizeLine)
    (F : ∀ base : Heap, K.In base → base.Ns mainGlobals mg → RunAt P w K mg base fa fd [x] sp) (binds : ∀ (s : Shared) (u : Value), BindsTo s fd ⟨[u], []⟩ [(x, u)])
    (hsp : ∀ H : Hp, Only H → SqL K H p (ns.map V.int) → sp [.ref p] H (fun v _ => v = .bl true) fun _ _ _ => False) :
    codeAny (model P w) callerA (.call (.ref fa) ⟨[.ref p], []⟩) (fun r s2 => r = .ok (.ret (.bool true)) ∧ OldK s1.heap s2.heap ∧ s2.os = s1.os ∧ AllBare s2.gens) s1 := by
  have rv := vals_ints hi
  have core : ∀ H : Hp, Only H → SqL K H p (ns.map V.int) → HOk P w H s1.heap → (∀ b, H b ≠ none → b = p) → (H p ≠ none → K.lookup p = none) →
      codeAny (model P w) callerA (.call (.ref fa) ⟨[.ref p], []⟩) (fun r s2 => r = .ok (.ret (.bool true)) ∧ OldK s1.heap s2.heap ∧ s2.os = s1.os ∧ AllBare s2.gens) s1 := by
    intro H only seq hok one hK
    have below : ∀ {b : Addr} {o : Obj}, s1.heap.get? b = some o → H b = none → (hidT s1.heap H).get? b = some o := fun e n => hidT_get e n
    have dicts : ∀ {b : Addr} {o : Obj} {es : Array DictEntry} {ep : Nat}, s1.heap.get? b = some o → o.data = .dict es ep → H b = none := by
      intro b o es ep e d
      cases q : H b with
      | none => rfl
      | some u =>
        obtain rfl : b = p := one b (by rw [q]; simp)
        rw [hp] at e
        cases e
        cases (show Data.seq vs.toArray _ = Data.dict es ep from d)
    have spaces : ∀ {b : Addr} {m : Str → Option Value}, s1.heap.Ns b m → (hidT s1.heap H).Ns b m := by
      rintro b m ⟨o, es, ep, e, d, r⟩
      exact ⟨o, es, ep, below e (dicts e d), d, r⟩
    have kin2 : K.In (hidT s1.heap H) := fun b o e => by
      refine below (kin b o e) ?_
      cases q : H b with
      | none => rfl
      | some u =>
        obtain rfl : b = p := one b (by rw [q]; simp)
        rw [hK (by rw [q]; simp)] at e
        cases e
    have mod : Mod K mg (hidT s1.heap H) := by
      obtain ⟨mc, c1, c2⟩ := hlim
      exact ⟨kin2, spaces hns, ⟨mb, spaces hb, hbb⟩, ⟨mc, spaces c1, c2⟩⟩
    have e0 : Env0 P w K mg (hidT s1.heap H) callerA [] s1 H :=
      ⟨rfl, mod, fun b o e => of_hidT e, Nat.le_of_eq (hidT_size _ _), trivial, fun b z => absurd (show b ∈ ([] : List Addr) from z) (by simp), hok, .of_eq hg⟩
    refine codeAny_mono (F _ kin2 (spaces hns) s1 H [.ref p] [.ref p] _ _ e0 (binds s1 (.ref p)) (.cons rfl .nil) (hsp H only seq)) fun r s2 h => ?_
    cases r with
    | error e => exact h.elim
    | ok fl =>
      cases fl with
      | next => exact h.elim
      | brk => exact h.elim
      | cont => exact h.elim
      | ret u =>
        obtain ⟨v, H2, os, bare, un, hok2, rel, q⟩ := h
        obtain rfl : v = .bl true := q
        obtain rfl : u = Value.bool true := rel
        refine ⟨rfl, OldK.of_keep fun b o e => ?_, os, bare⟩
        cases q : H b with
        | none => exact un.keep b o e q (fun z => absurd (show b ∈ ([] : List Addr) from z) (by simp)) (by simp)
        | some u =>
          rcases only b with z | ⟨ob, xs, z⟩
          · rw [q] at z
            cases z
          · obtain ⟨a1, _⟩ := hok b _ z
            obtain ⟨a2, _⟩ := hok2 b _ (un.frzs b ob _ z)
            rw [e] at a1
            cases a1
            exact a2
  cases hk : K.lookup p with
  | some o =>
    have e := kin p o hk
    rw [hp] at e
    cases e
    have lv := hi.length
    refine core (fun _ => none) (fun _ => .inl rfl) (.inr ⟨_, vs.toArray, _, hk, rfl, rfl, rfl, ?_, by simpa using rv⟩) (fun b u z => ?_) (fun b z => absurd rfl z) fun z => absurd rfl z
    · rw [List.size_toArray, lv]
      exact few
    · cases (show (none : Option HO) = some u from z)
  | none =>
    refine core (fun b => if b = p then some (.frz { cls := .type "list", data := .seq vs.toArray } (.lst (ns.map V.int))) else none) (fun b => ?_) (.inl (.inr ⟨{ cls := .type "list", data := .seq vs.toArray }, if_pos rfl⟩)) (fun b u z => ?_) (fun b z => ?_) fun _ => hk
    · by_cases hb : b = p
      · exact .inr ⟨_, _, if_pos hb⟩
      · exact .inl (if_neg hb)
    · by_cases hb : b = p
      · subst hb
        cases (if_pos rfl).symm.trans z
        refine ⟨hp, ?_, vs, _, rv, hp⟩
        rw [List.length_map]
        exact few
      · cases (if_neg hb).symm.trans z
    · by_cases hb : b = p
      · exact hb
      · exact absurd (if_neg hb) z
end
theorem walk_at {l : PySem.W.OpenLaw} {n : Nat} {q : Program} {loose : List Str} {XP : (Str → Option Value) → Heap → Prop} {YP : World → Heap → Prop} {d : DefRec} {K : Params → PySem.W.Frag} {sp : World → Sp} {x : Str}
    (hn : l.most = some n) (hn2 : n ≤ sizeLine) (hdf : d.params.defaults = []) (hY : ∀ (w : World) (h : Heap), YP w h → (K w.params).In h)
    (F : ∀ (w : World) (mg : Str → Option Value) (fa : Addr) (h : Heap), (K w.params).In h → h.Ns mainGlobals mg → mg d.name = some (.ref fa) →
      ∃ fd : FuncData, (∀ (s : Shared) (u : Value), BindsTo s fd ⟨[u], []⟩ [(x, u)]) ∧ ∀ base : Heap, (K w.params).In base → base.Ns mainGlobals mg → RunAt l.prog w (K w.params) mg base fa fd [x] (sp w))
    (hsp : ∀ (w : World) (H : Hp) (a : Addr) (ns : List Int), ns.length ≤ n → Only H → SqL (K w.params) H a (ns.map V.int) → sp w [.ref a] H (fun v _ => v = .bl true) fun _ _ _ => False) :
    PySem.W.WalkO q loose XP YP l.row.toRowW d [] (fun f vs => PySem.call f vs) := by
  refine Att.attach_call hn hdf fun w s0 s1 mg mb fa o pm cd doc a vs ns G Y ho hd hcd hmg hobj hints hlen hg => ?_
  obtain ⟨fd, hb, hF⟩ := F w mg fa _ (hY w _ Y) G.T.g hmg
  exact law_at (hY w _ Y) G.T.g G.T.b G.T.builtins G.T.nolimit hg hobj hints (Nat.le_trans hlen hn2) hF hb fun H only seq => hsp w H a ns hlen only seq

/-! ### repr of a list where nothing is being shown; None in an f-string -/
theorem call_reprD {X : Cx} (hg : X.A.guards = some []) (hu : X.A.units + 64 < cLine) : CallR X (.builtin "repr") (fun xs H Q => ∃ a d, xs = [.ref a] ∧ Dp X.K H (.ref a) d ∧ d.showable = true ∧ d.hasDict = false ∧ d.depth ≤ 60 ∧ d.shown.length ≤ sizeLine ∧ Q (.str d.shown) H) := by
  intro pins s σ H xs us Q I r h
  obtain ⟨a, d, rfl, hd, h1, h2, h3, h4, q⟩ := h
  obtain ⟨u, rfl, ru⟩ := vals1 r
  cases ru
  obtain ⟨as, rd⟩ := Dp.reads I d (.ref a) (.ref a) hd rfl
  exact repr_of_reads' (s := s) rd h1 (fun z => by rw [h2] at z; cases z) hg (by omega) (fun _ _ z => z) (fun h2 u tk k => ⟨.str d.shown, H, I.kept (t' := tk) k, ⟨_, rfl⟩, q⟩) h4
def fmtN (Q : VK) : VK := fun x H1 => (∃ y : Str, x = .str y ∧ y.length ≤ sizeLine ∧ Q (.str y) H1) ∨ (∃ i : Int, x = .int i ∧ i.natAbs.log2 < 1920 ∧ Q (.str (toString i)) H1) ∨ (x = .non ∧ Q (.str "None") H1)
def tFmtN (te : TE) : TE := fun σ H Q => te σ H (fmtN Q)
theorem pe_fmtN {X : Cx} {e : Expr} {te : TE} {pos : Pos} (he : PE X e te) : PE X (.FormattedValue e (-1) none pos) (tFmtN te) := by
  refine ⟨fun pins s σ H Q I h => ?_⟩
  refine wpAny_FormattedValue_plain (thn (he.run pins s σ H _ I h) fun v s1 z => ?_)
  obtain ⟨x, H1, I1, rx, q⟩ := z
  rcases q with ⟨y, rfl, hz, q⟩ | ⟨i, rfl, hz, q⟩ | ⟨rfl, q⟩
  · obtain ⟨t, rfl⟩ := rx
    exact wpAny_formatField_str ⟨.str y, H1, I1, ⟨t, rfl⟩, q⟩ ⟨.str y, H1, I1.tok _, ⟨_, rfl⟩, q⟩ hz
  · obtain ⟨t, rfl⟩ := rx
    exact wpAny_formatField_int hz ⟨.str (toString i), H1, I1.tok _, ⟨_, rfl⟩, q⟩
  · cases rx
    exact wpAny_formatField_none ⟨.str "None", H1, I1.tok _, ⟨_, rfl⟩, q⟩
/-! ### what a field may hold -/
/-- a whole number of up to eighteen figures, a short text, None -/
inductive Fld : V → Prop where
  | int (i : Int) (h : i.natAbs < 10 ^ 18) : Fld (.int i)
  | str (z : Str) (h : z.length ≤ 100) : Fld (.str z)
  | non : Fld .non
def fldText : V → Str
  | .int i => toString i
  | .str z => z
  | _ => "None"
theorem fld_log {i : Int} (h : i.natAbs < 10 ^ 18) : i.natAbs.log2 < 1920 := by
  have lg : i.natAbs.log2 < 60 := PySem.Flt.log2_lt_of (by decide) (Nat.lt_trans h (by decide))
  omega
theorem fld_short {i : Int} (h : i.natAbs < 10 ^ 18) : ((toString i : String) : Str).length ≤ 19 := by
  show (Str.ofString (toString i)).length ≤ 19
  rw [PySem.ofString_length]
  exact int_text_length_le10 (k := 18) (by decide) h
theorem fld_fmt {v : V} {H : Hp} {Q : VK} (h : Fld v) (k : ∀ y : Str, y.length ≤ 100 → Q (.str y) H) : fmtN Q v H := by
  cases h with
  | int i h => exact .inr (.inl ⟨i, rfl, fld_log h, k _ (Nat.le_trans (fld_short h) (by decide))⟩)
  | str z h => exact .inl ⟨z, rfl, Nat.le_trans h (by decide), k _ h⟩
  | non => exact .inr (.inr ⟨rfl, k _ (by decide)⟩)

/-! ### the four builtin classes -/
abbrev bmV : List Value := [.type "ValueError", .type "Exception", .type "BaseException", .type "object"]
abbrev bmI : List Value := [.type "IndexError", .type "LookupError", .type "Exception", .type "BaseException", .type "object"]
abbrev bmK : List Value := [.type "KeyError", .type "LookupError", .type "Exception", .type "BaseException", .type "object"]
abbrev bmL : List Value := [.type "LookupError", .type "Exception", .type "BaseException", .type "object"]
theorem store_K : StoreFacts "KeyError" bmK "object.__setattr__" "object" where
  mro := by kernel_rfl
  slot := .of (n := "__setattr__")
    (owner := "object")
    (by
      rw [typeLookup_type]
      rw [builtinLookup_eq_fast]
      kernel_rfl)
    (by decide +kernel)
    (by decide +kernel)
    (by decide +kernel)
    (by
      first
        | exact .inl (by decide +kernel)
        | exact .inr (by decide +kernel))
    (by
      rw [isSubtype_type]
      kernel_rfl)
  entry := PySem.F.entry_object_sa
  kind := by decide +kernel
  split := by decide +kernel
  hasOwner := by decide +kernel
  args := PySem.F.store_ValueError.args
  passes := fun self => by kernel_rfl
structure BaseOf (B newId initId : String) (bm : List Value) : Prop where
  new : ∃ nB, NewBy bm nB newId
  ini : InitBy bm B initId
  sto : ∃ S, StoreFacts S bm "object.__setattr__" "object"
  tl : PySem.W.excTail bm bm = true
  ob : bm.contains (.type "object") = true
  flat : ∀ C : Addr, bm.contains (.ref C) = false
theorem base_V : BaseOf "ValueError" "ValueError.__new__" "ValueError.__init__" bmV :=
  ⟨⟨"ValueError", ⟨_, _, PySem.F.excBase_ValueError⟩, by decide +kernel, by decide +kernel, by decide +kernel⟩, ⟨⟨_, excClass_ValueError⟩, by decide +kernel⟩, ⟨_, PySem.F.store_ValueError⟩, by decide +kernel, by decide +kernel, fun _ => rfl⟩
theorem base_I : BaseOf "IndexError" "IndexError.__new__" "IndexError.__init__" bmI :=
  ⟨⟨"IndexError", ⟨_, _, PySem.F.excBase_IndexError⟩, by decide +kernel, by decide +kernel, by decide +kernel⟩, ⟨⟨_, excClass_IndexError⟩, by decide +kernel⟩, ⟨_, PySem.F.store_IndexError⟩, by decide +kernel, by decide +kernel, fun _ => rfl⟩
theorem base_L : BaseOf "LookupError" "LookupError.__new__" "LookupError.__init__" bmL :=
  ⟨⟨"LookupError", ⟨_, _, PySem.F.excBase_LookupError⟩, by decide +kernel, by decide +kernel, by decide +kernel⟩, ⟨⟨_, excClass_LookupError⟩, by decide +kernel⟩, ⟨_, PySem.F.store_LookupError⟩, by decide +kernel, by decide +kernel, fun _ => rfl⟩
/-- KeyError's own new is LookupError's -/
theorem base_K : BaseOf "KeyError" "LookupError.__new__" "KeyError.__init__" bmK :=
  ⟨⟨"LookupError", ⟨_, _, PySem.F.excBase_LookupError⟩, by decide +kernel, by decide +kernel, by decide +kernel⟩, ⟨⟨_, excClass_KeyError⟩, by decide +kernel⟩, ⟨_, store_K⟩, by decide +kernel, by decide +kernel, fun _ => rfl⟩
theorem meta_V : typeOf (.type "ValueError") = pure (.type "type") := by kernel_rfl
theorem meta_K : typeOf (.type "KeyError") = pure (.type "type") := by kernel_rfl
theorem meta_I : typeOf (.type "IndexError") = pure (.type "type") := by kernel_rfl
theorem meta_L : typeOf (.type "LookupError") = pure (.type "type") := by kernel_rfl
/-! ### an own class of the top -/
section
open PySem.W
structure ClsAt (K : Frag) (mg : Str → Option Value) (C : Addr) (x qual : Str) (B newId initId : String) (bm : List Value) (st : Stmt) (fs : List Str) : Prop where
  mg : mg x = some (.ref C)
  own : OwnC K C B newId initId bm
  xf : XfC K C
  ex : ExcC K C
  no : ∀ f ∈ fs, findIn K (.ref C) f = some none
  ini : ∃ F fd, findIn K (.ref C) "__init__" = some (some (.ref F)) ∧ typeIn K (.ref F) = some (.type "function") ∧ Fun K "__init__" qual st F fd
theorem cls_mk {K : Frag} {mg : Str → Option Value} {C F : Addr} {x qual : Str} {B newId initId : String} {bm : List Value} {st : Stmt} {fs : List Str} {nm q : Str} {N : Addr} {bs : List Value} {sn : List Str} {sub : List Value} {ab : Bool} {col : Option Bool} {dd : Option Addr} {k0 k1 k2 k3 k5 : Option Value} {fd : FuncData}
    (Y : BaseOf B newId initId bm) (m : mg x = some (.ref C)) (o : K.lookup C = some (excClassObj nm q C N bs bm true sn sub ab col dd k0 k1 k2 k3 k5 newId)) (i : findIn K (.ref C) "__init__" = some (some (.ref F))) (t : typeIn K (.ref F) = some (.type "function")) (f : Fun K "__init__" qual st F fd)
    (h1 : findIn K (.ref C) "__setattr__" = some (some (.builtin "object.__setattr__"))) (h2 : subIn K (.ref C) (.type "BaseException") = some true) (h3 : typeIn K (.ref C) = some (.type "type")) (h4 : keepIn K (.ref C) = true)
    (h5 : findIn K (.ref C) "__getattribute__" = some (some (.builtin "BaseException.__getattribute__"))) (h6 : findIn K (.ref C) "__getattr__" = some none) (h7 : hasDictIn K C = true) (h8 : findIn K (.ref C) "__class__" = some (some (.builtin "object.__class__")))
    (h9 : mroIn K C (.type "object") = some true) (e1 : specialIn K (.builtin "object.__class__") "__get__" = some (some (.builtin "getset_descriptor.__get__"))) (e2 : takesIn K (.builtin "object.__class__") = some true)
    (no : ∀ f ∈ fs, findIn K (.ref C) f = some none) : ClsAt K mg C x qual B newId initId bm st fs :=
  ⟨m, ⟨⟨nm, q, N, bs, sn, sub, ab, col, dd, k0, k1, k2, k3, k5, o⟩, Y.new, Y.ini, Y.sto, h1, Y.tl, Y.ob, h2, h3, h4⟩, ⟨h5, h6, h2, h7⟩, ⟨h5, h6, h2, h7, h8, e1, e2, h9⟩, no, F, fd, i, t, f⟩
theorem no0 {p : Str → Prop} : ∀ f ∈ ([] : List Str), p f := fun f h => by cases h
theorem no1 {p : Str → Prop} {a : Str} (h : p a) : ∀ f ∈ [a], p f := fun f hf => by
  rw [List.mem_singleton.mp hf]
  exact h
theorem no2 {p : Str → Prop} {a b : Str} (h : p a) (k : p b) : ∀ f ∈ [a, b], p f := fun f hf => by
  rcases List.mem_cons.mp hf with e | e
  · rw [e]
    exact h
  · rw [List.mem_singleton.mp e]
    exact k
/-- whether one stands under another -/
theorem kit_two {K : Frag} {mg mg' : Str → Option Value} {C C' : Addr} {x qual x' qual' : Str} {B newId initId B' newId' initId' : String} {bm bm' : List Value} {st st' : Stmt} {fs fs' : List Str} (T : ClsAt K mg C x qual B newId initId bm st fs) (T' : ClsAt K mg' C' x' qual' B' newId' initId' bm' st' fs')
    (flat : bm.contains (.ref C') = false) : kitOne K (.ref C) (.ref C') = some (decide (C = C')) := by
  refine kit_own T'.ex.hd T'.own.tyC ?_
  obtain ⟨cd, hc, hm, _⟩ := T.own.clsIn
  show mroIn K C (.ref C') = _
  unfold mroIn
  rw [hc, Option.bind_some, hm]
  show some ((Value.ref C :: bm).contains (.ref C')) = _
  rw [List.contains_cons, flat, Bool.or_false]
  congr 1
  by_cases h : C = C'
  · subst h
    rw [decide_eq_true rfl]
    exact beq_self_eq_true _
  · rw [decide_eq_false h]
    exact Bool.eq_false_iff.mpr fun z => h (Value.ref.inj (beq_iff_eq.mp z)).symm
theorem kit_base {K : Frag} {mg : Str → Option Value} {C : Addr} {x qual : Str} {B newId initId : String} {bm : List Value} {st : Stmt} {fs : List Str} {T : String} {b : Bool} (Y : ClsAt K mg C x qual B newId initId bm st fs) (km : kitMeta T = true) (h : bm.contains (.type T) = b) :
    kitOne K (.ref C) (.type T) = some b := by
  obtain ⟨cd, hc, hm, _⟩ := Y.own.clsIn
  show (if (Value.ref C == Value.type T) = true then some true else kitCls K (.ref C) (.type T)) = _
  have ne : (Value.ref C == Value.type T) = false := Bool.eq_false_iff.mpr fun z => by
    have e := beq_iff_eq.mp z
    cases e
  rw [ne, if_neg Bool.false_ne_true]
  show (if kitMeta T = true then subIn K (.ref C) (.type T) else none) = _
  rw [if_pos km]
  show mroIn K C (.type T) = _
  unfold mroIn
  rw [hc, Option.bind_some, hm]
  show some ((Value.ref C :: bm).contains (.type T)) = _
  rw [List.contains_cons, h]
  rfl
end
/-- its __init__ keeps sp -/
structure HasC (P : Program) (w : World) (K : PySem.W.Frag) (mg : Str → Option Value) (base : Heap) (C : Addr) (x : Str) (ps : List Str) (sp : Sp) : Prop where
  ex : ∃ (B newId initId : String) (bm : List Value) (F : Addr) (fd : FuncData), mg x = some (.ref C) ∧ OwnC K C B newId initId bm ∧ PySem.W.findIn K (.ref C) "__init__" = some (some (.ref F)) ∧ PySem.W.typeIn K (.ref F) = some (.type "function") ∧ FnOk P w K mg base CX0 1 F fd ps sp ∧ Binds K fd ps []
theorem pe_hasC {X : Cx} {C : Addr} {x : Str} {ps : List Str} {sp : Sp} {e : Expr} {es : List Expr} {t : TA} {p pos : Pos} (h : HasC X.prog X.w X.K X.mg X.base C x ps sp) (hr : Room 2 X.A) (hg : Gl X x) (ha : PA X (e :: es) t)
    (hdb : (x == ("__debug__" : Str)) = false := by decide) (he : starEach (e :: es) X.env = (false, eval e X.env) :: starEach es X.env := by rfl) (hpl : (backTo pos (starEach es X.env)).any (·.1) = false := by rfl) :
    PE X (.Call (.Name x p) (e :: es) [] pos) (tOwnV C sp t) := by
  obtain ⟨B, newId, initId, bm, F, fd, hm, T, iC, tI, f, b⟩ := h.ex
  exact pe_own T iC tI f hr b pass0 hg hm ha hdb he hpl
theorem pe_hasC0 {X : Cx} {C : Addr} {x : Str} {ps : List Str} {sp : Sp} {p pos : Pos} (h : HasC X.prog X.w X.K X.mg X.base C x ps sp) (hr : Room 2 X.A) (hg : Gl X x) (hdb : (x == ("__debug__" : Str)) = false := by decide) :
    PE X (.Call (.Name x p) [] [] pos) (tOwnV C sp tNil) := by
  obtain ⟨B, newId, initId, bm, F, fd, hm, T, iC, tI, f, b⟩ := h.ex
  exact pe_own0 T iC tI f hr b pass0 hg hm hdb
/-! ### what such an __init__ promises: no field, one, two -/
section
variable (C : Addr) (f g : Str)
def spI0 : Sp := fun vs H Q _ => ∃ a, vs = [.ref a] ∧ H a = some (exo a C none) ∧ Q .non H
def spI1 : Sp := fun vs H Q _ => ∃ a v, vs = [.ref a, v] ∧ Fld v ∧ H a = some (exo a C none) ∧ ∀ dx, H dx = none → dx ≠ a → Q .non (upd (upd H dx (exd dx [(f, v)])) a (exo a C (some dx)))
def spI2 : Sp := fun vs H Q _ => ∃ a u v, vs = [.ref a, u, v] ∧ Fld u ∧ Fld v ∧ H a = some (exo a C none) ∧ ∀ dx, H dx = none → dx ≠ a → Q .non (upd (upd (upd H dx (exd dx [(f, u)])) a (exo a C (some dx))) dx (exd dx [(g, v), (f, u)]))
end
/-! ### texts of parts -/
theorem part2 {a y : Str} {n m : Nat} (h1 : a.length ≤ n) (h2 : y.length ≤ m) : (a ++ y).length ≤ n + m := by
  rw [PySem.Str.length_append]
  exact Nat.add_le_add h1 h2
theorem part {a y : Str} {n m : Nat} (h1 : a.length ≤ n) (h2 : y.length ≤ m) (h3 : n + m ≤ 10000) : (a ++ y).length ≤ sizeLine :=
  Nat.le_trans (part2 h1 h2) (Nat.le_trans h3 (by decide))
/-- an own class by its name -/
theorem pe_cls {X : Cx} {x : Str} {C : Addr} {pos : Pos} (m : X.mg x = some (.ref C)) (hg : Gl X x) (hd : (x == ("__debug__" : Str)) = false := by decide) : PE X (.Name x pos) (tC (.ref C)) := pe_glob (v := .ref C) hg m rfl hd
theorem getD_inj {l : List Addr} (nd : l.Nodup) (i j : Nat) (hi : i < l.length) (hj : j < l.length) (h : l.getD i 0 = l.getD j 0) : i = j := by
  rw [List.getD_eq_getElem?_getD, List.getD_eq_getElem?_getD, List.getElem?_eq_getElem hi, List.getElem?_eq_getElem hj, Option.getD_some, Option.getD_some] at h
  have z := List.pairwise_iff_getElem.mp nd
  rcases Nat.lt_trichotomy i j with c | c | c
  · exact absurd h (z i j hi hj c)
  · exact c
  · exact absurd h.symm (z j i hj hi c)

/-! ### a tuple of texts of the top -/
structure CTup (K : PySem.W.Frag) (mg : Str → Option Value) (x : Str) (ws : List Str) : Prop where
  ex : ∃ p, mg x = some (.ref p) ∧ ∃ (o : Obj) (its : Array Value) (n : Nat), K.lookup p = some o ∧ o.cls = .type "tuple" ∧ o.data = .seq its n ∧ its.size ≤ sizeLine ∧ Vals (ws.map V.str) its.toList
theorem pe_ctup {X : Cx} {x : Str} {ws : List Str} {pos : Pos} (h : CTup X.K X.mg x ws) (hg : Gl X x) (hd : (x == ("__debug__" : Str)) = false := by decide) :
    PE X (.Name x pos) (fun _ H Q => ∀ p, (∀ H', SqT X.K H' p (ws.map V.str)) → Q (.ref p) H) := by
  obtain ⟨p, hm, e⟩ := h.ex
  exact ⟨fun _ _ _ H _ I h => ld_glob I hg hm ⟨.ref p, H, I, rfl, h p fun H' => .inr e⟩ hd⟩
theorem ctup_mk {K : PySem.W.Frag} {mg : Str → Option Value} {x : Str} {ws : List Str} {p : Addr} {pd : Option Addr} {its : Array Value} {n : Nat} {sl : Array (Option Value)} (hm : mg x = some (.ref p)) (l : K.lookup p = some ⟨.type "tuple", pd, .seq its n, sl⟩)
    (few : its.size ≤ 1000) (v : Vals (ws.map V.str) its.toList) : CTup K mg x ws :=
  ⟨p, hm, _, its, n, l, rfl, rfl, Nat.le_trans few (by decide), v⟩

structure Top (K : PySem.W.Frag) (mg : Str → Option Value) (cs : Nat → Addr) : Prop where
  d_ways : At K mg "ways" s_ways
  d_how_many : At K mg "how_many" s_how_many
  d_choices : At K mg "choices" s_choices
  d__with_one_more : At K mg "_with_one_more" s__with_one_more
  d__law_begun : At K mg "_law_begun" s__law_begun
  d__law_draw : At K mg "_law_draw" s__law_draw
  d__law_pick : At K mg "_law_pick" s__law_pick
  d__law_due : At K mg "_law_due" s__law_due
  d__law_shuffled : At K mg "_law_shuffled" s__law_shuffled
  d__law_many : At K mg "_law_many" s__law_many
  d_law : At K mg "law" s_law
  k_TooMany : ClsAt K mg (cs 0) "TooMany" "TooMany.__init__" "IndexError" "IndexError.__new__" "IndexError.__init__" bmI s_TooMany___init__ ["many"]
  k_NoPut : ClsAt K mg (cs 1) "NoPut" "NoPut.__init__" "IndexError" "IndexError.__new__" "IndexError.__init__" bmI s_NoPut___init__ []
  k_NoDeed : ClsAt K mg (cs 2) "NoDeed" "NoDeed.__init__" "IndexError" "IndexError.__new__" "IndexError.__init__" bmI s_NoDeed___init__ []
  one : ∀ i j, i < 3 → j < 3 → cs i = cs j → i = j
  i_ValueError : PySem.W.findCls K (.type "ValueError") (.type "type") "__init__" = some (.val (.builtin "ValueError.__init__"))
  i_IndexError : PySem.W.findCls K (.type "IndexError") (.type "type") "__init__" = some (.val (.builtin "IndexError.__init__"))
  i_KeyError : PySem.W.findCls K (.type "KeyError") (.type "type") "__init__" = some (.val (.builtin "KeyError.__init__"))
  i_LookupError : PySem.W.findCls K (.type "LookupError") (.type "type") "__init__" = some (.val (.builtin "LookupError.__init__"))
  c_MOST_CHOICES : ∃ t, mg "MOST_CHOICES" = some (.int 3003 t)
  b_len : mg "len" = none
  b_sum : mg "sum" = none
  b_range : mg "range" = none
  b_min : mg "min" = none
  b_max : mg "max" = none
  b_list : mg "list" = none
  b_isinstance : mg "isinstance" = none
  b_IndexError : mg "IndexError" = none
  b_repr : mg "repr" = none
  b_tuple : mg "tuple" = none
section
variable {P : Program} {w : World} {K : PySem.W.Frag} {mg : Str → Option Value} {base : Heap} {cs : Nat → Addr}
theorem hc_TooMany (T : Top K mg cs) : HasC P w K mg base (cs 0) "TooMany" ["self", "many"] (spI1 (cs 0) "many") := by
  obtain ⟨F, fd, iC, tI, f⟩ := T.k_TooMany.ini
  refine ⟨_, _, _, _, F, fd, T.k_TooMany.mg, T.k_TooMany.own, iC, tI, ?_, f.binds fun _ _ _ _ _ _ us hl => match us, hl with | [_, _], _ => rfl⟩
  refine f.ok sc_TooMany___init__ (fun vs H Q E h => ?_) (fun cdv A outer s H vs Q E hr h => ?_)
  · obtain ⟨a, v0, rfl, _⟩ := h
    rfl
  · have nd := sc_TooMany___init__.nd
    obtain ⟨a, v0, rfl, f0, ha, k⟩ := h
    refine ⟨_, (pss_cons (ps_expr (pe_ownInit (newId := "IndexError.__new__") (initId := "IndexError.__init__") (bm := bmI) (by rfl) T.b_IndexError (by decide +kernel) meta_I (by decide +kernel) T.i_IndexError (by decide +kernel) (pa_cons (pv 0) (pa_cons (pe_joined (.cons pe_str (.cons (pe_fmtN (pv 1)) .nil))) pa_nil))))
    (pss_one (ps_ownS (B := "IndexError") (newId := "IndexError.__new__") (initId := "IndexError.__init__") (bm := bmI) (pv 0) (pv 1)))), ?_⟩
    refine ⟨_, rfl, ?_⟩
    refine ⟨_, rfl, part (n := 0) (m := 100) (by decide) (by decide +kernel) (by decide), ?_⟩
    refine ⟨_, rfl, fld_fmt f0 fun yf0 hf0 => ?_⟩
    refine ⟨_, rfl, part (n := 100) (m := 100) (part2 (n := 0) (m := 100) (by decide) (by decide +kernel)) hf0 (by decide), ?_⟩
    refine ⟨a, cs 0, [_], rfl, by show 1 ≤ 1000; decide, T.k_TooMany.own, ha, ?_⟩
    exact ⟨_, rfl, _, rfl, a, cs 0, rfl, T.k_TooMany.own, T.k_TooMany.no _ (by simp), .inl ⟨ha, fun dx n ne => k dx n ne⟩⟩
theorem hc_NoPut (T : Top K mg cs) : HasC P w K mg base (cs 1) "NoPut" ["self"] (spI0 (cs 1)) := by
  obtain ⟨F, fd, iC, tI, f⟩ := T.k_NoPut.ini
  refine ⟨_, _, _, _, F, fd, T.k_NoPut.mg, T.k_NoPut.own, iC, tI, ?_, f.binds fun _ _ _ _ _ _ us hl => match us, hl with | [_], _ => rfl⟩
  refine f.ok sc_NoPut___init__ (fun vs H Q E h => ?_) (fun cdv A outer s H vs Q E hr h => ?_)
  · obtain ⟨a, rfl, _⟩ := h
    rfl
  · have nd := sc_NoPut___init__.nd
    obtain ⟨a, rfl, ha, k⟩ := h
    refine ⟨_, (pss_one (ps_expr (pe_ownInit (newId := "IndexError.__new__") (initId := "IndexError.__init__") (bm := bmI) (by rfl) T.b_IndexError (by decide +kernel) meta_I (by decide +kernel) T.i_IndexError (by decide +kernel) (pa_cons (pv 0) (pa_cons pe_str pa_nil))))), ?_⟩
    exact ⟨_, rfl, ⟨a, cs 1, [_], rfl, by show 1 ≤ 1000; decide, T.k_NoPut.own, ha, k⟩⟩
theorem hc_NoDeed (T : Top K mg cs) : HasC P w K mg base (cs 2) "NoDeed" ["self"] (spI0 (cs 2)) := by
  obtain ⟨F, fd, iC, tI, f⟩ := T.k_NoDeed.ini
  refine ⟨_, _, _, _, F, fd, T.k_NoDeed.mg, T.k_NoDeed.own, iC, tI, ?_, f.binds fun _ _ _ _ _ _ us hl => match us, hl with | [_], _ => rfl⟩
  refine f.ok sc_NoDeed___init__ (fun vs H Q E h => ?_) (fun cdv A outer s H vs Q E hr h => ?_)
  · obtain ⟨a, rfl, _⟩ := h
    rfl
  · have nd := sc_NoDeed___init__.nd
    obtain ⟨a, rfl, ha, k⟩ := h
    refine ⟨_, (pss_one (ps_expr (pe_ownInit (newId := "IndexError.__new__") (initId := "IndexError.__init__") (bm := bmI) (by rfl) T.b_IndexError (by decide +kernel) meta_I (by decide +kernel) T.i_IndexError (by decide +kernel) (pa_cons (pv 0) (pa_cons pe_str pa_nil))))), ?_⟩
    exact ⟨_, rfl, ⟨a, cs 2, [_], rfl, by show 1 ≤ 1000; decide, T.k_NoDeed.own, ha, k⟩⟩
end
/-! ### raising an exception of an own class, and catching it -/
section
variable {X : Cx}
/-- the end of C(..) without a field: the exception is let go -/
theorem mk_endN {pins : List (Addr × Obj)} {σ : L2.St} {H1 H2 : Hp} {Q : XK} {hp hp2 h2 : Heap} {g1 g2 : Array GenState} {d1 d2 : Drawn} {t1 t2 : Nat} {os1 os2 : OsState} {a C : Addr} (T : Raises X (.ref C)) (I1 : Inv X pins σ H1 ⟨hp, g1, d1, t1, os1⟩)
    (ha : hp.objs.size ≤ a) (k : ∀ b o, hp.get? b = some o → hp2.get? b = some o) (un : Un (frs X.stack) [] (upd H1 a (exo a C none)) H2 hp2 h2) (hok : HOk X.prog X.w H2 h2) (ho : os2 = os1) (hb : AllBare g2)
    (ea : H2 a = some (exo a C none)) (q : Q (.ref C) none (del H2 a)) : MkP X pins σ Q (.ref a) ⟨h2, g2, d2, t2, os2⟩ := by
  obtain ⟨t0, hoe⟩ := exo_at hok ea
  have hn : H1 a = none := I1.hok.fresh ha
  obtain ⟨G, g1', g2'⟩ := restrict h2 fun b => decide (b ≠ a)
  have gk : ∀ b, b ≠ a → G.get? b = h2.get? b := fun b hb => g1' b (decide_eq_true hb)
  have ge : G.get? a = none := g2' a (by simp)
  have nha : ∀ {b : Addr} {o : Obj}, hp.get? b = some o → b ≠ a := fun {b o} z => Nat.ne_of_lt (Nat.lt_of_lt_of_le (Heap.lt_size z) ha)
  have up : ∀ {b : Addr}, b ≠ a → H1 b = none → upd H1 a (exo a C none) b = none := fun {b} hb n => by
    rw [upd_ne hb]
    exact n
  have un2 : Un (frs X.stack) [] H1 (del H2 a) hp G := {
    keep := fun b o z n hf hx => by
      rw [gk b (nha z)]
      exact un.keep b o (k b o z) (up (nha z) n) hf hx
    slot := fun b o z n hf hx => by
      rw [gk b (nha z)]
      exact un.slot b o (k b o z) (up (nha z) n) hf hx
    free := fun b o z n hx => by
      rw [del_ne (nha z)]
      exact un.free b o (k b o z) (up (nha z) n) hx
    there := fun b o z hx => by
      rw [gk b (nha z)]
      exact un.there b o (k b o z) hx
    tups := fun b xs z => by
      rw [del_ne (ne_of_none z hn)]
      exact un.tups b xs (by rw [upd_ne (ne_of_none z hn)]; exact z)
    frzs := fun b o v z => by
      rw [del_ne (ne_of_none z hn)]
      exact un.frzs b o v (by rw [upd_ne (ne_of_none z hn)]; exact z)
    tbls := fun b ps z => by
      rw [del_ne (ne_of_none z hn)]
      exact un.tbls b ps (by rw [upd_ne (ne_of_none z hn)]; exact z) }
  have ok2 : HOk X.prog X.w (del H2 a) G := fun b o z => by
    have hba : b ≠ a := fun e => by
      rw [e, del_same] at z
      cases z
    rw [del_ne hba] at z
    have noa : ∀ {c : Addr}, H2 c = some (.own b) → c ≠ a := fun {c} hc => L2.at_ne ea hc exo_own
    exact (hok b o z).stay (fun c v hc y => by
        have hca : c ≠ a := by
          rcases hc with hc | hc
          · rw [hc]
            exact hba
          · exact noa hc
        rw [gk c hca]
        exact y)
      (fun c hc => by rw [del_ne (noa hc)]; exact hc) (fun c xs hc => by rw [del_ne (L2.at_ne ea hc exo_tup)]; exact hc)
  have J : Inv X pins σ (del H2 a) ⟨G, g2, d2, t2, os2⟩ := I1.call' (ch := []) ho un2 ok2 hb (fun b z => absurd z (by simp))
  exact ⟨a, _, _, ⟨G, g2, d2, t2, os2⟩, _, .ref C, none, rfl, J, fun b o z => by
    by_cases hba : b = a
    · rw [hba, ge] at z
      cases z
    · exact (gk b hba).symm.trans z, ge, hoe, ⟨rfl, rfl⟩, rfl, rfl, del_same, rfl, hb, T, q⟩
/-- C(e, ..), to be raised -/
def tMkC (C : Addr) (sp : Sp) (ta : TA) : L2.St → Hp → XK → Prop := fun σ H Q => ta σ H fun vs H1 => vs.length ≤ 1000 ∧ ∀ a, H1 a = none → sp (.ref a :: vs) (upd H1 a (exo a C none))
  (fun v H2 => v = .non ∧ ((H2 a = some (exo a C none) ∧ Q (.ref C) none (del H2 a)) ∨ ∃ (d : Addr) (fs : List (Str × V)), H2 a = some (exo a C (some d)) ∧ H2 d = some (exd d fs) ∧ H1 d = none ∧ Q (.ref C) (some d) (upd (del H2 a) d (.xd fs)))) (fun _ _ _ => False)
theorem mk_call {CX : CXT} {C fI : Addr} {k : Nat} {fd : FuncData} {ps : List Str} {sp : Sp} {B newId initId : String} {bm : List Value} (T : OwnC X.K C B newId initId bm) (iC : PySem.W.findIn X.K (.ref C) "__init__" = some (some (.ref fI))) (tI : PySem.W.typeIn X.K (.ref fI) = some (.type "function"))
    (F1 : FnOk X.prog X.w X.K X.mg X.base CX k fI fd ps sp) (hr : Room (k + 1) X.A) (hb : Binds X.K fd ps []) (hx : Passes CX X (fun _ _ _ => False)) {pins : List (Addr × Obj)} {σ : L2.St} {H : Hp} {s : Shared} {Q : XK} {us : List Value} {vs : List V}
    (I : Inv X pins σ H s) (r : Vals vs us) (few : vs.length ≤ 1000) (h : ∀ a, H a = none → sp (.ref a :: vs) (upd H a (exo a C none))
      (fun v H2 => v = .non ∧ ((H2 a = some (exo a C none) ∧ Q (.ref C) none (del H2 a)) ∨ ∃ (d : Addr) (fs : List (Str × V)), H2 a = some (exo a C (some d)) ∧ H2 d = some (exd d fs) ∧ H d = none ∧ Q (.ref C) (some d) (upd (del H2 a) d (.xd fs)))) (fun _ _ _ => False)) :
    wpAny (model X.prog X.w) X.A (call (.ref C) us) (MkP X pins σ Q) X.xe s := by
  obtain ⟨nm, q, N, bs, sn, sub, ab, col, dd, k0, k1, k2, k3, k5, o⟩ := T.cls
  obtain ⟨nB, Y⟩ := T.new
  obtain ⟨hp, g, dr, tk, os⟩ := s
  have lt : hp.objs.size ≤ hp.objs.size + 1 := Nat.le_succ _
  have no : H (hp.objs.size + 1) = none := I.hok.fresh lt
  have hq := h (hp.objs.size + 1) no
  have up : ∀ b u, hp.get? b = some u → ((hp.push (PySem.W.kdv_tup us)).push (bare C hp.objs.size)).get? b = some u := fun b u e => Heap.get?_push_of_some _ (Heap.get?_push_of_some _ e)
  have at2 : ((hp.push (PySem.W.kdv_tup us)).push (bare C hp.objs.size)).get? (hp.objs.size + 1) = some (bare C hp.objs.size) := by heap_get
  have I2 : Inv X pins σ (upd H (hp.objs.size + 1) (exo (hp.objs.size + 1) C none)) ⟨(hp.push (PySem.W.kdv_tup us)).push (bare C hp.objs.size), g, dr, tk, os⟩ :=
    I.laid (t' := tk) (a := hp.objs.size + 1) (o := exo (hp.objs.size + 1) C none) (h' := (hp.push (PySem.W.kdv_tup us)).push (bare C hp.objs.size)) up lt (exo_ok at2)
  have r2 : Vals (V.ref (hp.objs.size + 1) :: vs) (Value.ref (hp.objs.size + 1) :: us) := .cons rfl r
  have hl : (Value.ref (hp.objs.size + 1) :: us).length = ps.length := by
    rw [← r2.length]
    exact F1.len _ _ _ _ hq
  have fit : us.length ≤ sizeLine := by
    rw [← Paired.length r, sizeLine_eq]
    omega
  have hbd := hb ⟨(hp.push (PySem.W.kdv_tup us)).push (bare C hp.objs.size), g, dr, tk, os⟩ (Value.ref (hp.objs.size + 1) :: us) I2.kIn (by rw [List.append_nil]; exact hl)
  rw [List.append_nil] at hbd
  refine wpAny_call (call_made Y (I.kIn _ _ o) (PySem.W.looks_findIn I.kIn iC) (fun x => PySem.W.bind_fn I.kIn x tI) fit
    (codeAny_mono (F1.run _ X.stack _ _ ⟨Value.ref (hp.objs.size + 1) :: us, []⟩ (Value.ref (hp.objs.size + 1) :: us) _ _ (fun _ _ _ => False) (hr.make C us []) (I2.env0.make C us []) hbd r2 hq) fun r s2 z => ?_))
  cases r with
  | error er => exact hx pins σ _ _ er s2 I2 z
  | ok fl =>
    cases fl with
    | ret u =>
      obtain ⟨v, H2, os2, bare2, un2, hok2, rv, ev, q⟩ := z
      subst ev
      obtain ⟨h2, g2, d2, t2, os'⟩ := s2
      have R : Raises X (.ref C) := raises_own T.exC T.tyC
      rcases q with ⟨ea, q2⟩ | ⟨d, fs, ea, ed, hd1, q2⟩
      · exact ⟨rv, mk_endN R I lt up un2 hok2 os2 bare2 ea q2⟩
      · exact ⟨rv, mk_end R I lt up un2 hok2 os2 bare2 ea ed hd1 q2⟩
    | next => exact False.elim z
    | brk => exact False.elim z
    | cont => exact False.elim z
theorem pmk_hasC {C : Addr} {x : Str} {ps : List Str} {sp : Sp} {e : Expr} {es : List Expr} {t : TA} {p pos : Pos} (h : HasC X.prog X.w X.K X.mg X.base C x ps sp) (hr : Room 2 X.A) (hg : Gl X x) (ha : PA X (e :: es) t)
    (hdb : (x == ("__debug__" : Str)) = false := by decide) (he : starEach (e :: es) X.env = (false, eval e X.env) :: starEach es X.env := by rfl) (hpl : (backTo pos (starEach es X.env)).any (·.1) = false := by rfl) :
    PMk X (.Call (.Name x p) (e :: es) [] pos) (tMkC C sp t) := by
  obtain ⟨B, newId, initId, bm, F, fd, hm, T, iC, tI, f, b⟩ := h.ex
  intro pins s σ H Q I h
  refine wpAny_Call_Name_kw (ld_glob I hg hm ?_ hdb)
  refine PySem.W.callWith_K (h₀ := X.base) I.ok.mod.kin T.kC (thn (ha.run pos pins s σ H _ I h) fun us s1 ⟨vs, H1, I1, r1, hz, q1⟩ => ⟨I1.kIn, ?_⟩) he hpl
  exact mk_call T iC tI f hr b pass0 I1 r1 hz q1
theorem pmk_hasC0 {C : Addr} {x : Str} {ps : List Str} {sp : Sp} {p pos : Pos} (h : HasC X.prog X.w X.K X.mg X.base C x ps sp) (hr : Room 2 X.A) (hg : Gl X x) (hdb : (x == ("__debug__" : Str)) = false := by decide) :
    PMk X (.Call (.Name x p) [] [] pos) (tMkC C sp tNil) := by
  obtain ⟨B, newId, initId, bm, F, fd, hm, T, iC, tI, f, b⟩ := h.ex
  intro pins s σ H Q I h
  refine wpAny_Call_Name_kw (ld_glob I hg hm ?_ hdb)
  exact PySem.W.callWith_K0 I.kIn T.kC (mk_call (us := []) T iC tI f hr b pass0 I .nil h.1 h.2)
theorem del_upd {H : Hp} {a : Addr} {o : HO} (h : H a = none) : del (upd H a o) a = H := funext fun b => by
  by_cases e : b = a
  · rw [e, del_same, h]
  · rw [del_ne e, upd_ne e]
/-- C() without a field -/
theorem pmk_own0 {C : Addr} {x : Str} {p pos : Pos} (h : HasC X.prog X.w X.K X.mg X.base C x ["self"] (spI0 C)) (hr : Room 2 X.A) (hg : Gl X x) (hdb : (x == ("__debug__" : Str)) = false := by decide) :
    PMk X (.Call (.Name x p) [] [] pos) (fun _ H Q => Q (.ref C) none H) := fun pins s σ H Q I q =>
  pmk_hasC0 h hr hg hdb pins s σ H Q I ⟨by show 0 ≤ 1000; decide, fun a na => ⟨a, rfl, upd_same, rfl, .inl ⟨upd_same, by rw [del_upd na]; exact q⟩⟩⟩
/-! ### defs that may raise -/
structure HasX (P : Program) (w : World) (K : PySem.W.Frag) (mg : Str → Option Value) (base : Heap) (k : Nat) (x : Str) (ps : List Str) (sp : Sp) : Prop where
  ex : ∃ f fd, mg x = some (.ref f) ∧ PySem.W.keepIn K (.ref f) = true ∧ Binds K fd ps [] ∧ FnOk P w K mg base (L2.CX P w) k f fd ps sp
theorem has_ofX {P : Program} {w : World} {K : PySem.W.Frag} {mg : Str → Option Value} {base : Heap} {x : Str} {st : Stmt} {N ps : List Str} {k : Nat} {sp : Sp} (A : At K mg x st) (S : FnScope N ps (defScope st)) (B : BindsAll x st ps) (len : ∀ vs H Q E, sp vs H Q E → vs.length = ps.length)
    (hbody : ∀ (f : Addr) (cdv : Value) (A : Around) (outer : List Env) (s : Shared) (H : Hp) (vs : List V) (Q : VK) (E : XK), Room k (A.deeper (envOfC x (defScope st) s.heap.objs.size f cdv)) → sp vs H Q E →
      ∃ t, PSs (cxOf (L2.CX P w) P w K mg base N x (defScope st) f cdv A outer s H E) (defBody st) t ∧ t { nx := fun _ H' => Q .non H', rt := Q } (start N vs) H) : HasX P w K mg base (k + 1) x ps sp := by
  obtain ⟨f, fd, hm, F⟩ := A.ex
  exact ⟨f, fd, hm, F.kp, F.binds B, F.okX S len fun cdv A outer s H vs Q E hr h => hbody f cdv A outer s H vs Q E hr h⟩
theorem pe_hasX {W : WX} {k : Nat} {x : Str} {ps : List Str} {sp : Sp} {e : Expr} {es : List Expr} {t : TA} {p pos : Pos} (tk : Takes X W) (h : HasX X.prog X.w X.K X.mg X.base k x ps sp) (hr : Room k X.A) (hg : Gl X x) (ha : PA X (e :: es) t)
    (hdb : (x == ("__debug__" : Str)) = false := by decide) (he : starEach (e :: es) X.env = (false, eval e X.env) :: starEach es X.env := by rfl) (hpl : (backTo pos (starEach es X.env)).any (·.1) = false := by rfl) :
    PE X (.Call (.Name x p) (e :: es) [] pos) (tCallS sp (WE W) t) := by
  obtain ⟨f, fd, hm, hk, hb, F⟩ := h.ex
  exact pe_callS F hr hg hm hk hb (fun σ => L2.passAt tk σ) ha hdb he hpl
/-- here it lets nothing out -/
theorem pe_hasX0 {k : Nat} {x : Str} {ps : List Str} {sp : Sp} {e : Expr} {es : List Expr} {t : TA} {p pos : Pos} (h : HasX X.prog X.w X.K X.mg X.base k x ps sp) (hr : Room k X.A) (hg : Gl X x) (ha : PA X (e :: es) t)
    (hdb : (x == ("__debug__" : Str)) = false := by decide) (he : starEach (e :: es) X.env = (false, eval e X.env) :: starEach es X.env := by rfl) (hpl : (backTo pos (starEach es X.env)).any (·.1) = false := by rfl) :
    PE X (.Call (.Name x p) (e :: es) [] pos) (tCall sp [] E0 t) := by
  obtain ⟨f, fd, hm, hk, hb, F⟩ := h.ex
  exact pe_call F hr hg hm hk hb .nil L2.passL ha hdb he hpl
end
/-! ### isinstance of a caught one -/
/-- what its dict holds is known, where it has one -/
def XdAt (H : Hp) (d : Option Addr) : Prop := ∀ dx, d = some dx → ∃ fs, H dx = some (.xd fs)
theorem xd_none {H : Hp} : XdAt H none := fun dx z => by cases z
theorem caught_at {X : Cx} {pins pn : List (Addr × Obj)} {σ : L2.St} {H : Hp} {s : Shared} {a D : Addr} {d : Option Addr} {oe : Obj} (hz : Zc (.ref D) d oe) (hf : ∃ vs, oe.data = .fields vs) (I : Inv (X.suite a ((a, oe) :: pn)) pins σ H s) (hd : XdAt H d) :
    ∃ od, PySem.W.InstAt s.heap a oe D od := by
  obtain ⟨hget, _⟩ := I.pin (a, oe) (List.mem_append.mpr (.inl List.mem_cons_self))
  obtain ⟨vs, hv⟩ := hf
  have nc : PySem.W.notCls oe = true := by
    unfold PySem.W.notCls
    rw [hv] <;> rfl
  cases d with
  | none => exact ⟨none, hget, hz.1, nc, by rw [hz.2]; trivial⟩
  | some dx =>
    obtain ⟨fs, e⟩ := hd dx rfl
    have hx : ObjOk X.prog X.w H s.heap dx (.xd fs) := I.hok dx _ e
    obtain ⟨mA, hns, _⟩ := hx
    obtain ⟨od, ho, _⟩ := lookIn_ns hns
    exact ⟨some od, hget, hz.1, nc, by rw [hz.2]; exact ho⟩
def rIsX (K : PySem.W.Frag) (cls : Value) (d : Option Addr) (a : Addr) : List V → Hp → VK → Prop := fun xs H Q => ∃ (c : V) (cv : Value) (D : Addr) (b : Bool), xs = [.ref a, c] ∧ cls = .ref D ∧ ClsV c cv ∧ ExcC K D ∧ XdAt H d ∧ PySem.W.kitOne K (.ref D) cv = some b ∧ Q (.bl b) H
theorem call_isX {X : Cx} {a : Addr} {cls : Value} {d : Option Addr} {oe : Obj} {pn : List (Addr × Obj)} (hz : Zc cls d oe) (hf : ∃ vs, oe.data = .fields vs) : CallR (X.suite a ((a, oe) :: pn)) (.builtin "isinstance") (rIsX X.K cls d a) := by
  intro pins s σ H xs us Q I r h
  obtain ⟨c, cv, D, b, rfl, rfl, kc, T, hd, e, q⟩ := h
  obtain ⟨u1, u2, rfl, r1, r2⟩ := vals2 r
  have e2 := kc.eq r2
  subst e2
  cases r1
  obtain ⟨od, J⟩ := caught_at hz hf I hd
  exact PySem.W.kia_one (exo_kit T) I.kIn J e (fun z => nomatch z) fun tk => ⟨.bl b, H, I.tok tk, rfl, q⟩
def rIsXT (K : PySem.W.Frag) (cls : Value) (d : Option Addr) (a : Addr) : List V → Hp → VK → Prop := fun xs H Q => ∃ (tp : Addr) (cs : List V) (us : List Value) (D : Addr) (b : Bool), xs = [.ref a, .ref tp] ∧ cls = .ref D ∧ H tp = some (.tup cs) ∧ Paired ClsV cs us ∧ ExcC K D ∧ XdAt H d ∧ PySem.W.kitAny K (.ref D) us = some b ∧ Q (.bl b) H
theorem call_isXT {X : Cx} {a : Addr} {cls : Value} {d : Option Addr} {oe : Obj} {pn : List (Addr × Obj)} (hz : Zc cls d oe) (hf : ∃ vs, oe.data = .fields vs) : CallR (X.suite a ((a, oe) :: pn)) (.builtin "isinstance") (rIsXT X.K cls d a) := by
  intro pins s σ H xs us Q I r h
  obtain ⟨tp, cs, ws, D, b, rfl, rfl, ht, kc, T, hd, e, q⟩ := h
  obtain ⟨u1, u2, rfl, r1, r2⟩ := vals2 r
  cases r1
  cases r2
  obtain ⟨od, J⟩ := caught_at hz hf I hd
  have hx : ObjOk X.prog X.w H s.heap tp (.tup cs) := I.hok tp _ ht
  obtain ⟨_, vs, rv, o, ho, h2, n, h3⟩ := hx
  obtain ⟨oc, od', oda, osl⟩ := o
  dsimp only at h2 h3
  subst h2 h3
  have e3 := ClsV.all kc rv
  subst e3
  exact PySem.W.kia_tup (exo_kit T) I.kIn J ho e (fun z => nomatch z) fun tk => ⟨.bl b, H, I.tok tk, rfl, q⟩
/-- the class that a clause names, own -/
theorem names_own {X : Cx} {x : Str} {C : Addr} (m : X.mg x = some (.ref C)) (hg : Gl X x) (hd : (x == ("__debug__" : Str)) = false := by decide) : Names X x (.ref C) := ⟨hg, hd, .inl m⟩
/-- one own class in a clause that names another -/
theorem exm_two {K : PySem.W.Frag} {mg mg' : Str → Option Value} {C C' : Addr} {x qual x' qual' : Str} {B newId initId B' newId' initId' : String} {bm bm' : List Value} {st st' : Stmt} {fs fs' : List Str} (T : ClsAt K mg C x qual B newId initId bm st fs) (T' : ClsAt K mg' C' x' qual' B' newId' initId' bm' st' fs')
    (flat : bm.contains (.ref C') = false) : PySem.W.exmOne K (.ref C) (.ref C') = some (decide (C = C')) := by
  refine PySem.W.exm_ref T'.ex.hs T'.ex.hd T'.own.tyC ?_
  obtain ⟨cd, hc, hm, _⟩ := T.own.clsIn
  show PySem.W.mroIn K C (.ref C') = _
  unfold PySem.W.mroIn
  rw [hc, Option.bind_some, hm]
  show some ((Value.ref C :: bm).contains (.ref C')) = _
  rw [List.contains_cons, flat, Bool.or_false]
  congr 1
  by_cases h : C = C'
  · subst h
    rw [decide_eq_true rfl]
    exact beq_self_eq_true _
  · rw [decide_eq_false h]
    exact Bool.eq_false_iff.mpr fun z => h (Value.ref.inj (beq_iff_eq.mp z)).symm
theorem kit_nil {K : PySem.W.Frag} {t : Value} : PySem.W.kitAny K t [] = some false := rfl
theorem kit_no {K : PySem.W.Frag} {t c : Value} {r : List Value} (h : PySem.W.kitOne K t c = some false) (k : PySem.W.kitAny K t r = some false) : PySem.W.kitAny K t (c :: r) = some false := by
  unfold PySem.W.kitAny
  rw [h]
  exact k
theorem kit_other {K : PySem.W.Frag} {mg mg' : Str → Option Value} {C C' : Addr} {x qual x' qual' : Str} {B newId initId B' newId' initId' : String} {bm bm' : List Value} {st st' : Stmt} {fs fs' : List Str} (T : ClsAt K mg C x qual B newId initId bm st fs) (T' : ClsAt K mg' C' x' qual' B' newId' initId' bm' st' fs')
    (flat : bm.contains (.ref C') = false) (ne : C ≠ C') : PySem.W.kitOne K (.ref C) (.ref C') = some false := by
  rw [kit_two T T' flat, decide_eq_false ne]
theorem exm_self {K : PySem.W.Frag} {mg : Str → Option Value} {C : Addr} {x qual : Str} {B newId initId : String} {bm : List Value} {st : Stmt} {fs : List Str} (T : ClsAt K mg C x qual B newId initId bm st fs) (flat : bm.contains (.ref C) = false) : PySem.W.exmOne K (.ref C) (.ref C) = some true := by
  rw [exm_two T T flat, decide_eq_true rfl]

/-! ### the draws -/
def spDraw : Sp := fun vs H Q _ => ∃ (t c : Addr) (m : Int) (n : Nat), vs = [.ref t, .int m] ∧ Tape H t c n ∧ n < 2 ^ 40 ∧ 0 < m ∧ m < 2 ^ 8000 ∧
  ∀ (H' : Hp) (r : Int), 0 ≤ r → r < m → Tape H' t c (n + 1) → Kp t H H' → Q (.int r) H'
theorem cell_at {ns : List Int} {spot : Int} (h0 : 0 < ns.length) (hs : 0 ≤ spot) : ∃ x, atI (ns.map V.int) (spot % ((ns.map V.int).length : Int)) = some (.int x) := by
  rw [List.length_map]
  have hp : (0 : Int) < (ns.length : Int) := by omega
  have h1 := Int.emod_nonneg spot (show (ns.length : Int) ≠ 0 by omega)
  have h2 := Int.emod_lt_of_pos spot hp
  have h3 : (spot % (ns.length : Int)).toNat < ns.length := by omega
  refine ⟨ns[(spot % (ns.length : Int)).toNat], at_of (j := (spot % (ns.length : Int)).toNat) (by omega) ?_⟩
  rw [List.getElem?_map, List.getElem?_eq_getElem h3]
  rfl
theorem log2_small {m : Int} (h0 : 0 < m) (h : m < 2 ^ 8000) : m.natAbs.log2 < 9000 := by
  have h2 : m.natAbs < 2 ^ 8000 := by
    have e : ((2 ^ 8000 : Nat) : Int) = (2 : Int) ^ 8000 := by rw [Int.natCast_pow]; rfl
    omega
  exact Nat.lt_of_lt_of_le (PySem.Flt.log2_lt_of (by decide) h2) (by decide)
theorem pow_ok {x spot : Int} {n : Nat} (h0 : 0 ≤ spot) (h1 : spot ≤ n) (h2 : n < 2 ^ 40) : CPow (x % 2147483647 + 69621 * spot + 48271) 17 := by
  have a := Int.emod_nonneg x (show (2147483647 : Int) ≠ 0 by decide)
  have b := Int.emod_lt_of_pos x (show (0 : Int) < 2147483647 by decide)
  refine ⟨by decide, by decide, ?_⟩
  have e : (2 : Nat) ^ 64 = 18446744073709551616 := by decide
  rw [e]
  omega
section
variable {P : Program} {w : World} {K : PySem.W.Frag} {mg : Str → Option Value} {base : Heap}
theorem has_draw {cs : Nat → Addr} (T : Top K mg cs) : Has P w K mg base 1 "_law_draw" ["_law_tape", "_law_many_here"] spDraw := by
  refine has_of T.d__law_draw sc__law_draw bd__law_draw (fun vs H Q E h => ?_) (fun f cdv A outer s H vs Q E hr h => ?_)
  · obtain ⟨t, c, m, n, rfl, _⟩ := h
    rfl
  · have hu := hu_of hr
    have nd := sc__law_draw.nd
    obtain ⟨t, c, m, n, rfl, ⟨ns, spot, left, tp, hs⟩, hn, hm, hm2, k⟩ := h
    refine ⟨_, (C8.pss_cut (ps_if (pt_cmpR op_lt (pe_dget hu (pv 0) pe_str (fun _ _ => rfl)) (pv 1) (nomark _)) (pss_cons (ps_par (i := 2) (j := 3) (by rfl) nd rfl rfl (by decide) rfl rfl (pa_cons (pe_dget hu (pv 0) pe_str (fun _ _ => rfl)) (pa_cons (pe_callB call_len_seq (by rfl) T.b_len (by decide +kernel) (pa_cons (pe_dget hu (pv 0) pe_str (fun _ _ => rfl)) pa_nil)) pa_nil)) (by rfl))
    (pss_cons (ps_asg (pe_tup (pa_cons (pe_ix ix_list (pe_dget hu (pv 0) pe_str (fun _ _ => rfl)) (pe_op op_mod (pv 2) (pv 3)) (fun _ _ => rfl)) (pa_cons (pe_op op_add (pv 2) pe_int) pa_nil))) (pg_tup (by rfl) (pgs_cons (pg_name (i := 4) nd rfl (.inl rfl)) (pgs_cons (pg_sub (pv 0) pe_str (set_dict hu)) pgs_nil))))
    (pss_cons (ps_dput hu (pv 0) pe_str (pe_op op_mod (pe_op op_pow (pe_op op_add (pe_op op_add (pe_op op_mod (pv 4) pe_int) (pe_op op_mul pe_int (pv 2))) pe_int) pe_int) (pe_op op_add (pe_op op_pow pe_int pe_int) pe_int)) rfl)
    (pss_one (ps_if (PW.pt (pw_and (pt_cmpR op_ge (pv 4) (pe_op op_pow pe_int pe_int) (nomark _)) (pw_and1 (pt_cmpR op_lt (pv 2) (pv 3) (nomark _))))) (pss_one (ps_dput hu (pv 0) pe_str (pe_op op_sub (pv 4) (pe_op op_pow pe_int pe_int)) rfl)) pss_nil))))) pss_nil)
    (pss_cons (ps_asg (pe_tup (pa_cons (pe_op op_mod (pe_dget hu (pv 0) pe_str (fun _ _ => rfl)) (pv 1)) (pa_cons (pe_op op_fdivW (pe_dget hu (pv 0) pe_str (fun _ _ => rfl)) (pv 1)) pa_nil))) (pg_tup (by rfl) (pgs_cons (pg_name (i := 5) nd rfl (.inl rfl)) (pgs_cons (pg_sub (pv 0) pe_str (set_dict hu)) pgs_nil))))
    (pss_one (ps_ret (pv 5))))), ?_⟩
    refine ⟨fun σ' H' => ∃ (v2 v3 v4 v5 : Option V) (spot' left' : Int), σ' = [some (.ref t), some (.int m), v2, v3, v4, v5] ∧ TapeC H' t c ns spot' left' ∧ spot' ≤ ((n + 1 : Nat) : Int) ∧ Kp t H H', ?_, ?_⟩
    · refine ⟨_, rfl, t, _, rfl, dg_left tp.d, _, rfl, _, _, rfl, rfl, _, rfl, ite2 (fun _ => ?_) (fun _ => ?_)⟩
      · obtain ⟨x, hx⟩ := cell_at tp.ne tp.s0
        refine ⟨_, rfl, t, _, rfl, dg_spot tp.d, _, rfl, t, _, rfl, dg_cells tp.d, c, _, rfl, .inl (SqL.of tp.l), _, _, rfl, ?_⟩
        refine ⟨_, rfl, t, _, rfl, dg_cells tp.d, _, rfl, _, rfl, _, _, rfl, rfl, ?_, c, _, _, _, rfl, rfl, SqL.of tp.l, hx, _, rfl, _, _, rfl, rfl, by show 2 ≤ sizeLine; decide, fun p hp => ?_⟩
        · show (0 : Int) < ((ns.map V.int).length : Int)
          rw [List.length_map]
          have := tp.ne
          omega
        have h1 : (upd H p (.tup [.int x, .int (spot + 1)])) t = some (.dK (tk c spot left)) := by
          rw [upd_ne (ne_of_none tp.d hp)]
          exact tp.d
        refine ⟨p, _, rfl, SqT.of upd_same, rfl, _, _, rfl, _, _, rfl, _, rfl, t, _, rfl, dp_spot _ h1, rfl, ?_⟩
        have c1 : (upd (upd H p (.tup [.int x, .int (spot + 1)])) t (.dK (tk c (spot + 1) left))) c = some (.lst (ns.map V.int)) := by
          rw [upd_ne (show c ≠ t from ne_of tp.l tp.d (by intro z; cases z)), upd_ne (ne_of_none tp.l hp)]
          exact tp.l
        refine ⟨_, rfl, _, _, rfl, rfl, by show (0 : Int) < 2147483647; decide, _, rfl, _, _, rfl, rfl, .inl ⟨by decide, by decide⟩, _, _, rfl, rfl, _, _, rfl, rfl, _, _, rfl, rfl, pow_ok tp.s0 hs hn, _, _, rfl, rfl, ⟨by decide, by decide, by decide⟩, _, _, rfl, rfl, _, _, rfl, rfl, ?_, _, rfl, t, _, rfl, dp_left _ upd_same, ?_⟩
        · show (0 : Int) < 10 ^ (50 : Int).toNat + 151
          decide
        have kp : ∀ z, Kp t H (upd (upd (upd H p (.tup [.int x, .int (spot + 1)])) t (.dK (tk c (spot + 1) left))) t (.dK (tk c (spot + 1) z))) := fun z => ((Kp.new hp).trans Kp.at).trans Kp.at
        have tq : ∀ z, 0 ≤ z → TapeC (upd (upd (upd H p (.tup [.int x, .int (spot + 1)])) t (.dK (tk c (spot + 1) left))) t (.dK (tk c (spot + 1) z))) t c ns (spot + 1) z := fun z hz =>
          ⟨upd_same, by rw [upd_ne (show c ≠ t from ne_of tp.l tp.d (by intro z; cases z))]; exact c1, tp.ne, tp.lt, by have := tp.s0; omega, hz⟩
        have h0 : ∀ a : Int, 0 ≤ a % (10 ^ (50 : Int).toNat + 151) := fun a => Int.emod_nonneg _ (by decide)
        refine ⟨_, rfl, _, _, rfl, rfl, ⟨by decide, by decide, by decide⟩, _, _, rfl, rfl, _, rfl, ite2 (fun hc => ?_) (fun _ => iteF ?_)⟩
        · refine ⟨_, rfl, _, rfl, _, _, rfl, rfl, _, rfl, ite2 (fun _ => ?_) (fun _ => ?_)⟩
          · refine ⟨_, rfl, _, _, rfl, rfl, ⟨by decide, by decide, by decide⟩, _, _, rfl, rfl, _, rfl, t, _, rfl, dp_left _ upd_same, ?_⟩
            have hz : (10 : Int) ^ (18 : Int).toNat ≤ x := of_decide_eq_true hc
            exact ⟨_, _, _, _, spot + 1, x - 10 ^ (18 : Int).toNat, rfl, ⟨upd_same, by rw [upd_ne (show c ≠ t from ne_of tp.l tp.d (by intro z; cases z))]; exact (tq _ (h0 _)).l, tp.ne, tp.lt, by have := tp.s0; omega, by omega⟩, by omega, (kp _).trans Kp.at⟩
          · exact ⟨_, _, _, _, _, _, rfl, tq _ (h0 _), by omega, kp _⟩
        · exact ⟨_, _, _, _, _, _, rfl, tq _ (h0 _), by omega, kp _⟩
      · exact ⟨_, _, _, _, _, _, rfl, tp, by omega, Kp.refl _⟩
    · rintro σ' H' ⟨v2, v3, v4, v5, spot', left', rfl, tp', hs', kp⟩
      refine ⟨_, rfl, t, _, rfl, dg_left tp'.d, _, rfl, _, _, rfl, rfl, hm, _, rfl, t, _, rfl, dg_left tp'.d, _, rfl, _, _, rfl, rfl, ⟨hm, ?_⟩, by show 2 ≤ sizeLine; decide, fun p hp => ?_⟩
      · exact log2_small hm hm2
      have h1 : ∀ o, (upd H' p o) t = some (.dK (tk c spot' left')) := fun o => by
          rw [upd_ne (ne_of_none tp'.d hp)]
          exact tp'.d
      refine ⟨p, _, rfl, SqT.of upd_same, rfl, _, _, rfl, _, _, rfl, _, rfl, t, _, rfl, dp_left _ (h1 _), rfl, ?_⟩
      refine ⟨_, rfl, k _ _ (Int.emod_nonneg _ (by omega)) (Int.emod_lt_of_pos _ hm) ?_ ?_⟩
      · exact ⟨ns, spot', _, ⟨upd_same, by rw [upd_ne (show c ≠ t from ne_of tp'.l tp'.d (by intro z; cases z)), upd_ne (ne_of_none tp'.l hp)]; exact tp'.l, tp'.ne, tp'.lt, tp'.s0, Int.ediv_nonneg tp'.l0 (by omega)⟩, hs'⟩
      · exact (kp.trans (Kp.new hp)).trans Kp.at
/-- a pick from a list or a tuple -/
def spPick (K : PySem.W.Frag) : Sp := fun vs H Q _ => ∃ (t c a : Addr) (xs : List V) (n : Nat), vs = [.ref t, .ref a] ∧ Tape H t c n ∧ n < 2 ^ 40 ∧ (∀ H', Kp t H H' → SqL K H' a xs ∨ SqT K H' a xs) ∧ 0 < xs.length ∧ xs.length ≤ 1000000 ∧
  ∀ (H' : Hp) (i : Nat) (v : V), xs[i]? = some v → Tape H' t c (n + 1) → Kp t H H' → Q v H'
theorem has_pick {cs : Nat → Addr} (T : Top K mg cs) (h__law_draw : Has P w K mg base 1 "_law_draw" ["_law_tape", "_law_many_here"] spDraw) : Has P w K mg base 2 "_law_pick" ["_law_tape", "_law_some"] (spPick K) := by
  refine has_of T.d__law_pick sc__law_pick bd__law_pick (fun vs H Q E h => ?_) (fun f cdv A outer s H vs Q E hr h => ?_)
  · obtain ⟨t, c, a, xs, n, rfl, _⟩ := h
    rfl
  · have hu := hu_of hr
    have nd := sc__law_pick.nd
    obtain ⟨t, c, a, xs, n, rfl, tp, hn, hs, h0, h1, k⟩ := h
    refine ⟨_, (pss_one (ps_ret (pe_ix ix_seq (pv 1) (pe_has h__law_draw (hr.mono (by omega)) (by rfl) (pa_cons (pv 0) (pa_cons (pe_callB call_len_seq (by rfl) T.b_len (by decide +kernel) (pa_cons (pv 1) pa_nil)) pa_nil))) (fun _ _ => rfl)))), ?_⟩
    refine ⟨_, rfl, _, rfl, _, rfl, a, xs, rfl, hs H (Kp.refl _), t, c, _, n, rfl, tp, hn, by omega, ?_, fun H' r r0 r1 tp' kp => ?_⟩
    · exact Int.lt_of_le_of_lt (Int.ofNat_le.mpr h1) (by decide +kernel)
    have hi : r.toNat < xs.length := by omega
    have g : xs[r.toNat]? = some xs[r.toNat] := List.getElem?_eq_getElem hi
    rcases hs H' kp with z | z
    · exact .inl ⟨a, xs, r, _, rfl, rfl, z, at_of (by omega) g, k H' _ _ g tp' kp⟩
    · exact .inr (.inl ⟨a, xs, r, _, rfl, rfl, z, at_of (by omega) g, k H' _ _ g tp' kp⟩)
/-- the tape's beginning -/
def spBegun (K : PySem.W.Frag) : Sp := fun vs H Q _ => ∃ (a : Addr) (ns : List Int), vs = [.ref a] ∧ SqL K H a (ns.map V.int) ∧ ns.length ≤ 63 ∧
  ∀ (H' : Hp) (t c : Addr), H t = none → H c = none → Same H H' → Tape H' t c 0 → Q (.ref t) H'
theorem has_begun {cs : Nat → Addr} (T : Top K mg cs) : Has P w K mg base 1 "_law_begun" ["_law_script"] (spBegun K) := by
  refine has_of T.d__law_begun sc__law_begun bd__law_begun (fun vs H Q E h => ?_) (fun f cdv A outer s H vs Q E hr h => ?_)
  · obtain ⟨a, ns, rfl, _⟩ := h
    rfl
  · have hu := hu_of hr
    have nd := sc__law_begun.nd
    obtain ⟨a, ns, rfl, hS, hl, k⟩ := h
    refine ⟨_, (pss_one (ps_ret (pe_disp (pps_cons pe_str (pe_orT (pe_slice sl_list (pv 0) po_none (po_some pe_int)) (pe_one (pe_lst (pa_cons pe_int pa_nil)))) (pps_cons pe_str pe_int (pps_cons pe_str pe_int pps_nil))) (by rfl) (by rfl) (fun z => by cases z) (by decide)))), ?_⟩
    intro t ht
    have s1 := same_new (o := .dK []) ht
    refine ⟨_, rfl, 63, rfl, a, _, rfl, s1.seq hS, fun q hq => ?_⟩
    have ec : cutV (ns.map V.int) none (some 63) = ns.map V.int := by
      unfold cutV
      rw [HT.sIx_none, show HT.sIx (ns.map V.int).length (ns.map V.int).length (some 63) = min 63 (ns.map V.int).length from HT.sIx_nat _ _ 63, List.drop_zero, List.length_map]
      refine List.take_of_length_le ?_
      rw [List.length_map]
      omega
    rw [ec]
    have nqt : q ≠ t := fun e => by
      rw [e, upd_same] at hq
      cases hq
    have nq : H q = none := by
      rw [← hq, upd_ne nqt]
    cases hns : ns with
    | cons z zs =>
      refine ⟨true, .inl ⟨_, SqL.of upd_same, rfl⟩, iteT ?_⟩
      refine ⟨by rw [upd_ne nqt.symm]; exact upd_same, tk q 0 0, rfl, by show 3 ≤ 15; decide, ?_⟩
      refine k _ t q ht nq (fun b o e => ?_) ⟨z :: zs, 0, 0, ⟨upd_same, by rw [upd_ne nqt]; exact upd_same, by rw [List.length_cons]; omega, by rw [← hns]; exact hl, by decide, by decide⟩, by decide⟩
      rw [upd_ne (ne_of_none e ht), upd_ne (ne_of_none e nq), upd_ne (ne_of_none e ht)]
      exact e
    | nil =>
      refine ⟨false, .inl ⟨_, SqL.of upd_same, rfl⟩, iteF ?_⟩
      refine ⟨by show 1 ≤ sizeLine; decide, fun p hp => ?_⟩
      have npq : p ≠ q := fun e => by
        rw [e, upd_same] at hp
        cases hp
      have npt : p ≠ t := fun e => by
        rw [e, upd_ne nqt.symm, upd_same] at hp
        cases hp
      have np : H p = none := by
        rw [← hp, upd_ne npq, upd_ne npt]
      refine ⟨by rw [upd_ne npt.symm, upd_ne nqt.symm]; exact upd_same, tk p 0 0, rfl, by show 3 ≤ 15; decide, ?_⟩
      refine k _ t p ht np (fun b o e => ?_) ⟨[0], 0, 0, ⟨upd_same, by rw [upd_ne npt]; exact upd_same, by decide, by decide, by decide, by decide⟩, by decide⟩
      rw [upd_ne (ne_of_none e ht), upd_ne (ne_of_none e np), upd_ne (ne_of_none e nq), upd_ne (ne_of_none e ht)]
      exact e
end

/-! ### steps by clauses, as plain functions -/
def tru (on : List Int) : List (Key × V) := on.map fun k => ((Sum.inl k : Key), V.bl true)
def ins (on : List Int) (k : Int) : List Int := if k ∈ on then on else on ++ [k]
theorem tru_val (on : List Int) (k : Int) : valV (tru on) (Sum.inl k : Key) = if k ∈ on then some (V.bl true) else none := by
  induction on with
  | nil => rfl
  | cons a r ih =>
    show valV (((Sum.inl a : Key), V.bl true) :: tru r) (Sum.inl k : Key) = _
    by_cases h : a = k
    · rw [valV_pos (by rw [h]), if_pos (by rw [h]; exact List.mem_cons_self)]
    · rw [valV_neg (fun e => h (Sum.inl.inj e)), ih]
      by_cases hm : k ∈ r
      · rw [if_pos hm, if_pos (List.mem_cons_of_mem _ hm)]
      · rw [if_neg hm, if_neg]
        intro z
        rcases List.mem_cons.mp z with e | e
        · exact h e.symm
        · exact hm e
theorem tru_some (on : List Int) (k : Int) : (valV (tru on) (Sum.inl k : Key)).isSome = decide (k ∈ on) := by
  rw [tru_val]
  by_cases h : k ∈ on
  · rw [if_pos h, decide_eq_true h]
    rfl
  · rw [if_neg h, decide_eq_false h]
    rfl
theorem tru_put (on : List Int) (k : Int) : putK (tru on) (Sum.inl k : Key) (V.bl true) = tru (ins on k) := by
  unfold ins
  by_cases h : k ∈ on
  · rw [if_pos h]
    unfold putK
    rw [if_pos (by rw [valV_any, tru_some, decide_eq_true h])]
    unfold tru
    rw [List.map_map]
    refine List.map_congr_left fun a ha => ?_
    show (if ((Sum.inl a : Key), V.bl true).1 = Sum.inl k then _ else _) = _
    by_cases e : (Sum.inl a : Key) = Sum.inl k
    · rw [if_pos e]
    · rw [if_neg e]
  · rw [if_neg h, putK_new _ (by rw [tru_val, if_neg h])]
    unfold tru
    rw [List.map_append]
    rfl
theorem tru_merge : ∀ (b a : List Int), mergeK (tru a) (tru b) = tru (b.foldl ins a)
  | [], a => rfl
  | k :: r, a => by
    show mergeK (putK (tru a) (Sum.inl k : Key) (V.bl true)) (tru r) = _
    rw [tru_put, tru_merge r]
    rfl
theorem ins_len (on : List Int) (k : Int) : (ins on k).length ≤ on.length + 1 := by
  unfold ins
  split
  · omega
  · rw [List.length_append]
    exact Nat.le_refl _
theorem fold_len : ∀ (b a : List Int), (b.foldl ins a).length ≤ a.length + b.length
  | [], a => Nat.le_refl _
  | k :: r, a => by
    have h := fold_len r (ins a k)
    have h2 := ins_len a k
    show (r.foldl ins (ins a k)).length ≤ a.length + (r.length + 1)
    omega
/-- the marks of a clause that aren't off -/
def left (on c : List Int) : List Int := c.filter fun m => !decide (-m ∈ on)
/-- the clause of a number -/
def clAt (cs : List (List Int)) (r : Int) : Option (List Int) := if 0 ≤ r ∧ r < cs.length then cs[r.toNat]? else none
def step (cs : List (List Int)) (on : List Int) (r : Int) : Option (List Int) :=
  match clAt cs r with
  | none => none
  | some c => match left on c with
    | [x] => if x ∈ on then none else some (ins on x)
    | _ => none
def bring (cs : List (List Int)) : List Int → List Int → Option (List Int)
  | [], on => some on
  | r :: rs, on => match step cs on r with
    | none => none
    | some on' => bring cs rs on'
def broken (cs : List (List Int)) (on : List Int) (r : Int) : Bool :=
  match clAt cs r with
  | none => false
  | some c => (left on c).isEmpty
/-- what the program tells -/
def shownP (cs : List (List Int)) (ps rs : List Int) : Option Int → Bool
  | none => match rs.getLast? with
    | none => false
    | some r => match bring cs rs.dropLast (ps.foldl ins []) with
      | none => false
      | some on => broken cs on r
  | some m => match bring cs rs (ps.foldl ins []) with
    | none => false
    | some on => decide (m ∈ on)
/-- the law's own walk -/
def stepL (cs : List (List Int)) (on : List Int) (r : Int) : Option (List Int × Bool) :=
  match clAt cs r with
  | none => none
  | some c => if (left on c).length > 1 ∨ ((left on c).filter fun m => decide (m ∈ on)) ≠ [] then none else some ((left on c).foldl ins on, (left on c).isEmpty)
def walkL (cs : List (List Int)) : List Int → List Int → Bool → Option (List Int × Bool)
  | [], on, e => some (on, e)
  | r :: rs, on, e => if e = true then none else match stepL cs on r with
    | none => none
    | some (on', e') => walkL cs rs on' e'
def shownL (cs : List (List Int)) (ps rs : List Int) (m : Option Int) : Bool :=
  match walkL cs rs (ps.foldl ins []) false with
  | none => false
  | some (on, e) => match m with
    | none => e
    | some k => !e && decide (k ∈ on)
theorem stepL_of (cs : List (List Int)) (on : List Int) (r : Int) : stepL cs on r = match step cs on r with
    | some on' => some (on', false)
    | none => if broken cs on r = true then some (on, true) else none := by
  unfold stepL step broken
  cases clAt cs r with
  | none => rfl
  | some c =>
    show (if (left on c).length > 1 ∨ ((left on c).filter fun m => decide (m ∈ on)) ≠ [] then none else some ((left on c).foldl ins on, (left on c).isEmpty)) = match (match left on c with | [x] => if x ∈ on then none else some (ins on x) | _ => none) with
      | some on' => some (on', false)
      | none => if (left on c).isEmpty = true then some (on, true) else none
    cases left on c with
    | nil => simp
    | cons x r =>
      cases r with
      | nil =>
        by_cases h : x ∈ on
        · simp [h]
        · simp [h, ins]
      | cons y r => simp
theorem walk_ended (cs : List (List Int)) (rs on : List Int) : walkL cs rs on true = if rs = [] then some (on, true) else none := by
  cases rs with
  | nil => rfl
  | cons r rs => simp [walkL]
theorem walk_mark (cs : List (List Int)) (k : Int) : ∀ (rs on : List Int), (match walkL cs rs on false with
    | none => false
    | some (o, e) => !e && decide (k ∈ o)) = match bring cs rs on with
    | none => false
    | some o => decide (k ∈ o)
  | [], on => rfl
  | r :: rs, on => by
    simp only [walkL, bring]
    rw [if_neg Bool.false_ne_true, stepL_of]
    cases step cs on r with
    | some on' => exact walk_mark cs k rs on'
    | none =>
      by_cases hb : broken cs on r = true
      · simp only [hb, if_true]
        rw [walk_ended]
        cases rs with
        | nil => rfl
        | cons a b => rfl
      · simp only [hb]
        rfl
theorem walk_none (cs : List (List Int)) : ∀ (rs on : List Int), (match walkL cs rs on false with
    | none => false
    | some (_, e) => e) = match rs.getLast? with
    | none => false
    | some r => match bring cs rs.dropLast on with
      | none => false
      | some o => broken cs o r
  | [], on => rfl
  | [r], on => by
    simp only [walkL, bring, List.getLast?_singleton, List.dropLast_singleton]
    rw [if_neg Bool.false_ne_true, stepL_of]
    cases hs : step cs on r with
    | some on' =>
      have nb : broken cs on r = false := by
        unfold step at hs
        unfold broken
        cases hc : clAt cs r with
        | none => rfl
        | some c =>
          rw [hc] at hs
          simp only at hs ⊢
          cases hl : left on c with
          | nil =>
            rw [hl] at hs
            cases hs
          | cons x y => rfl
      rw [nb]
    | none =>
      by_cases hb : broken cs on r = true
      · simp only [hb, if_true]
      · simp only [hb]
        simp
  | r :: r2 :: rs, on => by
    have e1 : (r :: r2 :: rs).getLast? = (r2 :: rs).getLast? := by rw [List.getLast?_cons_cons]
    have e2 : (r :: r2 :: rs).dropLast = r :: (r2 :: rs).dropLast := rfl
    rw [e1, e2]
    simp only [bring]
    rw [show walkL cs (r :: r2 :: rs) on false = match stepL cs on r with | none => none | some (on', e') => walkL cs (r2 :: rs) on' e' by
      show (if false = true then none else _) = _
      rw [if_neg Bool.false_ne_true]]
    rw [stepL_of]
    cases step cs on r with
    | some on' => exact walk_none cs (r2 :: rs) on'
    | none =>
      have z : (match (r2 :: rs).getLast? with | none => false | some r => false) = false := by
        cases (r2 :: rs).getLast? <;> rfl
      by_cases hb : broken cs on r = true
      · simp only [hb, if_true]
        rw [walk_ended]
        simp only [reduceCtorEq, if_false]
        exact z.symm
      · simp only [hb]
        exact z.symm
theorem shown_eq (cs : List (List Int)) (ps rs : List Int) (m : Option Int) : shownL cs ps rs m = shownP cs ps rs m := by
  unfold shownL shownP
  cases m with
  | none => exact walk_none cs rs _
  | some k => exact walk_mark cs k rs _

/-! ### clauses as they stand in the heap -/
structure Cs (H : Hp) (a : Addr) (qs : List Addr) (cs : List (List Int)) : Prop where
  l : H a = some (.lst (qs.map V.ref))
  n : qs.length = cs.length
  t : ∀ (i : Nat) q c, qs[i]? = some q → cs[i]? = some c → H q = some (.tup (c.map V.int))
theorem Cs.same {H H' : Hp} {a : Addr} {qs : List Addr} {cs : List (List Int)} (h : Cs H a qs cs) (s : Same H H') : Cs H' a qs cs := ⟨s _ _ h.l, h.n, fun i q c hq hc => s _ _ (h.t i q c hq hc)⟩
theorem Cs.kp {H H' : Hp} {a d : Addr} {qs : List Addr} {cs : List (List Int)} {kvs : List (Key × V)} (h : Cs H a qs cs) (hd : H d = some (.dK kvs)) (k : Kp d H H') : Cs H' a qs cs :=
  ⟨k _ _ h.l (ne_of h.l hd (by intro z; cases z)), h.n, fun i q c hq hc => k _ _ (h.t i q c hq hc) (ne_of (h.t i q c hq hc) hd (by intro z; cases z))⟩
theorem clAt_some {cs : List (List Int)} {r : Int} {c : List Int} (h : clAt cs r = some c) : 0 ≤ r ∧ r < cs.length ∧ cs[r.toNat]? = some c := by
  unfold clAt at h
  split at h
  · rename_i e
    exact ⟨e.1, e.2, h⟩
  · cases h
theorem clAt_in {cs : List (List Int)} {r : Int} (h0 : 0 ≤ r) (h1 : r < cs.length) : ∃ c, clAt cs r = some c := by
  unfold clAt
  rw [if_pos ⟨h0, h1⟩]
  exact ⟨_, List.getElem?_eq_getElem (by omega)⟩
theorem Cs.at {H : Hp} {a : Addr} {qs : List Addr} {cs : List (List Int)} (h : Cs H a qs cs) {r : Int} {c : List Int} (hc : clAt cs r = some c) : ∃ q, atI (qs.map V.ref) r = some (.ref q) ∧ H q = some (.tup (c.map V.int)) := by
  obtain ⟨h0, h1, h2⟩ := clAt_some hc
  have hn := h.n
  have l : r.toNat < qs.length := by omega
  refine ⟨qs[r.toNat], at_of (j := r.toNat) (by omega) ?_, h.t _ _ _ (List.getElem?_eq_getElem l) h2⟩
  rw [List.getElem?_map, List.getElem?_eq_getElem l]
  rfl
theorem len_zero (l : List Int) : decide (V.int ((l.map V.int).length : Nat) = V.int 0) = l.isEmpty := by
  cases l with
  | nil => rfl
  | cons y r =>
    refine decide_eq_false fun z => ?_
    have z2 := V.int.inj z
    rw [List.length_map, List.length_cons] at z2
    omega
theorem drop_at {α : Type} {xs : List α} {i : Nat} {x : α} (h : xs[i]? = some x) : xs.drop i = x :: xs.drop (i + 1) := by
  obtain ⟨l, e⟩ := List.getElem?_eq_some_iff.mp h
  rw [List.drop_eq_getElem_cons l, e]
theorem int_at {rs : List Int} {i : Nat} {x : V} (h : (rs.map V.int)[i]? = some x) : ∃ r, x = .int r ∧ rs[i]? = some r := by
  rw [List.getElem?_map] at h
  cases e : rs[i]? with
  | none =>
    rw [e] at h
    cases h
  | some r =>
    rw [e] at h
    exact ⟨r, (Option.some.inj h).symm, rfl⟩

/-! ### small things -/
theorem pick_int {zs : List Int} {i : Nat} {v : V} (h : (zs.map V.int)[i]? = some v) : ∃ z, v = .int z ∧ z ∈ zs := by
  obtain ⟨r, e, hr⟩ := int_at h
  exact ⟨r, e, List.mem_of_getElem? hr⟩
theorem seq_in {n : Nat} {i : Int} (h0 : 0 ≤ i) (h1 : i < n) : seqIndex? i n = some i.toNat := by
  have e : ixN n i = some i.toNat := by
    unfold ixN
    rw [if_pos h0, if_pos h1]
  exact (ixN_seq e).1
theorem pow8000 {x : Int} (h : x ≤ 1000000) : x < 2 ^ 8000 := Int.lt_of_le_of_lt h (by decide +kernel)
theorem Tape.sq {H : Hp} {t c p : Addr} {n : Nat} {xs : List V} (h : Tape H t c n) (e : H p = some (.lst xs)) {H' : Hp} (k : Kp t H H') : H' p = some (.lst xs) := k p _ e (by
  obtain ⟨ns, spot, left, tc, _⟩ := h
  exact ne_of e tc.d (by intro z; cases z))
theorem Tape.ne_lst' {H : Hp} {t c p : Addr} {n : Nat} {xs : List V} (h : Tape H t c n) (e : H p = some (.lst xs)) : p ≠ t := by
  obtain ⟨ns, spot, left, tc, _⟩ := h
  exact ne_of e tc.d (by intro z; cases z)
theorem getElem_snoc {α : Type} {xs : List α} {x y : α} {i : Nat} (h : (xs ++ [x])[i]? = some y) : (i < xs.length ∧ xs[i]? = some y) ∨ (i = xs.length ∧ x = y) := by
  by_cases c : i < xs.length
  · rw [List.getElem?_append_left c] at h
    exact .inl ⟨c, h⟩
  · rw [List.getElem?_append_right (by omega)] at h
    have l := (List.getElem?_eq_some_iff.mp h).1
    simp only [List.length_cons, List.length_nil] at l
    have e : i - xs.length = 0 := by omega
    rw [e] at h
    exact .inr ⟨by omega, Option.some.inj h⟩
theorem same_mut {H H' : Hp} {D : Addr} {o : HO} (s : Same H H') (h : H D = none) : Same H (upd H' D o) := fun b u e => by
  rw [upd_ne (ne_of_none e h)]
  exact s b u e
theorem take_snoc {xs : List Int} {i : Nat} {x : Int} (h : xs[i]? = some x) : xs.take (i + 1) = xs.take i ++ [x] := by
  rw [List.take_add_one, h]
  rfl

/-! ### what the data are -/
theorem lay_ints : ∀ l : List Int, PyData.canLayAll0 (l.map PyData.int) = true
  | [] => rfl
  | x :: r => by
    rw [List.map_cons, PyData.canLayAll0, lay_ints r]
    rfl
theorem dep_ints : ∀ l : List Int, PyData.depthAll (l.map PyData.int) ≤ 0
  | [] => Nat.le_refl _
  | x :: r => by
    rw [List.map_cons, PyData.depthAll]
    exact Nat.max_le.mpr ⟨Nat.le_refl _, dep_ints r⟩
def tupD (c : List Int) : PyData := .tuple (c.map PyData.int)
def lstD (c : List Int) : PyData := .list (c.map PyData.int)
theorem lay_tup (c : List Int) : (tupD c).canLay0 = true := by
  unfold tupD
  rw [PyData.canLay0]
  exact lay_ints c
theorem lay_lst (c : List Int) : (lstD c).canLay0 = true := by
  unfold lstD
  rw [PyData.canLay0]
  exact lay_ints c
theorem dep_tup (c : List Int) : (tupD c).depth ≤ 1 := by
  unfold tupD
  rw [PyData.depth]
  exact Nat.succ_le_succ (dep_ints c)
theorem dep_lst (c : List Int) : (lstD c).depth ≤ 1 := by
  unfold lstD
  rw [PyData.depth]
  exact Nat.succ_le_succ (dep_ints c)
theorem lay_tups : ∀ cs : List (List Int), PyData.canLayAll0 (cs.map tupD) = true
  | [] => rfl
  | x :: r => by
    rw [List.map_cons, PyData.canLayAll0, lay_tups r, lay_tup]
    rfl
theorem dep_tups : ∀ cs : List (List Int), PyData.depthAll (cs.map tupD) ≤ 1
  | [] => Nat.zero_le _
  | x :: r => by
    rw [List.map_cons, PyData.depthAll]
    exact Nat.max_le.mpr ⟨dep_tup x, dep_tups r⟩
section
variable {K : PySem.W.Frag} {H : Hp}
theorem dp_ints : ∀ l : List Int, DpAll K H (l.map V.int) (l.map PyData.int)
  | [] => .nil
  | x :: r => .cons (.int x) (dp_ints r)
theorem dp_lst {a : Addr} {l : List Int} (h : H a = some (.lst (l.map V.int))) : Dp K H (.ref a) (lstD l) := .lst (SqL.of h) (dp_ints l)
theorem dp_tups : ∀ {qs : List Addr} {cs : List (List Int)}, qs.length = cs.length → (∀ (i : Nat) q c, qs[i]? = some q → cs[i]? = some c → H q = some (.tup (c.map V.int))) → DpAll K H (qs.map V.ref) (cs.map tupD)
  | [], [], _, _ => .nil
  | [], _ :: _, n, _ => absurd n (by simp)
  | _ :: _, [], n, _ => absurd n (by simp)
  | q :: qs, c :: cs, n, t => .cons (.tup (SqT.of (t 0 q c rfl rfl)) (dp_ints c)) (dp_tups (Nat.succ.inj n) fun i q c hq hc => t (i + 1) q c hq hc)
end
theorem shape_lst (l : List Int) : SeqAt.shaped (lstD l) = true := by
  unfold SeqAt.shaped
  rw [lay_lst, decide_eq_true (Nat.le_trans (dep_lst l) (by decide))]
  rfl

/-! ### promises that hold where nothing is being shown -/
structure FnG (P : Program) (w : World) (K : PySem.W.Frag) (mg : Str → Option Value) (base : Heap) (k : Nat) (f : Addr) (fd : FuncData) (ps : List Str) (sp : Sp) : Prop where
  len : ∀ vs H Q E, sp vs H Q E → vs.length = ps.length
  run : ∀ (A : Around) (out : List Env) (s : Shared) (H : Hp) (us : List Value) (vs : List V) (Q : VK) (E : XK), Room k A → A.guards = some [] → Env0 P w K mg base A out s H → BindsTo s fd ⟨us, []⟩ (ps.zip us) → Vals vs us → sp vs H Q E →
    codeAny (model P w) A (.call (.ref f) ⟨us, []⟩) (CR CX0 out P w H s Q E) s
structure HasG (P : Program) (w : World) (K : PySem.W.Frag) (mg : Str → Option Value) (base : Heap) (k : Nat) (x : Str) (ps : List Str) (sp : Sp) : Prop where
  ex : ∃ f fd, mg x = some (.ref f) ∧ PySem.W.keepIn K (.ref f) = true ∧ Binds K fd ps [] ∧ FnG P w K mg base k f fd ps sp
section
variable {P : Program} {w : World} {K : PySem.W.Frag} {mg : Str → Option Value} {base : Heap}
theorem fnG {x qual : Str} {st : Stmt} {f : Addr} {fd : FuncData} {N ps : List Str} {k : Nat} {sp : Sp} (F : Fun K x qual st f fd) (S : FnScope N ps (defScope st)) (len : ∀ vs H Q E, sp vs H Q E → vs.length = ps.length)
    (body : ∀ (cdv : Value) (A : Around) (out : List Env) (s : Shared) (H : Hp) (vs : List V) (Q : VK) (E : XK), Room k (A.deeper (envOfC qual (defScope st) s.heap.objs.size f cdv)) → (A.deeper (envOfC qual (defScope st) s.heap.objs.size f cdv)).guards = some [] → sp vs H Q E →
      ∃ t, PSs (cxOf CX0 P w K mg base N qual (defScope st) f cdv A out s H E).nox (defBody st) t ∧ t { nx := fun _ H' => Q .non H', rt := Q } (start N vs) H) : FnG P w K mg base (k + 1) f fd ps sp := by
  obtain ⟨oc, od, kV, doc, pm, an, cdv, ct, osl, rfl, lk, hcd⟩ := F.ex
  refine ⟨len, fun A out s H us vs Q E room calm e0 hb r hsp => ?_⟩
  have few := len _ _ _ _ hsp
  have kin : K.In s.heap := e0.mod.kin.keeps fun b o z => (e0.bs b o z).1
  have lim : s.heap.NoLimit := e0.mod.nolimit.keeps fun b o z => (e0.bs b o z).1
  have kinds : ∀ z ∈ ps.zip us, (defScope st).names.lookup z.1 = some .local ∨ ((defScope st).names.lookup z.1 = some .cell ∧ ((cellsFrom (s.heap.objs.size + 1) (defScope st).names []).lookup z.1).isSome = true) := by
    rintro ⟨n, v⟩ hz
    rcases S.par n (List.of_mem_zip hz).1 with z | z
    · exact .inl z
    · exact .inr ⟨z, PySem.W.cellsFrom_some _ _ _ (.inl z)⟩
  refine codeAny_call_function room.depth (kin _ _ lk) rfl S.co S.gen rfl (PySem.W.codeRec_of kin hcd) (hb _ _ _ _ ?_)
  refine wpAny_newFunctionEnv_cells S.kind kinds fun env he s1 z => ?_
  subst he
  refine ⟨lim.keeps z.toInCall.keep, codeAny_func ?_⟩
  obtain ⟨t, ht, hq⟩ := body cdv A out s H vs Q E (room.deeper _) calm hsp
  have I : Inv (cxOf CX0 P w K mg base N qual (defScope st) f cdv A out s H E) [] (start N vs) H s1 := inv_start S room.hd e0 few r z
  refine wpAny_mono (ht.nox.run [] s1 (start N vs) H _ I hq) (fun fl s2 hs => ?_) fun e s2 hs => hs
  cases fl with
  | ret u =>
    obtain ⟨v, σ2, H2, J, rv, q⟩ := hs
    exact ⟨v, H2, J.os, J.bare, J.base, J.hok, rv, q⟩
  | next =>
    obtain ⟨σ2, H2, J, q⟩ := hs
    exact ⟨.non, H2, J.os, J.bare, J.base, J.hok, rfl, q⟩
  | brk =>
    obtain ⟨_, _, _, q⟩ := hs
    exact q.elim
  | cont =>
    obtain ⟨_, _, _, q⟩ := hs
    exact q.elim
theorem has_ofG {x : Str} {st : Stmt} {N ps : List Str} {k : Nat} {sp : Sp} (A : At K mg x st) (S : FnScope N ps (defScope st)) (B : BindsAll x st ps) (len : ∀ vs H Q E, sp vs H Q E → vs.length = ps.length)
    (body : ∀ (f : Addr) (cdv : Value) (A : Around) (out : List Env) (s : Shared) (H : Hp) (vs : List V) (Q : VK) (E : XK), Room k (A.deeper (envOfC x (defScope st) s.heap.objs.size f cdv)) → (A.deeper (envOfC x (defScope st) s.heap.objs.size f cdv)).guards = some [] → sp vs H Q E →
      ∃ t, PSs (cxOf CX0 P w K mg base N x (defScope st) f cdv A out s H E).nox (defBody st) t ∧ t { nx := fun _ H' => Q .non H', rt := Q } (start N vs) H) : HasG P w K mg base (k + 1) x ps sp := by
  obtain ⟨f, fd, hm, F⟩ := A.ex
  exact ⟨f, fd, hm, F.kp, F.binds B, fnG F S len fun cdv A out s H vs Q E hr hg h => body f cdv A out s H vs Q E hr hg h⟩
theorem FnG.at_ {f : Addr} {fd : FuncData} {ps : List Str} {k : Nat} {sp : Sp} (G : FnG P w K mg base k f fd ps sp) (room : Room k callerA) : RunAt P w K mg base f fd ps sp :=
  fun s H us vs Q E e0 hb r hsp => G.run callerA [] s H us vs Q E room rfl e0 hb r hsp
end
section
variable {X : Cx} {k : Nat} {x : Str} {ps : List Str} {sp : Sp} {e : Expr} {es : List Expr} {t : TA} {p pos : Pos}
theorem pe_hasG (h : HasG X.prog X.w X.K X.mg X.base k x ps sp) (hr : Room k X.A) (hgd : X.A.guards = some []) (hg : Gl X x) (ha : PA X (e :: es) t)
    (hdb : (x == ("__debug__" : Str)) = false := by decide) (he : starEach (e :: es) X.env = (false, eval e X.env) :: starEach es X.env := by rfl) (hpl : (backTo pos (starEach es X.env)).any (·.1) = false := by rfl) :
    PE X (.Call (.Name x p) (e :: es) [] pos) (tCall sp [] E0 t) := by
  obtain ⟨f, fd, hm, hk, hb, F⟩ := h.ex
  refine ⟨fun pins s σ H Q I hw => ?_⟩
  refine wpAny_Call_Name_kw (ld_glob I hg hm ?_ hdb)
  refine PySem.W.callWith_K (h₀ := X.base) I.ok.mod.kin hk (thn (ha.run pos pins s σ H _ I hw) fun us s1 ⟨vs, H1, I1, r1, q⟩ => ⟨I1.kIn, ?_⟩) he hpl
  have q : sp vs H1 Q E0 := by
    have z : sp (vs ++ []) H1 Q E0 := q
    rwa [List.append_nil] at z
  have bd := hb s1 us I1.kIn (by rw [List.append_nil, ← r1.length]; exact F.len _ _ _ _ q)
  rw [List.append_nil] at bd
  refine wpAny_call (codeAny_mono (F.run X.A X.stack s1 H1 us vs Q E0 hr hgd I1.env0 bd r1 q) fun r s2 hq => ?_)
  cases r with
  | error e => exact pass0 pins σ H1 s1 e s2 I1 hq
  | ok fl =>
    cases fl with
    | ret u => exact I1.after hq
    | next => exact hq.elim
    | brk => exact hq.elim
    | cont => exact hq.elim
end
/-! ### repr of None, of a whole number, of a list -/
structure Showy (x : PyData) : Prop where
  s : x.showable = true
  n : x.hasDict = false
  d : x.depth ≤ 60
  l : x.shown.length ≤ sizeLine
theorem call_reprV {X : Cx} (hgd : X.A.guards = some []) (hu : X.A.units + 64 < cLine) : CallR X (.builtin "repr") (fun xs H Q => (xs = [.non] ∧ Q (.str "None") H) ∨ (∃ i, xs = [.int i] ∧ i.natAbs.log2 < 1920 ∧ Q (.str (toString i)) H) ∨
    ∃ a d, xs = [.ref a] ∧ Dp X.K H (.ref a) d ∧ Showy d ∧ Q (.str d.shown) H) := by
  intro pins s σ H xs us Q I r h
  rcases h with ⟨rfl, q⟩ | ⟨i, rfl, hi, q⟩ | ⟨a, d, rfl, hd, sh, q⟩
  · obtain ⟨u, rfl, ru⟩ := vals1 r
    cases ru
    exact PySem.P.repr_of_none ⟨.str "None", H, I.tok _, ⟨_, rfl⟩, q⟩
  · obtain ⟨u, rfl, t, rfl⟩ := vals1 r
    exact PySem.P.repr_of_int hi ⟨.str (toString i), H, I.tok _, ⟨_, rfl⟩, q⟩
  · obtain ⟨u, rfl, ru⟩ := vals1 r
    cases ru
    obtain ⟨as, rd⟩ := Dp.reads I d (.ref a) (.ref a) hd rfl
    have h3 := sh.d
    exact repr_of_reads' (s := s) rd sh.s (fun z => by rw [sh.n] at z; cases z) hgd (by omega) (fun _ _ z => z) (fun h2 u tk k => ⟨.str d.shown, H, I.kept (t' := tk) k, ⟨_, rfl⟩, q⟩) sh.l

/-! ### rules: a text a few times, a tuple a few times -/
theorem op_repTK {X : Cx} {K : PySem.W.Frag} (h : X.K = K) : OpR X (binaryOp .Mult) (rRepT K) := h ▸ op_repT
def repS (k : Int) (z : Str) : Str := ⟨(List.replicate k.toNat z.cps).foldl (· ++ ·) #[]⟩
theorem op_repS {X : Cx} : OpR X (binaryOp .Mult) (fun x y H Q => ∃ (z : Str) (k : Int), x = .str z ∧ y = .int k ∧ 2 ≤ k ∧ k ≤ 1000 ∧ 1 ≤ z.length ∧ z.length ≤ 1000 ∧ (repS k z).length ≤ sizeLine ∧ Q (.str (repS k z)) H) := by
  intro pins s σ H x y v u Q I rx ry h
  obtain ⟨z, k, rfl, rfl, h1, h2, h3, h4, h5, q⟩ := h
  obtain ⟨t, rfl⟩ := rx
  obtain ⟨t', rfl⟩ := ry
  have c1 : ¬ k < 1 := by omega
  have c2 : (k == 1 || z.length == 0) = false := by
    rw [Bool.or_eq_false_iff]
    exact ⟨by simp; omega, by simp; omega⟩
  refine PySem.P.mul_str ?_ (fun _ _ => ?_) (fun _ _ => ?_) ?_
  · rw [Bool.or_eq_false_iff]
    exact ⟨decide_eq_false (by omega), decide_eq_false (by omega)⟩
  · have e : (1000 : Int) ≤ (2 ^ 63 - 1) / k := (Int.le_ediv_iff_mul_le (by omega)).mpr (by omega)
    omega
  · have e : z.length * k.toNat ≤ 1000 * 1000 := Nat.mul_le_mul h4 (by omega)
    have e2 : sizeLine = 16777216 := sizeLine_eq
    show decide (_ > sizeLine) = false
    refine decide_eq_false ?_
    omega
  · rw [if_neg c1, if_neg (by rw [c2]; exact Bool.false_ne_true)]
    exact ⟨h5, .str (repS k z), H, I.tok _, ⟨_, rfl⟩, q⟩
/-- a def whose promise can't be asked -/
theorem has_zero {P : Program} {w : World} {K : PySem.W.Frag} {mg : Str → Option Value} {base : Heap} {x : Str} {st : Stmt} {ps : List Str} {sp : Sp} (A : At K mg x st) (B : BindsAll x st ps) (no : ∀ vs H Q E, ¬ sp vs H Q E) : Has P w K mg base 0 x ps sp := by
  obtain ⟨f, fd, hm, F⟩ := A.ex
  exact ⟨f, fd, hm, F.kp, F.binds B, fun vs H Q E h => absurd h (no _ _ _ _), fun A out s H args us vs Q E _ _ _ _ h => absurd h (no _ _ _ _)⟩
/-! ### data made of tuples: they stay whatever becomes of lists -/
mutual
inductive Tp (H : Hp) : V → PyData → Prop
  | non : Tp H .non .none
  | bl (b : Bool) : Tp H (.bl b) (.bool b)
  | int (i : Int) : Tp H (.int i) (.int i)
  | str (x : Str) : Tp H (.str x) (.str x)
  | tup {a : Addr} {xs : List V} {ds : List PyData} : H a = some (.tup xs) → TpAll H xs ds → Tp H (.ref a) (.tuple ds)
inductive TpAll (H : Hp) : List V → List PyData → Prop
  | nil : TpAll H [] []
  | cons {v : V} {vs : List V} {d : PyData} {ds : List PyData} : Tp H v d → TpAll H vs ds → TpAll H (v :: vs) (d :: ds)
end
/-- tuples stay -/
def KT (H H' : Hp) : Prop := ∀ a xs, H a = some (.tup xs) → H' a = some (.tup xs)
theorem KT.refl {H : Hp} : KT H H := fun _ _ h => h
theorem KT.trans {H H1 H2 : Hp} (a : KT H H1) (b : KT H1 H2) : KT H H2 := fun c xs h => b c xs (a c xs h)
theorem KT.same {H H' : Hp} (s : Same H H') : KT H H' := fun a xs h => s a _ h
theorem KT.kp {H H' : Hp} {t c : Addr} {n : Nat} (tp : Tape H t c n) (k : Kp t H H') : KT H H' := fun a xs h => by
  obtain ⟨ns', sp', lf', tc, _⟩ := tp
  exact k _ _ h (ne_of h tc.d (by intro z; cases z))
theorem KT.lst {H : Hp} {D : Addr} {xs : List V} {o : HO} (h : H D = some (.lst xs)) : KT H (upd H D o) := fun a ys e => by
  rw [upd_ne (ne_of e h (by intro z; cases z))]
  exact e
theorem KT.new {H : Hp} {p : Addr} {o : HO} (h : H p = none) : KT H (upd H p o) := KT.same (same_new h)
mutual
theorem Tp.kt {H H' : Hp} (s : KT H H') : ∀ {v : V} {d : PyData}, Tp H v d → Tp H' v d
  | _, _, .non => .non
  | _, _, .bl b => .bl b
  | _, _, .int i => .int i
  | _, _, .str x => .str x
  | _, _, .tup h r => .tup (s _ _ h) (TpAll.kt s r)
theorem TpAll.kt {H H' : Hp} (s : KT H H') : ∀ {vs : List V} {ds : List PyData}, TpAll H vs ds → TpAll H' vs ds
  | _, _, .nil => .nil
  | _, _, .cons h r => .cons (Tp.kt s h) (TpAll.kt s r)
end
mutual
theorem Tp.dp {K : PySem.W.Frag} {H : Hp} : ∀ {v : V} {d : PyData}, Tp H v d → Dp K H v d
  | _, _, .non => .non
  | _, _, .bl b => .bl b
  | _, _, .int i => .int i
  | _, _, .str x => .str x
  | _, _, .tup h r => .tup (SqT.of h) (TpAll.dp r)
theorem TpAll.dp {K : PySem.W.Frag} {H : Hp} : ∀ {vs : List V} {ds : List PyData}, TpAll H vs ds → DpAll K H vs ds
  | _, _, .nil => .nil
  | _, _, .cons h r => .cons (Tp.dp h) (TpAll.dp r)
end
theorem TpAll.snoc {H : Hp} {v : V} {d : PyData} : ∀ {vs : List V} {ds : List PyData}, TpAll H vs ds → Tp H v d → TpAll H (vs ++ [v]) (ds ++ [d])
  | _, _, .nil, h => .cons h .nil
  | _, _, .cons a r, h => .cons a (r.snoc h)
theorem TpAll.app {H : Hp} {ws : List V} {es : List PyData} : ∀ {vs : List V} {ds : List PyData}, TpAll H vs ds → TpAll H ws es → TpAll H (vs ++ ws) (ds ++ es)
  | _, _, .nil, h => h
  | _, _, .cons a r, h => .cons a (r.app h)
theorem TpAll.len {H : Hp} : ∀ {vs : List V} {ds : List PyData}, TpAll H vs ds → vs.length = ds.length
  | _, _, .nil => rfl
  | _, _, .cons _ r => by rw [List.length_cons, List.length_cons, r.len]
theorem TpAll.get {H : Hp} : ∀ {vs : List V} {ds : List PyData} {i : Nat} {d : PyData}, TpAll H vs ds → ds[i]? = some d → ∃ v, vs[i]? = some v ∧ Tp H v d
  | _, _, _, _, .nil, e => by cases e
  | _, _, 0, _, .cons a _, e => ⟨_, rfl, by cases e; exact a⟩
  | _, _, i + 1, _, .cons _ r, e => r.get e
theorem tp_rep {H : Hp} {v : V} {d : PyData} (h : Tp H v d) : ∀ n, TpAll H (List.replicate n v) (List.replicate n d)
  | 0 => .nil
  | n + 1 => .cons h (tp_rep h n)
theorem Tp.new {H : Hp} {p : Addr} {xs : List V} {ds : List PyData} (n : H p = none) (r : TpAll H xs ds) : Tp (upd H p (.tup xs)) (.ref p) (.tuple ds) := .tup upd_same (r.kt (KT.new n))
theorem flat_one {v : V} : ∀ n : Nat, (List.replicate n [v]).flatten = List.replicate n v
  | 0 => rfl
  | n + 1 => by
    rw [List.replicate_succ, List.flatten_cons, flat_one n]
    rfl
/-! ### a comprehension over a range, whose items are new -/
section
variable {K : PySem.W.Frag} {tt : TT} {te : TE} {vs : List Nat} {σ : L2.St} {H : Hp} {D : Addr} {Qd : Hp → Prop} {j : Nat}
theorem lc_rangeC {lo c : Int} {n : Nat} {g : TG} (Pv : Nat → Hp → Prop) (h0 : Pv 0 (upd H D (.lst [])))
    (hs : ∀ i H, i < n → Pv i H → g (.int (lo + (i : Nat) * c)) (wipe σ vs) H fun σ2 H2 => wipe σ2 vs = wipe σ vs ∧ tt σ2 H2 fun b H3 =>
      if b = true then te σ2 H3 fun y H4 => ∃ acc, H4 D = some (.lst acc) ∧ acc.length < sizeLine ∧ Pv (i + 1) (upd H4 D (.lst (acc ++ [y]))) else Pv (i + 1) H3) (hd : ∀ H, Pv n H → Qd H) :
    ∃ W : Nat → Nat → Hp → Prop, (∃ m, W 0 m (upd H D (.lst []))) ∧ ∀ i m H, W i m H →
      ((Itc lo c n).stop i H ∧ Qd H) ∨ ((Itc lo c n).go i H ∧ ∃ Nx : Hp → Prop, (∀ H', Nx H' → ∃ m', m' < m ∧ W (i + 1) m' H') ∧ ∀ x H', (Itc lo c n).yld i H x H' → g x (wipe σ vs) H' fun σ2 H2 => wipe σ2 vs = wipe σ vs ∧ tt σ2 H2 fun b H3 =>
        if b = true then te σ2 H3 fun y H4 => ∃ acc, H4 D = some (.lst acc) ∧ acc.length < sizeLine ∧ Nx (upd H4 D (.lst (acc ++ [y]))) else Nx H3) := by
  refine ⟨fun i m H => m = n - i ∧ i ≤ n ∧ Pv i H, ⟨n, by simp, Nat.zero_le _, h0⟩, ?_⟩
  rintro i m H ⟨rfl, hi, p⟩
  by_cases hlt : i < n
  · refine .inr ⟨hlt, Pv (i + 1), fun H' p' => ⟨n - (i + 1), by omega, rfl, hlt, p'⟩, fun x H' y => ?_⟩
    obtain ⟨rfl, rfl⟩ := y
    exact hs i H' hlt p
  · have e : i = n := by omega
    subst e
    exact .inl ⟨Nat.le_refl _, hd H p⟩
/-- what stands at a turn: so many items that are data -/
structure TpT (H H' : Hp) (D : Addr) (ds : List PyData) : Prop where
  s : Same H H'
  ex : ∃ xs, H' D = some (.lst xs) ∧ TpAll H' xs ds
theorem TpT.new (hD : H D = none) : TpT H (upd H D (.lst [])) D [] := ⟨same_new hD, [], upd_same, .nil⟩
/-- an item more -/
theorem TpT.put {H1 H2 : Hp} {y : V} {d : PyData} {ds : List PyData} (hD : H D = none) (p : TpT H H1 D ds) (s : Same H1 H2) (small : ds.length < sizeLine) (hy : Tp H2 y d) :
    ∃ acc, H2 D = some (.lst acc) ∧ acc.length < sizeLine ∧ TpT H (upd H2 D (.lst (acc ++ [y]))) D (ds ++ [d]) := by
  obtain ⟨xs, e, r⟩ := p.ex
  have e2 := s _ _ e
  refine ⟨xs, e2, by rw [r.len]; exact small, same_mut (p.s.trans s) hD, _, upd_same, ?_⟩
  exact ((r.kt (KT.same s)).snoc hy).kt (KT.lst e2)
end

/-! ### how many choices of counts, as plain functions -/
def sm (f : Int → Int) : Nat → Int
  | 0 => 0
  | n + 1 => sm f n + f n
theorem sm_congr {f g : Int → Int} : ∀ n : Nat, (∀ i : Int, 0 ≤ i → i < n → f i = g i) → sm f n = sm g n
  | 0, _ => rfl
  | n + 1, h => by
    show sm f n + f n = sm g n + g n
    rw [sm_congr n fun i a b => h i a (by omega), h n (by omega) (by omega)]
theorem sm_nil : ∀ (n : Nat) (f : Int → Int), (∀ i : Int, 0 ≤ i → i < n → f i = 0) → sm f n = 0
  | 0, _, _ => rfl
  | n + 1, f, h => by
    show sm f n + f n = 0
    rw [sm_nil n f fun i a b => h i a (by omega), h n (by omega) (by omega)]
    rfl
theorem sm_add (f g : Int → Int) : ∀ n : Nat, sm (fun i => f i + g i) n = sm f n + sm g n
  | 0 => rfl
  | n + 1 => by
    show sm (fun i => f i + g i) n + (f n + g n) = (sm f n + f n) + (sm g n + g n)
    rw [sm_add f g n]
    omega
theorem sm_swap (G : Int → Int → Int) (m : Nat) : ∀ n : Nat, sm (fun i => sm (fun j => G i j) m) n = sm (fun j => sm (fun i => G i j) n) m
  | 0 => (sm_nil m _ fun _ _ _ => rfl).symm
  | n + 1 => by
    show sm (fun i => sm (fun j => G i j) m) n + sm (fun j => G n j) m = sm (fun j => sm (fun i => G i j) n + G n j) m
    rw [sm_swap G m n, sm_add]
theorem sm_first (f : Int → Int) : ∀ n : Nat, sm f (n + 1) = f 0 + sm (fun k => f (k + 1)) n
  | 0 => by
    show 0 + f (0 : Nat) = f 0 + 0
    rw [Int.zero_add, Int.add_zero]
    rfl
  | n + 1 => by
    show sm f (n + 1) + f ((n + 1 : Nat) : Int) = f 0 + (sm (fun k => f (k + 1)) n + f ((n : Int) + 1))
    rw [sm_first f n, show ((n + 1 : Nat) : Int) = (n : Int) + 1 from rfl]
    omega
theorem sm_split (f : Int → Int) (n : Nat) : ∀ m : Nat, sm f (n + m) = sm f n + sm (fun k => f (n + k)) m
  | 0 => by
    show sm f n = sm f n + 0
    omega
  | m + 1 => by
    show sm f (n + m) + f ((n + m : Nat) : Int) = sm f n + (sm (fun k => f (n + k)) m + f ((n : Int) + (m : Nat)))
    rw [sm_split f n m, show ((n + m : Nat) : Int) = (n : Int) + (m : Int) from Int.natCast_add n m]
    omega
theorem sm_back (f : Int → Int) : ∀ n : Nat, sm f n = sm (fun k => f (n - 1 - k)) n
  | 0 => rfl
  | n + 1 => by
    rw [sm_first (fun k => f (((n + 1 : Nat) : Int) - 1 - k)) n]
    show sm f n + f n = f (((n + 1 : Nat) : Int) - 1 - 0) + sm (fun k => f (((n + 1 : Nat) : Int) - 1 - (k + 1))) n
    rw [sm_back f n, show ((n + 1 : Nat) : Int) - 1 - 0 = n by omega, sm_congr n (f := fun k => f (((n + 1 : Nat) : Int) - 1 - (k + 1))) (g := fun k => f (n - 1 - k)) fun i _ _ => congrArg f (by omega)]
    omega
def wstep (l : Nat) (F : Int → Int) (t : Int) : Int := sm (fun k => F (t - k)) (l + 1)
def w0 (t : Int) : Int := if t = 0 then 1 else 0
def wFrom (F : Int → Int) (ls : List Int) : Int → Int := ls.foldl (fun F l => wstep l.toNat F) F
def wAll (ls : List Int) : Int → Int := wFrom w0 ls
theorem wAll_snoc (xs : List Int) (x : Int) : wAll (xs ++ [x]) = wstep x.toNat (wAll xs) := by
  unfold wAll wFrom
  rw [List.foldl_append]
  rfl
theorem wstep_comm (a b : Nat) (F : Int → Int) : wstep a (wstep b F) = wstep b (wstep a F) := by
  funext t
  show sm (fun i => sm (fun j => F (t - i - j)) (b + 1)) (a + 1) = sm (fun j => sm (fun i => F (t - j - i)) (a + 1)) (b + 1)
  rw [sm_swap]
  exact sm_congr _ fun j _ _ => sm_congr _ fun i _ _ => congrArg F (by omega)
theorem wFrom_in : ∀ (ls : List Int) (a : Nat) (F : Int → Int), wFrom (wstep a F) ls = wstep a (wFrom F ls)
  | [], _, _ => rfl
  | l :: r, a, F => by
    show wFrom (wstep l.toNat (wstep a F)) r = wstep a (wFrom (wstep l.toNat F) r)
    rw [wstep_comm, wFrom_in r a]
theorem wFrom_append (F : Int → Int) (a b : List Int) : wFrom F (a ++ b) = wFrom (wFrom F a) b := List.foldl_append
theorem wAll_reverse : ∀ ls : List Int, wAll ls.reverse = wAll ls
  | [] => rfl
  | l :: r => by
    rw [List.reverse_cons, wAll_snoc, wAll_reverse r]
    exact (wFrom_in r l.toNat w0).symm
/-- it is 0 below 0 and above S, and the same from both ends -/
structure Tall (F : Int → Int) (S : Int) : Prop where
  lo : ∀ t, t < 0 → F t = 0
  hi : ∀ t, S < t → F t = 0
  sy : ∀ t, F (S - t) = F t
theorem tall0 : Tall w0 0 := by
  refine ⟨fun t h => if_neg (by omega), fun t h => if_neg (by omega), fun t => ?_⟩
  unfold w0
  by_cases e : t = 0
  · rw [if_pos e, if_pos (by omega)]
  · rw [if_neg e, if_neg (by omega)]
theorem tall_step {F : Int → Int} {S : Int} (h : Tall F S) (l : Nat) : Tall (wstep l F) (S + l) := by
  refine ⟨fun t ht => sm_nil _ _ fun i a b => h.lo _ (by omega), fun t ht => sm_nil _ _ fun i a b => h.hi _ (by omega), fun t => ?_⟩
  show sm (fun k => F (S + l - t - k)) (l + 1) = sm (fun k => F (t - k)) (l + 1)
  rw [sm_back (fun k => F (t - k))]
  refine sm_congr _ fun i a b => ?_
  show F (S + l - t - i) = F (t - (((l + 1 : Nat) : Int) - 1 - i))
  rw [← h.sy]
  exact congrArg F (by omega)
theorem tall_from : ∀ (ls : List Int) (F : Int → Int) (S : Int), Tall F S → (∀ l ∈ ls, 0 ≤ l) → Tall (wFrom F ls) (S + ls.sum)
  | [], F, S, h, _ => by
    rw [List.sum_nil, Int.add_zero]
    exact h
  | l :: r, F, S, h, p => by
    rw [List.sum_cons]
    have hl := p l List.mem_cons_self
    have e : S + (l + r.sum) = S + (l.toNat : Int) + r.sum := by omega
    rw [e]
    exact tall_from r _ _ (tall_step h l.toNat) fun x hx => p x (List.mem_cons_of_mem _ hx)
theorem tall_all (ls : List Int) (p : ∀ l ∈ ls, 0 ≤ l) : Tall (wAll ls) ls.sum := by
  have h := tall_from ls w0 0 tall0 p
  rw [Int.zero_add] at h
  exact h
theorem wstep_next (l : Nat) (F : Int → Int) (t : Int) : wstep l F t = wstep l F (t - 1) + F t - F (t - 1 - l) := by
  have e : wstep l F t = F t + sm (fun k => F (t - 1 - k)) l := by
    show sm (fun k => F (t - k)) (l + 1) = _
    rw [sm_first (fun k => F (t - k)) l]
    show F (t - 0) + sm (fun k => F (t - (k + 1))) l = _
    rw [Int.sub_zero, sm_congr l (f := fun k => F (t - (k + 1))) (g := fun k => F (t - 1 - k)) fun i _ _ => congrArg F (by omega)]
  rw [e]
  show F t + sm (fun k => F (t - 1 - k)) l = (sm (fun k => F (t - 1 - k)) l + F (t - 1 - l)) + F t - F (t - 1 - l)
  omega
/-- the table of the first n -/
def tab (F : Int → Int) (n : Nat) : List Int := (List.range n).map fun i : Nat => F (i : Int)
theorem tab_len (F : Int → Int) (n : Nat) : (tab F n).length = n := by
  unfold tab
  rw [List.length_map, List.length_range]
theorem tab_at {F : Int → Int} {n i : Nat} (h : i < n) : (tab F n)[i]? = some (F (i : Int)) := by
  unfold tab
  rw [List.getElem?_map, List.getElem?_range h]
  rfl
theorem tab_snoc (F : Int → Int) (n : Nat) : tab F (n + 1) = tab F n ++ [F (n : Int)] := by
  unfold tab
  rw [List.range_succ, List.map_append]
  rfl
theorem tab_cut (F : Int → Int) (n a : Nat) : ∀ k : Nat, a + k ≤ n → (((tab F n).drop a).take k).sum = sm (fun j => F (a + j)) k
  | 0, _ => by
    rw [List.take_zero]
    rfl
  | k + 1, h => by
    rw [List.take_add_one, List.sum_append, tab_cut F n a k (by omega), List.getElem?_drop, tab_at (by omega)]
    show sm (fun j => F (a + j)) k + ([F ((a + k : Nat) : Int)] : List Int).sum = sm (fun j => F (a + j)) k + F (a + (k : Nat))
    rw [List.sum_cons, List.sum_nil, Int.add_zero, Int.natCast_add]
/-- a sum of a slice is a step -/
theorem cut_step {F : Int → Int} {S : Int} (h : Tall F S) {n t l : Nat} (ht : t < n) : (((tab F n).drop (t - l)).take (t + 1 - (t - l))).sum = wstep l F t := by
  rw [tab_cut F n _ _ (by omega)]
  show _ = sm (fun k => F ((t : Int) - k)) (l + 1)
  by_cases c : l ≤ t
  · rw [show t + 1 - (t - l) = l + 1 by omega, sm_back (fun k => F ((t : Int) - k))]
    exact sm_congr _ fun i a b => congrArg F (by omega)
  · rw [show t - l = 0 by omega, show l + 1 = (t + 1) + (l - t) by omega, sm_split, sm_nil (l - t) (fun k => F ((t : Int) - (((t + 1 : Nat) : Int) + k))) fun i a b => h.lo _ (by omega), Int.add_zero, sm_back (fun k => F ((t : Int) - k))]
    exact sm_congr _ fun i a b => congrArg F (by omega)
theorem tab_w0 (n : Nat) : tab w0 (n + 1) = 1 :: List.replicate n 0 := by
  induction n with
  | zero => rfl
  | succ n ih =>
    rw [tab_snoc, ih, List.replicate_succ', List.cons_append]
    have e : w0 ((n + 1 : Nat) : Int) = 0 := if_neg (by omega)
    rw [e]

/-! ### choices of counts, in order: plain functions -/
theorem rev_ind2 {α : Type} {P : List α → Prop} (h0 : P []) (hs : ∀ xs x, P xs → P (xs ++ [x])) (l : List α) : P l := by
  have h : ∀ n (l : List α), l.length = n → P l := by
    intro n
    induction n with
    | zero =>
      intro l e
      rw [List.length_eq_zero_iff.mp e]
      exact h0
    | succ n ih =>
      intro l e
      have ne : l ≠ [] := fun z => by
        rw [z] at e
        cases e
      rw [← List.dropLast_concat_getLast ne]
      exact hs _ _ (ih _ (by rw [List.length_dropLast]; omega))
  exact h _ l rfl
abbrev Pre := List Int × Int
def rgI (lo hi : Int) : List Int := (List.range (hi - lo).toNat).map fun (i : Nat) => lo + (i : Int)
def mx0 (x : Int) : Int := if 0 < x then x else 0
def mn2 (l x : Int) : Int := if x < l then x else l
def ext (p : Pre) (c : Int) : Pre := (p.1 ++ [c], p.2 - c)
def pItem (b l : Int) (p : Pre) : List Pre := (rgI (mx0 (p.2 - b)) (mn2 l p.2 + 1)).map (ext p)
def lItem (l : Int) (p : Pre) : List Pre := (rgI 0 (mn2 l p.2 + 1)).map (ext p)
def pStep (b l : Int) (bs : List Pre) : List Pre := (bs.map (pItem b l)).flatten
def lStep (l : Int) (bs : List Pre) : List Pre := (bs.map (lItem l)).flatten
def lAll (ls : List Int) (t : Int) : List Pre := ls.foldl (fun bs l => lStep l bs) [([], t)]
theorem lAll_snoc (ls : List Int) (l t : Int) : lAll (ls ++ [l]) t = lStep l (lAll ls t) := List.foldl_append
def due (ls : List Int) (t : Int) : List (List Int) := ((lAll ls t).filter fun p => decide (p.2 = 0)).map (·.1)
theorem mem_rg {lo hi c : Int} : c ∈ rgI lo hi ↔ lo ≤ c ∧ c < hi := by
  unfold rgI
  rw [List.mem_map]
  constructor
  · rintro ⟨i, hi', rfl⟩
    have := List.mem_range.mp hi'
    omega
  · rintro ⟨h1, h2⟩
    exact ⟨(c - lo).toNat, List.mem_range.mpr (by omega), by omega⟩
theorem rg_len (lo hi : Int) : (rgI lo hi).length = (hi - lo).toNat := by
  unfold rgI
  rw [List.length_map, List.length_range]
theorem rg_cons {lo hi : Int} (h : lo < hi) : rgI lo hi = lo :: rgI (lo + 1) hi := by
  unfold rgI
  rw [show (hi - lo).toNat = (hi - (lo + 1)).toNat + 1 by omega, List.range_succ_eq_map, List.map_cons, List.map_map]
  have e0 : lo + ((0 : Nat) : Int) = lo := by omega
  rw [e0]
  refine congrArg (List.cons lo) (List.map_congr_left fun i _ => ?_)
  show lo + ((i + 1 : Nat) : Int) = lo + 1 + (i : Int)
  omega
theorem rg_nil {lo hi : Int} (h : hi ≤ lo) : rgI lo hi = [] := by
  unfold rgI
  rw [show (hi - lo).toNat = 0 by omega]
  rfl
/-- those from d on -/
theorem rg_filter (d hi : Int) : ∀ (n : Nat) (lo : Int), (hi - lo).toNat = n → (rgI lo hi).filter (fun k => decide (d ≤ k)) = rgI (if lo < d then d else lo) hi
  | 0, lo, h => by
    rw [rg_nil (by omega), rg_nil (by split <;> omega)]
    rfl
  | n + 1, lo, h => by
    have h1 : lo < hi := by omega
    rw [rg_cons h1, List.filter_cons, rg_filter d hi n (lo + 1) (by omega)]
    by_cases c : d ≤ lo
    · rw [if_pos (decide_eq_true c), if_neg (by omega : ¬ lo + 1 < d), if_neg (by omega : ¬ lo < d), rg_cons h1]
    · rw [if_neg (by rw [decide_eq_false c]; exact Bool.false_ne_true), if_pos (by omega : lo < d)]
      by_cases c2 : lo + 1 < d
      · rw [if_pos c2]
      · rw [if_neg c2, show lo + 1 = d by omega]
/-- the program's step tells just those of the law's that can be led to an end -/
theorem item_filter {b l : Int} (hl : 0 ≤ l) (p : Pre) (hp : 0 ≤ p.2) : (lItem l p).filter (fun q => decide (q.2 ≤ b)) = if p.2 ≤ b + l then pItem b l p else [] := by
  unfold lItem pItem
  rw [List.filter_map]
  have e : ((fun q : Pre => decide (q.2 ≤ b)) ∘ ext p) = fun k => decide (p.2 - b ≤ k) := by
    funext k
    show decide (p.2 - k ≤ b) = decide (p.2 - b ≤ k)
    exact decide_eq_decide.mpr (by omega)
  rw [e, rg_filter _ _ _ 0 rfl]
  show (rgI (mx0 (p.2 - b)) (mn2 l p.2 + 1)).map (ext p) = _
  by_cases c : p.2 ≤ b + l
  · rw [if_pos c]
  · rw [if_neg c, rg_nil]
    · rfl
    · unfold mn2 mx0
      rw [if_pos (by omega : (0 : Int) < p.2 - b)]
      split <;> omega
theorem step_filter {b l : Int} (hl : 0 ≤ l) : ∀ bs : List Pre, (∀ p ∈ bs, 0 ≤ p.2) → (lStep l bs).filter (fun q => decide (q.2 ≤ b)) = pStep b l (bs.filter fun q => decide (q.2 ≤ b + l))
  | [], _ => rfl
  | p :: r, h => by
    have ih := step_filter (b := b) hl r fun q hq => h q (List.mem_cons_of_mem _ hq)
    unfold lStep pStep at ih ⊢
    rw [List.map_cons, List.flatten_cons, List.filter_append, item_filter hl p (h p List.mem_cons_self), ih, List.filter_cons]
    by_cases c : p.2 ≤ b + l
    · rw [if_pos c, if_pos (decide_eq_true c), List.map_cons, List.flatten_cons]
    · rw [if_neg c, if_neg (by rw [decide_eq_false c]; exact Bool.false_ne_true)]
      rfl
theorem all_left {t : Int} (ht : 0 ≤ t) : ∀ (ls : List Int), ∀ p ∈ lAll ls t, 0 ≤ p.2 := by
  intro ls
  refine rev_ind2 (P := fun ls => ∀ p ∈ lAll ls t, 0 ≤ p.2) (fun p hp => ?_) (fun xs x ih p hp => ?_) ls
  · have hp : p ∈ [(([], t) : Pre)] := hp
    rw [List.mem_singleton.mp hp]
    exact ht
  · rw [lAll_snoc] at hp
    unfold lStep at hp
    obtain ⟨q, hq, hpq⟩ := List.mem_flatten.mp hp
    obtain ⟨r, hr, rfl⟩ := List.mem_map.mp hq
    unfold lItem at hpq
    obtain ⟨c, hc, rfl⟩ := List.mem_map.mp hpq
    have hc := mem_rg.mp hc
    have hz := ih r hr
    show 0 ≤ r.2 - c
    unfold mn2 at hc
    split at hc <;> omega
theorem all_len (t : Int) : ∀ (ls : List Int), ∀ p ∈ lAll ls t, p.1.length = ls.length := by
  intro ls
  refine rev_ind2 (P := fun ls => ∀ p ∈ lAll ls t, p.1.length = ls.length) (fun p hp => ?_) (fun xs x ih p hp => ?_) ls
  · have hp : p ∈ [(([], t) : Pre)] := hp
    rw [List.mem_singleton.mp hp]
  · rw [lAll_snoc] at hp
    unfold lStep at hp
    obtain ⟨q, hq, hpq⟩ := List.mem_flatten.mp hp
    obtain ⟨r, hr, rfl⟩ := List.mem_map.mp hq
    unfold lItem at hpq
    obtain ⟨c, hc, rfl⟩ := List.mem_map.mp hpq
    have hz := ih r hr
    show (r.1 ++ [c]).length = (xs ++ [x]).length
    rw [List.length_append, List.length_append, hz]
    rfl
theorem mx0_b {x : Int} : 0 ≤ mx0 x ∧ (0 ≤ x → mx0 x ≤ x) ∧ (x ≤ 0 → mx0 x = 0) := by
  unfold mx0
  split <;> omega
theorem mn2_b {l x : Int} : mn2 l x ≤ l ∧ mn2 l x ≤ x ∧ (mn2 l x = l ∨ mn2 l x = x) := by
  unfold mn2
  split <;> omega
/-- the program's state behind so many rows -/
def pAt (ls : List Int) (t : Int) (i : Nat) : List Pre := (lAll (ls.take i) t).filter fun q => decide (q.2 ≤ (ls.drop i).sum)
theorem pAt_next {ls : List Int} {t : Int} {i : Nat} {l : Int} (ht : 0 ≤ t) (hl : 0 ≤ l) (h : ls[i]? = some l) : pAt ls t (i + 1) = pStep (ls.drop (i + 1)).sum l (pAt ls t i) := by
  obtain ⟨hi, e⟩ := List.getElem?_eq_some_iff.mp h
  unfold pAt
  rw [List.take_add_one, h]
  show (lAll (ls.take i ++ [l]) t).filter _ = _
  rw [lAll_snoc, step_filter hl _ (all_left ht _), List.drop_eq_getElem_cons hi, List.sum_cons, e, Int.add_comm l]
theorem pAt_end {ls : List Int} {t : Int} (ht : 0 ≤ t) : (pAt ls t ls.length).map (·.1) = due ls t := by
  unfold pAt due
  rw [List.take_length, List.drop_length]
  refine congrArg (List.map _) (List.filter_congr fun p hp => ?_)
  have := all_left ht ls p hp
  show decide (p.2 ≤ 0) = decide (p.2 = 0)
  exact decide_eq_decide.mpr (by omega)
theorem pAt_len (ls : List Int) (t : Int) (i : Nat) : (pAt ls t i).length ≤ (lAll (ls.take i) t).length := List.length_filter_le _ _
/-- there is a choice just where the total is no more than the sum -/
theorem sm_pos {f : Int → Int} : ∀ (n : Nat), (∀ i : Int, 0 ≤ i → i < n → 0 ≤ f i) → 0 ≤ sm f n ∧ ((∃ i : Int, 0 ≤ i ∧ i < n ∧ 0 < f i) → 0 < sm f n)
  | 0, _ => ⟨Int.le_refl _, fun ⟨i, a, b, _⟩ => absurd b (by omega)⟩
  | n + 1, h => by
    obtain ⟨a, b⟩ := sm_pos n fun i x y => h i x (by omega)
    have c := h n (by omega) (by omega)
    refine ⟨?_, fun ⟨i, x, y, z⟩ => ?_⟩
    · show 0 ≤ sm f n + f n
      omega
    · show 0 < sm f n + f n
      by_cases e : i = n
      · subst e
        omega
      · have := b ⟨i, x, by omega, z⟩
        omega
theorem wAll_pos : ∀ (ls : List Int), (∀ l ∈ ls, 0 ≤ l) → (∀ t, 0 ≤ wAll ls t) ∧ ∀ t, 0 ≤ t → t ≤ ls.sum → 0 < wAll ls t := by
  intro ls
  refine rev_ind2 (P := fun ls => (∀ l ∈ ls, 0 ≤ l) → (∀ t, 0 ≤ wAll ls t) ∧ ∀ t, 0 ≤ t → t ≤ ls.sum → 0 < wAll ls t) (fun _ => ⟨fun t => ?_, fun t h1 h2 => ?_⟩) (fun xs x ih h => ?_) ls
  · show 0 ≤ w0 t
    unfold w0
    split <;> decide
  · have h2 : t ≤ 0 := h2
    show 0 < w0 t
    unfold w0
    rw [if_pos (by omega)]
    decide
  · obtain ⟨a, b⟩ := ih fun l hl => h l (List.mem_append_left _ hl)
    have hx := h x (List.mem_append_right _ List.mem_cons_self)
    rw [wAll_snoc]
    have z := fun t => sm_pos (f := fun k => wAll xs (t - k)) (x.toNat + 1) fun i _ _ => a _
    refine ⟨fun t => (z t).1, fun t h1 h2 => (z t).2 ?_⟩
    rw [List.sum_append, List.sum_cons, List.sum_nil, Int.add_zero] at h2
    by_cases c : t ≤ xs.sum
    · exact ⟨0, Int.le_refl _, by omega, by rw [Int.sub_zero]; exact b t h1 c⟩
    · have sp : 0 ≤ xs.sum := by
        have hh : ∀ l ∈ xs, 0 ≤ l := fun l hl => h l (List.mem_append_left _ hl)
        clear z a b ih h h2 c
        induction xs with
        | nil => exact Int.le_refl _
        | cons y r ih =>
          rw [List.sum_cons]
          have := ih fun l hl => hh l (List.mem_cons_of_mem _ hl)
          have := hh y List.mem_cons_self
          omega
      exact ⟨t - xs.sum, by omega, by omega, by rw [show t - (t - xs.sum) = xs.sum by omega]; exact b _ sp (Int.le_refl _)⟩
theorem pAt_zero {ls : List Int} {t : Int} (h0 : ∀ l ∈ ls, 0 ≤ l) (ht : 0 ≤ t) : pAt ls t 0 = if 0 < wAll ls t then [([], t)] else [] := by
  unfold pAt
  rw [List.take_zero, List.drop_zero]
  show [(([], t) : Pre)].filter _ = _
  by_cases c : t ≤ ls.sum
  · rw [if_pos ((wAll_pos ls h0).2 t ht c), List.filter_cons, if_pos (decide_eq_true c)]
    rfl
  · have e := (tall_all ls h0).hi t (by omega)
    rw [if_neg (by omega), List.filter_cons, if_neg (by rw [decide_eq_false c]; exact Bool.false_ne_true)]
    rfl

theorem sum_le : ∀ xs : List Int, (∀ l ∈ xs, 0 ≤ l ∧ l ≤ 60) → 0 ≤ xs.sum ∧ xs.sum ≤ 60 * (xs.length : Int)
  | [], _ => ⟨Int.le_refl _, Int.le_refl _⟩
  | x :: r, h => by
    have a := h x List.mem_cons_self
    have b := sum_le r fun l hl => h l (List.mem_cons_of_mem _ hl)
    rw [List.sum_cons, List.length_cons]
    omega
theorem tab_ix {F : Int → Int} {n i : Nat} (h : i < n) : ((tab F n).map V.int)[i]? = some (.int (F (i : Int))) := by
  rw [List.getElem?_map, tab_at h]
  rfl
structure Lens (xs : List Int) : Prop where
  b : ∀ l ∈ xs, 0 ≤ l ∧ l ≤ 60
  n : xs.length ≤ 60
theorem Lens.take {xs : List Int} (h : Lens xs) (i : Nat) : Lens (xs.take i) := ⟨fun l hl => h.b l (List.mem_of_mem_take hl), Nat.le_trans (List.length_take_le' i xs) h.n⟩
theorem Lens.sum {xs : List Int} (h : Lens xs) : 0 ≤ xs.sum ∧ xs.sum ≤ 3600 := by
  have a := sum_le xs h.b
  have b := h.n
  omega
theorem Lens.tall {xs : List Int} (h : Lens xs) : Tall (wAll xs) xs.sum := tall_all xs fun l hl => (h.b l hl).1
def spOne (K : PySem.W.Frag) : Sp := fun vs H Q _ => ∃ (a : Addr) (F : Int → Int) (n : Nat) (l : Int), vs = [.ref a, .int l] ∧ SqL K H a ((tab F n).map V.int) ∧ (∀ t, t < 0 → F t = 0) ∧ (∀ t : Int, (n : Int) ≤ t → F t = 0) ∧ 0 < n ∧ n ≤ 100000 ∧ 0 ≤ l ∧ l ≤ 1000 ∧
  ∀ (H' : Hp) (q : Addr), Same H H' → H' q = some (.lst ((tab (wstep l.toNat F) (n + l.toNat)).map V.int)) → Q (.ref q) H'
def spWays (K : PySem.W.Frag) : Sp := fun vs H Q _ => ∃ (a : Addr) (xs : List Int), vs = [.ref a] ∧ SqL K H a (xs.map V.int) ∧ Lens xs ∧
  ∀ (H' : Hp) (q : Addr), Same H H' → H' q = some (.lst ((tab (wAll xs) (xs.sum.toNat + 1)).map V.int)) → Q (.ref q) H'
def spHow (K : PySem.W.Frag) : Sp := fun vs H Q _ => ∃ (a : Addr) (xs : List Int) (t : Int), vs = [.ref a, .int t] ∧ SqL K H a (xs.map V.int) ∧ Lens xs ∧
  ∀ (H' : Hp), Same H H' → Q (.int (wAll xs t)) H'
theorem cut_tab {F : Int → Int} {n t l : Nat} (ht : t < n) (lo : Int) (hlo : lo = ((t - l : Nat) : Int)) (hi : Int) (hhi : hi = ((t + 1 : Nat) : Int)) :
    cutV ((tab F n).map V.int) (some lo) (some hi) = (((tab F n).drop (t - l)).take (t + 1 - (t - l))).map V.int := by
  subst hlo hhi
  unfold cutV
  rw [HT.sIx_nat, HT.sIx_nat, List.length_map, tab_len, show min (t - l) n = t - l by omega, show min (t + 1) n = t + 1 by omega, List.map_take, List.map_drop]
theorem flat_zeros : ∀ k : Nat, (List.replicate k [V.int 0]).flatten = (List.replicate k (0 : Int)).map V.int
  | 0 => rfl
  | k + 1 => by
    rw [List.replicate_succ, List.flatten_cons, flat_zeros k, List.replicate_succ]
    rfl
theorem start_tab (k : Nat) : [V.int 1] ++ (List.replicate k [V.int 0]).flatten = (tab w0 (k + 1)).map V.int := by
  rw [flat_zeros, tab_w0]
  rfl
theorem flat_same (x : V) : ∀ k : Nat, (List.replicate k [x]).flatten = List.replicate k x
  | 0 => rfl
  | k + 1 => by
    rw [List.replicate_succ, List.flatten_cons, flat_same x k, List.replicate_succ]
    rfl
section
variable {P : Program} {w : World} {K : PySem.W.Frag} {mg : Str → Option Value} {base : Heap}
theorem has_one {cs : Nat → Addr} (T : Top K mg cs) : Has P w K mg base 1 "_with_one_more" ["many", "length"] (spOne K) := by
  refine has_of T.d__with_one_more sc__with_one_more bd__with_one_more (fun vs H Q E h => ?_) (fun f cdv A outer s H vs Q E hr h => ?_)
  · obtain ⟨a, F, n, l, rfl, _⟩ := h
    rfl
  · have hu := hu_of hr
    have nd := sc__with_one_more.nd
    obtain ⟨a, F, n, l, rfl, hS, f0, f1, n0, n1, l0, l1, k⟩ := h
    refine ⟨_, (pss_cons (ps_set (i := 2) nd rfl (.inl rfl) (pe_lst pa_nil))
    (pss_cons (ps_set (i := 3) nd rfl (.inl rfl) pe_int)
    (pss_cons (ps_for PassesOwn.never rfl (pi_range1 (by rfl) T.b_range (pa_cons (pe_op op_add (pe_callB call_len_seq (by rfl) T.b_len (by decide +kernel) (pa_cons (pv 0) pa_nil)) (pv 1)) pa_nil)) (pg_name (i := 4) nd rfl (.inl rfl))
      (C8.pss_cut (ps_if (pt_cmpR op_lt (pv 4) (pe_callB call_len_seq (by rfl) T.b_len (by decide +kernel) (pa_cons (pv 0) pa_nil)) (nomark _)) (pss_one (ps_aug (i := 3) nd rfl (.inl rfl) (pe_ix ix_list (pv 0) (pv 4) (fun _ _ => rfl)) ip_add)) pss_nil)
    (C8.pss_cut (ps_if (pt_cmpR op_gt (pv 4) (pv 1) (nomark _)) (pss_one (ps_aug (i := 3) nd rfl (.inl rfl) (pe_ix ix_list (pv 0) (pe_op op_sub (pe_op op_sub (pv 4) (pv 1)) pe_int) (fun _ _ => rfl)) ip_sub)) pss_nil)
    (pss_one (ps_expr (pe_bm PySem.F.plainAttrs_list PySem.F.slot_list_append PySem.F.type_list_append mt_append (pv 2) (pa_cons (pv 3) pa_nil)))))))
    (pss_one (ps_ret (pv 2)))))), ?_⟩
    have line : 1000000 < sizeLine := by decide
    refine ⟨by show 0 ≤ sizeLine; decide, fun D hD => ?_⟩
    have hS1 : SqL K (upd H D (.lst [])) a ((tab F n).map V.int) := (same_new hD).seq hS
    have lm : ((tab F n).map V.int).length = n := by rw [List.length_map, tab_len]
    refine ⟨_, rfl, a, _, rfl, .inl hS1, _, rfl, _, _, rfl, rfl, _, rfl, ?_, ?_, for_range (lo := 0) (fun i σ H' => ∃ v4, σ = [some (.ref a), some (.int l), some (.ref D), some (.int (wstep l.toNat F ((i : Int) - 1))), v4] ∧ Same H H' ∧
      H' D = some (.lst ((tab (wstep l.toNat F) i).map V.int))) ⟨none, ?_, same_new hD, upd_same⟩ ?_ ?_⟩
    · rw [lm]
      omega
    · rw [lm]
      omega
    · have e : wstep l.toNat F (((0 : Nat) : Int) - 1) = 0 := sm_nil _ _ fun j a b => f0 _ (by omega)
      rw [e]
      rfl
    · rintro i σ H1 hi ⟨v4, rfl, s1, h1⟩
      rw [lm] at hi
      have hi2 : i < n + l.toNat := by omega
      have hS2 := s1.seq hS
      refine ⟨fun σ' H' => H' = H1 ∧ σ' = [some (.ref a), some (.int l), some (.ref D), some (.int (wstep l.toNat F ((i : Int) - 1) + F i)), some (.int (0 + i))], ?_, ?_⟩
      · refine ⟨_, rfl, _, rfl, a, _, rfl, .inl hS2, _, _, rfl, rfl, _, rfl, ite2 (fun c => ?_) (fun c => ?_)⟩
        · have c' : (0 : Int) + i < (((tab F n).map V.int).length : Int) := of_decide_eq_true c
          rw [lm] at c'
          refine ⟨_, rfl, _, rfl, _, rfl, a, _, _, _, rfl, rfl, hS2, at_of (j := i) (by omega) (tab_ix (by omega)), _, _, rfl, rfl, rfl, rfl⟩
        · have c' : ¬ (0 : Int) + i < (((tab F n).map V.int).length : Int) := fun z => c (decide_eq_true z)
          rw [lm] at c'
          refine ⟨rfl, ?_⟩
          rw [f1 i (by omega), Int.add_zero]
          rfl
      · rintro σ' H' ⟨rfl, rfl⟩
        refine ⟨fun σ' H'' => H'' = H' ∧ σ' = [some (.ref a), some (.int l), some (.ref D), some (.int (wstep l.toNat F (i : Int))), some (.int (0 + i))], ?_, ?_⟩
        · refine ⟨_, rfl, _, rfl, _, _, rfl, rfl, _, rfl, ite2 (fun c => ?_) (fun c => ?_)⟩
          · have c' : l < (0 : Int) + i := of_decide_eq_true c
            refine ⟨_, rfl, _, rfl, _, rfl, _, rfl, _, _, rfl, rfl, _, _, rfl, rfl, a, _, _, _, rfl, rfl, hS2, at_of (j := i - l.toNat - 1) (by omega) (tab_ix (by omega)), _, _, rfl, rfl, rfl, ?_⟩
            rw [wstep_next l.toNat F i, show ((i - l.toNat - 1 : Nat) : Int) = (i : Int) - 1 - (l.toNat : Int) by omega]
            rfl
          · have c' : ¬ l < (0 : Int) + i := fun z => c (decide_eq_true z)
            refine ⟨rfl, ?_⟩
            rw [wstep_next l.toNat F i, f0 ((i : Int) - 1 - (l.toNat : Int)) (by omega), Int.sub_zero]
        · rintro σ' H'' ⟨rfl, rfl⟩
          refine ⟨_, rfl, .inl ⟨rfl, _, SqL.of h1⟩, _, rfl, D, _, _, rfl, rfl, h1, ?_, some (.int (0 + i)), ?_, same_mut s1 hD, ?_⟩
          · rw [List.length_map, tab_len]
            omega
          · rw [show ((i + 1 : Nat) : Int) - 1 = i by omega]
          · rw [upd_same, tab_snoc, List.map_append]
            rfl
    · rintro σ H1 ⟨v4, rfl, s1, h1⟩
      rw [lm, show ((n : Int) + l).toNat = n + l.toNat by omega] at h1
      exact ⟨_, rfl, k H1 D s1 h1⟩
theorem has_ways {cs : Nat → Addr} (T : Top K mg cs) (h__with_one_more : Has P w K mg base 1 "_with_one_more" ["many", "length"] (spOne K)) : Has P w K mg base 2 "ways" ["lens"] (spWays K) := by
  refine has_of T.d_ways sc_ways bd_ways (fun vs H Q E h => ?_) (fun f cdv A outer s H vs Q E hr h => ?_)
  · obtain ⟨a, xs, rfl, _⟩ := h
    rfl
  · have hu := hu_of hr
    have nd := sc_ways.nd
    obtain ⟨a, xs, rfl, hS, hl, k⟩ := h
    refine ⟨_, (pss_cons (ps_set (i := 1) nd rfl (.inl rfl) (pe_lst (pa_cons pe_int pa_nil)))
    (pss_cons (ps_for PassesOwn.never rfl (pi_list (pv 0)) (pg_name (i := 2) nd rfl (.inl rfl))
      (pss_one (ps_set (i := 1) nd rfl (.inl rfl) (pe_has h__with_one_more (hr.mono (by omega)) (by rfl) (pa_cons (pv 1) (pa_cons (pv 2) pa_nil))))))
    (pss_one (ps_ret (pv 1))))), ?_⟩
    refine ⟨by show 1 ≤ sizeLine; decide, fun D hD => ?_⟩
    refine ⟨_, rfl, a, rfl, ⟨_, (same_new hD).seq hS⟩, for_list (K := K) (a := a) (xs := xs.map V.int) (fun i σ H' => ∃ q v2, σ = [some (.ref a), some (.ref q), v2] ∧ Same H H' ∧ H' q = some (.lst ((tab (wAll (xs.take i)) ((xs.take i).sum.toNat + 1)).map V.int)))
      ⟨D, none, rfl, same_new hD, upd_same⟩ ?_ ?_ ?_⟩
    · rintro i σ H1 _ ⟨q, v2, _, s1, _⟩
      exact s1.seq hS
    · rintro i x σ H1 hi ⟨q, v2, rfl, s1, h1⟩
      obtain ⟨z, rfl, hz⟩ := int_at hi
      have tl := (hl.take i).tall
      have ts := (hl.take i).sum
      have bz := hl.b z (List.mem_of_getElem? hz)
      refine ⟨_, rfl, _, rfl, q, wAll (xs.take i), (xs.take i).sum.toNat + 1, z, rfl, SqL.of h1, tl.lo, fun t ht => tl.hi t (by omega), by omega, by omega, by omega, by omega, fun H2 q2 s2 h2 => ⟨q2, _, rfl, s1.trans s2, ?_⟩⟩
      rw [take_snoc hz, wAll_snoc, List.sum_append, List.sum_cons, List.sum_nil, show ((xs.take i).sum + (z + 0)).toNat + 1 = (xs.take i).sum.toNat + 1 + z.toNat by omega]
      exact h2
    · rintro σ H1 ⟨q, v2, rfl, s1, h1⟩
      rw [List.length_map, List.take_length] at h1
      exact ⟨_, rfl, k H1 q s1 h1⟩
theorem has_how {cs : Nat → Addr} (T : Top K mg cs) (h_ways : Has P w K mg base 2 "ways" ["lens"] (spWays K)) : Has P w K mg base 3 "how_many" ["lens", "total"] (spHow K) := by
  refine has_of T.d_how_many sc_how_many bd_how_many (fun vs H Q E h => ?_) (fun f cdv A outer s H vs Q E hr h => ?_)
  · obtain ⟨a, xs, t, rfl, _⟩ := h
    rfl
  · have hu := hu_of hr
    have nd := sc_how_many.nd
    obtain ⟨a, xs, t, rfl, hS, hl, k⟩ := h
    refine ⟨_, (pss_cons (ps_set (i := 2) nd rfl (.inl rfl) (pe_has h_ways (hr.mono (by omega)) (by rfl) (pa_cons (pv 0) pa_nil)))
    (pss_cons (ps_if (pt_chain op_le op_lt pe_int (pv 1) (pe_callB call_len_seq (by rfl) T.b_len (by decide +kernel) (pa_cons (pv 2) pa_nil))) (pss_one (ps_ret (pe_ix ix_list (pv 2) (pv 1) (fun _ _ => rfl)))) pss_nil)
    (pss_one (ps_ret pe_int)))), ?_⟩
    have tl := hl.tall
    have ts := hl.sum
    refine ⟨_, rfl, a, xs, rfl, hS, hl, fun H1 q s1 h1 => ?_⟩
    have lm : ((tab (wAll xs) (xs.sum.toNat + 1)).map V.int).length = xs.sum.toNat + 1 := by rw [List.length_map, tab_len]
    refine ⟨_, rfl, _, _, rfl, rfl, _, rfl, ite2 (fun c1 => ?_) (fun c1 => ?_)⟩
    · have c1' : 0 ≤ t := of_decide_eq_true c1
      refine ⟨_, rfl, q, _, rfl, .inl (SqL.of h1), _, _, rfl, rfl, _, rfl, ?_⟩
      rw [lm]
      refine ite2 (fun c2 => ?_) (fun c2 => ?_)
      · have c2' : t < ((xs.sum.toNat + 1 : Nat) : Int) := of_decide_eq_true c2
        refine ⟨_, rfl, _, rfl, q, _, _, _, rfl, rfl, SqL.of h1, at_of (j := t.toNat) (by omega) (tab_ix (by omega)), ?_⟩
        rw [show ((t.toNat : Nat) : Int) = t by omega]
        exact k H1 s1
      · have c2' : ¬ t < ((xs.sum.toNat + 1 : Nat) : Int) := fun z => c2 (decide_eq_true z)
        have e := tl.hi t (by omega)
        rw [e] at k
        exact k H1 s1
    · have c1' : ¬ 0 ≤ t := fun z => c1 (decide_eq_true z)
      have e := tl.lo t (by omega)
      rw [e] at k
      exact ⟨_, rfl, iteF (k H1 s1)⟩
end

/-! ### pieces of tuples -/
theorem cut_nat (xs : List V) (i j : Nat) : cutV xs (some (i : Int)) (some (j : Int)) = (xs.drop i).take (j - i) := by
  unfold cutV
  rw [HT.sIx_nat, HT.sIx_nat]
  by_cases h : i ≤ xs.length
  · rw [Nat.min_eq_left h]
    by_cases h2 : j ≤ xs.length
    · rw [Nat.min_eq_left h2]
    · rw [Nat.min_eq_right (by omega), List.take_of_length_le (by rw [List.length_drop]; omega), List.take_of_length_le (by rw [List.length_drop]; omega)]
  · rw [List.drop_eq_nil_of_le (by omega : xs.length ≤ min i xs.length), List.drop_eq_nil_of_le (by omega : xs.length ≤ i), List.take_nil, List.take_nil]
theorem cut_nat0 (xs : List V) (j : Nat) : cutV xs none (some (j : Int)) = xs.take j := by
  unfold cutV
  rw [HT.sIx_none, HT.sIx_nat, List.drop_zero, Nat.sub_zero]
  by_cases h2 : j ≤ xs.length
  · rw [Nat.min_eq_left h2]
  · rw [Nat.min_eq_right (by omega), List.take_of_length_le (Nat.le_refl _), List.take_of_length_le (by omega)]
section
variable {K : PySem.W.Frag} {H : Hp} {a b : Addr} {xs ys : List V} {Q : VK}
theorem tup_take {m : Nat} (ha : H a = some (.tup xs)) (k : ∀ H' r, Same H H' → H' r = some (.tup (xs.take m)) → Q (.ref r) H') : rSlA K (.ref a) none (some (m : Int)) H Q := by
  refine ⟨a, xs, rfl, SqT.of ha, fun h => ?_, fun _ p hp => ?_⟩
  · rw [HT.sIx_nat] at h
    refine k H a (Same.refl _) ?_
    rw [List.take_of_length_le (by omega)]
    exact ha
  · rw [cut_nat0]
    exact k _ p (same_new hp) upd_same
theorem tup_mid {i j : Nat} (ha : H a = some (.tup xs)) (k : ∀ H' r, Same H H' → H' r = some (.tup ((xs.drop i).take (j - i))) → Q (.ref r) H') : rSlA K (.ref a) (some (i : Int)) (some (j : Int)) H Q := by
  refine ⟨a, xs, rfl, SqT.of ha, fun h => ?_, fun _ p hp => ?_⟩
  · rw [HT.sIx_nat, HT.sIx_nat] at h
    refine k H a (Same.refl _) ?_
    have e : (xs.drop i).take (j - i) = xs := by
      rw [← cut_nat]
      unfold cutV
      rw [HT.sIx_nat, HT.sIx_nat, h.1, h.2, Nat.sub_zero, List.drop_zero, List.take_length]
    rw [e]
    exact ha
  · rw [cut_nat]
    exact k _ p (same_new hp) upd_same
theorem tup_cat (ha : H a = some (.tup xs)) (hb : H b = some (.tup ys)) (small : xs.length + ys.length ≤ sizeLine) (k : ∀ H' r, Same H H' → H' r = some (.tup (xs ++ ys)) → Q (.ref r) H') : rCatA K (.ref a) (.ref b) H Q := by
  refine ⟨a, b, xs, ys, rfl, rfl, SqT.of ha, SqT.of hb, small, fun e => ?_, fun _ e => ?_, fun _ _ p hp => k _ p (same_new hp) upd_same⟩
  · subst e
    exact k H b (Same.refl _) hb
  · subst e
    refine k H a (Same.refl _) ?_
    rw [List.append_nil]
    exact ha
end
section
variable {X : Cx}
theorem sl_tupAK {K : PySem.W.Frag} (h : X.K = K) : SlR X (rSlA K) := h ▸ sl_tupA
theorem op_catAK {K : PySem.W.Frag} (h : X.K = K) : OpR X (binaryOp .Add) (rCatA K) := h ▸ op_catA
end
theorem pg_tupK {X : Cx} {K : PySem.W.Frag} {pos : Pos} {es : List Expr} {k : Nat} {t : TGs} {n : Nat} (hK : X.K = K) (hc : X.calm = true) (h : PGs X es t)
    (hn : (assignEach es X.env).length = n := by rfl) (hst : (assignEach es X.env).findIdx? (·.1) = none := by rfl) : PG X (.Tuple es k pos) (gTup K n t) := hK ▸ pg_tup hc h hn hst
theorem iteFd {p : Prop} [Decidable p] {A B : Prop} (h : ¬ p) (b : B) : if decide p = true then A else B := by
  rw [if_neg fun z => h (of_decide_eq_true z)]
  exact b
theorem iteTd {p : Prop} [Decidable p] {A B : Prop} (h : p) (a : A) : if decide p = true then A else B := by
  rw [if_pos (decide_eq_true h)]
  exact a

/-! ### a comprehension of two fors: a list, then a range -/
section
variable {K : PySem.W.Frag} {a : Addr} {xs : List V} {g g1 : TG} {tt tt1 : TT} {te : TE} {wi1 : TI} {vs vs1 : List Nat} {σ σ2 : L2.St} {H1 H4 : Hp} {D : Addr} {Qd Nx : Hp → Prop}
theorem lc2_in {lo : Int} {n : Nat} (Pw : Nat → Hp → Prop) (h0 : Pw 0 H4)
    (hs : ∀ j H, j < n → Pw j H → g1 (.int (lo + (j : Nat))) (wipe σ2 vs1) H fun σ3 H5 => wipe σ3 vs1 = wipe σ2 vs1 ∧ tt1 σ3 H5 fun b H6 =>
      if b = true then te σ3 H6 fun y H7 => ∃ acc, H7 D = some (.lst acc) ∧ acc.length < sizeLine ∧ Pw (j + 1) (upd H7 D (.lst (acc ++ [y]))) else Pw (j + 1) H6) (hd : ∀ H, Pw n H → Nx H) :
    ∃ W1 : Nat → Nat → Hp → Prop, (∃ m, W1 0 m H4) ∧ ∀ j k H, W1 j k H → ((Itr lo n).stop j H ∧ Nx H) ∨ ((Itr lo n).go j H ∧ ∃ Nx1 : Hp → Prop, (∀ H', Nx1 H' → ∃ k', k' < k ∧ W1 (j + 1) k' H') ∧ ∀ x H', (Itr lo n).yld j H x H' → g1 x (wipe σ2 vs1) H' fun σ3 H5 => wipe σ3 vs1 = wipe σ2 vs1 ∧ tt1 σ3 H5 fun b H6 =>
      if b = true then te σ3 H6 fun y H7 => ∃ acc, H7 D = some (.lst acc) ∧ acc.length < sizeLine ∧ Nx1 (upd H7 D (.lst (acc ++ [y]))) else Nx1 H6) := by
  refine ⟨fun j m H => m = n - j ∧ j ≤ n ∧ Pw j H, ⟨n, by simp, Nat.zero_le _, h0⟩, ?_⟩
  rintro j m H ⟨rfl, hj, p⟩
  by_cases hlt : j < n
  · refine .inr ⟨hlt, Pw (j + 1), fun H' p' => ⟨n - (j + 1), by omega, rfl, hlt, p'⟩, fun x H' y => ?_⟩
    obtain ⟨e, y⟩ := y
    subst e y
    exact hs j _ hlt p
  · have e : j = n := by omega
    subst e
    exact .inl ⟨Nat.le_refl _, hd H p⟩
theorem lc2_list (Pv : Nat → Hp → Prop) (h0 : Pv 0 (upd H1 D (.lst []))) (hl : ∀ i H, i ≤ xs.length → Pv i H → SqL K H a xs)
    (hs : ∀ i x H, xs[i]? = some x → Pv i H → g x (wipe σ vs) H fun σ2 H2 => wipe σ2 vs = wipe σ vs ∧ tt σ2 H2 fun b H3 =>
      if b = true then wi1 σ2 H3 fun J1 H4 => ∃ W1 : Nat → Nat → Hp → Prop, (∃ m, W1 0 m H4) ∧ ∀ j k H, W1 j k H →
        (J1.stop j H ∧ Pv (i + 1) H) ∨ (J1.go j H ∧ ∃ Nx1 : Hp → Prop, (∀ H', Nx1 H' → ∃ k', k' < k ∧ W1 (j + 1) k' H') ∧ ∀ x H', J1.yld j H x H' → g1 x (wipe σ2 vs1) H' fun σ3 H5 => wipe σ3 vs1 = wipe σ2 vs1 ∧ tt1 σ3 H5 fun b H6 =>
          if b = true then te σ3 H6 fun y H7 => ∃ acc, H7 D = some (.lst acc) ∧ acc.length < sizeLine ∧ Nx1 (upd H7 D (.lst (acc ++ [y]))) else Nx1 H6)
      else Pv (i + 1) H3) (hd : ∀ H, Pv xs.length H → Qd H) :
    ∃ W : Nat → Nat → Hp → Prop, (∃ m, W 0 m (upd H1 D (.lst []))) ∧ ∀ i m H, W i m H →
      ((Itl K a).stop i H ∧ Qd H) ∨ ((Itl K a).go i H ∧ ∃ Nx : Hp → Prop, (∀ H', Nx H' → ∃ m', m' < m ∧ W (i + 1) m' H') ∧ ∀ x H', (Itl K a).yld i H x H' → g x (wipe σ vs) H' fun σ2 H2 => wipe σ2 vs = wipe σ vs ∧ tt σ2 H2 fun b H3 =>
        if b = true then wi1 σ2 H3 fun J1 H4 => ∃ W1 : Nat → Nat → Hp → Prop, (∃ m, W1 0 m H4) ∧ ∀ j k H, W1 j k H →
          (J1.stop j H ∧ Nx H) ∨ (J1.go j H ∧ ∃ Nx1 : Hp → Prop, (∀ H', Nx1 H' → ∃ k', k' < k ∧ W1 (j + 1) k' H') ∧ ∀ x H', J1.yld j H x H' → g1 x (wipe σ2 vs1) H' fun σ3 H5 => wipe σ3 vs1 = wipe σ2 vs1 ∧ tt1 σ3 H5 fun b H6 =>
            if b = true then te σ3 H6 fun y H7 => ∃ acc, H7 D = some (.lst acc) ∧ acc.length < sizeLine ∧ Nx1 (upd H7 D (.lst (acc ++ [y]))) else Nx1 H6)
        else Nx H3) := by
  refine ⟨fun i m H => m = xs.length - i ∧ i ≤ xs.length ∧ Pv i H, ⟨xs.length, by simp, Nat.zero_le _, h0⟩, ?_⟩
  rintro i m H ⟨rfl, hi, p⟩
  have q := hl i H hi p
  by_cases hlt : i < xs.length
  · refine .inr ⟨⟨xs, xs[i], q, by simp [hlt]⟩, Pv (i + 1), fun H' p' => ⟨xs.length - (i + 1), by omega, rfl, hlt, p'⟩, fun x H' y => ?_⟩
    obtain ⟨e, y⟩ := y
    subst e
    exact hs i x _ (y xs q) p
  · have e : i = xs.length := by omega
    subst e
    exact .inl ⟨⟨xs, q, Nat.le_refl _⟩, hd H p⟩
end
/-! ### the program's choices -/
def tI (l : List Int) : PyData := .tuple (l.map PyData.int)
def dPre (p : Pre) : PyData := .tuple [tI p.1, .int p.2]
theorem tpall_ints {H : Hp} : ∀ l : List Int, TpAll H (l.map V.int) (l.map PyData.int)
  | [] => .nil
  | x :: r => .cons (.int x) (tpall_ints r)
theorem tp_ints {H : Hp} {p : Addr} {l : List Int} (h : H p = some (.tup (l.map V.int))) : Tp H (.ref p) (tI l) := .tup h (tpall_ints l)
theorem tpall_inv {H : Hp} : ∀ {l : List Int} {xs : List V}, TpAll H xs (l.map PyData.int) → xs = l.map V.int
  | [], _, h => by
    cases h
    rfl
  | x :: r, _, h => by
    cases h with
    | cons a b =>
      cases a
      rw [tpall_inv b]
      rfl
theorem tp_pre {H : Hp} {v : V} {p : Pre} (h : Tp H v (dPre p)) : ∃ a b, v = .ref a ∧ H a = some (.tup [.ref b, .int p.2]) ∧ H b = some (.tup (p.1.map V.int)) := by
  unfold dPre at h
  cases h with
  | tup ha r =>
    cases r with
    | cons h1 r =>
      cases r with
      | cons h2 r =>
        cases r
        cases h2
        unfold tI at h1
        cases h1 with
        | tup hb rb => exact ⟨_, _, rfl, ha, by rw [hb, tpall_inv rb]⟩
def Fine (xs : List Int) (t : Int) : Prop := ∀ i, (lAll (xs.take i) t).length ≤ 1000000
theorem same_freeX {H H' : Hp} {p : Addr} (s : Same H H') (h : H' p = none) : H p = none := by
  cases e : H p with
  | none => rfl
  | some o =>
    rw [s _ _ e] at h
    cases h
def spChs (C : Addr) (K : PySem.W.Frag) : Sp := fun vs H Q E => ∃ (a : Addr) (xs : List Int) (t : Int), vs = [.ref a, .int t] ∧ SqL K H a (xs.map V.int) ∧ Lens xs ∧ 0 ≤ t ∧ t ≤ 4000 ∧
  ((wAll xs t ≤ 3003 ∧ Fine xs t ∧ ∀ (H' : Hp) (q : Addr) (ys : List V), Same H H' → H q = none → H' q = some (.lst ys) → TpAll H' ys ((due xs t).map tI) → Q (.ref q) H') ∨
   (3003 < wAll xs t ∧ wAll xs t < 10 ^ 18 ∧ ∀ (H' : Hp) (d : Addr), Same H H' → H d = none → H' d = some (.xd [("many", .int (wAll xs t))]) → E (.ref C) (some d) H'))
section
variable {P : Program} {w : World} {K : PySem.W.Frag} {mg : Str → Option Value} {base : Heap}
theorem has_choices {C : Addr} {cs : Nat → Addr} (T : Top K mg cs) (h_TooMany : HasC P w K mg base C "TooMany" ["self", "many"] (spI1 C "many")) (h_how_many : Has P w K mg base 3 "how_many" ["lens", "total"] (spHow K)) : HasX P w K mg base 5 "choices" ["lens", "total"] (spChs C K) := by
  refine has_ofX T.d_choices sc_choices bd_choices (fun vs H Q E h => ?_) (fun f cdv A outer s H vs Q E hr h => ?_)
  · obtain ⟨a, xs, t, rfl, _⟩ := h
    rfl
  · have hu := hu_of hr
    have nd := sc_choices.nd
    obtain ⟨a, xs, t, rfl, ha, L, t0, t1, hcase⟩ := h
    refine ⟨_, (pss_cons (ps_set (i := 2) nd rfl (.inl rfl) (pe_has h_how_many (hr.mono (by omega)) (by rfl) (pa_cons (pv 0) (pa_cons (pv 1) pa_nil))))
    (pss_cons (ps_if (pt_cmpR op_gt (pv 2) (pe_const T.c_MOST_CHOICES (by rfl)) (nomark _)) (pss_one (ps_raise rfl (takes_of rfl rfl rfl rfl) (pmk_hasC h_TooMany (hr.mono (by omega)) (by rfl) (pa_cons (pv 2) pa_nil)))) pss_nil)
    (pss_cons (ps_set (i := 3) nd rfl (.inl rfl) (pe_lst pa_nil))
    (C8.pss_cut (ps_if (pt_cmpR op_gt (pv 2) pe_int (nomark _)) (pss_one (ps_set (i := 3) nd rfl (.inl rfl) (pe_lst (pa_cons (pe_tup (pa_cons (pe_tup pa_nil) (pa_cons (pv 1) pa_nil))) pa_nil)))) pss_nil)
    (pss_cons (ps_set (i := 4) nd rfl (.inr rfl) (pe_callB (cr_sum rfl) (by rfl) T.b_sum (by decide +kernel) (pa_cons (pv 0) pa_nil)))
    (pss_cons (ps_for (passes_of rfl) rfl (pi_list (pv 0)) (pg_name (i := 5) nd rfl (.inr rfl))
      (pss_cons (ps_aug (i := 4) nd rfl (.inr rfl) (pv 5) ip_sub)
    (pss_one (ps_setLc2 (i := 3) (own := [("counts", 6), ("left", 7), ("count", 8)]) (vs1 := [8]) (by rfl) nd rfl rfl (sw_true rfl rfl rfl (by decide +kernel)) (pi_list (pv 3)) (blkOk_by (own := [("counts", 6), ("left", 7), ("count", 8)]) (N := nm_choices) (sc := defScope s_choices) (by decide +kernel)) (by decide) (fun _ _ _ _ _ => pg_tupK (K := K) (n := 2) rfl (by rfl) (pgs_cons (pg_name (i := 6) nd rfl (.inl rfl)) (pgs_cons (pg_name (i := 7) nd rfl (.inl rfl)) pgs_nil))) (fun _ _ _ _ _ => pts_nil) (fun _ _ _ _ _ => (pi_range2 (by rfl) T.b_range (pa_cons (pe_callB (call_max2 rfl) (by rfl) T.b_max (by decide +kernel) (pa_cons pe_int (pa_cons (pe_op op_sub (pv 7) (pv 4)) pa_nil))) (pa_cons (pe_op op_add (pe_callB (call_min2 rfl) (by rfl) T.b_min (by decide +kernel) (pa_cons (pv 5) (pa_cons (pv 7) pa_nil))) pe_int) pa_nil)))) (fun _ _ _ _ _ => pg_name (i := 8) nd rfl (.inl rfl)) (fun _ _ _ _ _ => pts_nil) (fun _ _ _ _ _ => (pe_tup (pa_cons (pe_op (op_catAK (K := K) rfl) (pv 6) (pe_tup (pa_cons (pv 8) pa_nil))) (pa_cons (pe_op op_sub (pv 7) (pv 8)) pa_nil))))))))
    (pss_one (ps_ret (pe_lc (own := [("counts", 6), ("left", 7)]) (by rfl) nd (pi_list (pv 3)) (blkOk_by (own := [("counts", 6), ("left", 7)]) (N := nm_choices) (sc := defScope s_choices) (by decide +kernel)) (fun _ _ _ _ _ => pg_tupK (K := K) (n := 2) rfl (by rfl) (pgs_cons (pg_name (i := 6) nd rfl (.inl rfl)) (pgs_cons (pg_name (i := 7) nd rfl (.inl rfl)) pgs_nil))) (fun _ _ _ _ _ => pts_nil) (fun _ _ _ _ _ => (pv 6))))))))))), ?_⟩
    have line : (5000000 : Nat) < sizeLine := by decide
    have nn : ∀ l ∈ xs, 0 ≤ l := fun l hl => (L.b l hl).1
    refine ⟨_, rfl, _, rfl, a, xs, t, rfl, ha, L, fun H1 s1 => ?_⟩
    have ha1 := s1.seq ha
    rcases hcase with ⟨few, fine, k⟩ | ⟨many, m18, kE⟩
    rotate_left
    · refine ⟨_, rfl, _, _, rfl, rfl, _, rfl, iteTd (by show (3003 : Int) < wAll xs t; exact many) ⟨_, rfl, by show 1 ≤ 1000; decide, fun b nb => ⟨b, _, rfl, ?_, upd_same, fun dx ndx ne => ⟨rfl, .inr ⟨dx, [("many", .int (wAll xs t))], upd_same, ?_, ?_, ?_⟩⟩⟩⟩⟩
      · exact .int _ (by omega)
      · rw [upd_ne ne, upd_same]
      · rwa [upd_ne ne] at ndx
      · rw [upd_ne ne] at ndx
        have nH : ∀ {c : Addr}, H1 c = none → H c = none := fun {c} e => by
          cases z : H c with
          | none => rfl
          | some o =>
            rw [s1 _ _ z] at e
            cases e
        refine kE _ dx (fun c o e => ?_) (nH ndx) upd_same
        have cd : c ≠ dx := ne_of_none e (nH ndx)
        have cb : c ≠ b := ne_of_none e (nH nb)
        rw [upd_ne cd, del_ne cb, upd_ne cb, upd_ne cd, upd_ne cb]
        exact s1 _ _ e
    refine ⟨_, rfl, _, _, rfl, rfl, _, rfl, iteFd (by show ¬ (3003 : Int) < wAll xs t; omega) ?_⟩
    refine ⟨by show 0 ≤ sizeLine; decide, fun l1 n1 => ?_⟩
    have s2 := s1.trans (same_new (o := .lst []) n1)
    have hl1 : (upd H1 l1 (.lst [])) l1 = some (.lst []) := upd_same
    generalize upd H1 l1 (.lst []) = H2 at s2 hl1
    refine ⟨fun σ' H' => ∃ (B : Addr) (vs : List V), σ' = [some (.ref a), some (.int t), some (.int (wAll xs t)), some (.ref B), none, none, none, none, none] ∧ Same H H' ∧ H' B = some (.lst vs) ∧ TpAll H' vs ((pAt xs t 0).map dPre), ?_, ?_⟩
    · rw [pAt_zero nn t0]
      refine ⟨_, rfl, _, _, rfl, rfl, _, rfl, ite2 (fun c => ?_) (fun c => ?_)⟩
      · have c := of_decide_eq_true c
        rw [if_pos c]
        refine ⟨by show 0 ≤ sizeLine; decide, fun p1 m1 => ⟨_, rfl, by show 2 ≤ sizeLine; decide, fun p2 m2 => ⟨by show 1 ≤ sizeLine; decide, fun p3 m3 => ⟨p3, [.ref p2], rfl, ((s2.trans (same_new m1)).trans (same_new m2)).trans (same_new m3), upd_same, ?_⟩⟩⟩⟩
        refine TpAll.kt (KT.new m3) (.cons ?_ .nil)
        exact .new m2 (.cons (.new m1 .nil) (.cons (.int t) .nil))
      · rw [if_neg (fun z => c (decide_eq_true z))]
        exact ⟨l1, [], rfl, s2, hl1, .nil⟩
    · rintro σ' H3 ⟨B, vs, rfl, s3, hB, tB⟩
      refine ⟨_, rfl, a, _, rfl, s3.seq ha, ?_⟩
      refine ⟨_, rfl, a, rfl, ⟨_, s3.seq ha⟩, for_list (K := K) (a := a) (xs := xs.map V.int) (fun i σ H' => ∃ (B : Addr) (vs : List V) (v5 : Option V), σ = [some (.ref a), some (.int t), some (.int (wAll xs t)), some (.ref B), some (.int (xs.drop i).sum), v5, none, none, none] ∧ Same H H' ∧ H' B = some (.lst vs) ∧ TpAll H' vs ((pAt xs t i).map dPre))
        ⟨B, vs, none, by rw [List.drop_zero]; rfl, s3, hB, tB⟩ ?_ ?_ ?_⟩
      · rintro i σ H' _ ⟨_, _, _, _, s', _⟩
        exact s'.seq ha
      · rintro i x σ H4 hi ⟨B, vs, v5, rfl, s4, hB, tB⟩
        obtain ⟨l, rfl, hl⟩ := int_at hi
        obtain ⟨li, el⟩ := List.getElem?_eq_some_iff.mp hl
        have lm := L.b l (List.mem_of_getElem? hl)
        have ed : (xs.drop i).sum - l = (xs.drop (i + 1)).sum := by
          rw [List.drop_eq_getElem_cons li, List.sum_cons, el]
          omega
        have bd : 0 ≤ (xs.drop (i + 1)).sum ∧ (xs.drop (i + 1)).sum ≤ 3600 := by
          have z := sum_le (xs.drop (i + 1)) fun y hy => L.b y (List.mem_of_mem_drop hy)
          have := L.n
          rw [List.length_drop] at z
          omega
        have full := pAt_next t0 lm.1 hl
        have lfull := pAt_len xs t (i + 1)
        have fin1 := fine (i + 1)
        rw [full] at lfull
        have left : ∀ p ∈ pAt xs t i, 0 ≤ p.2 ∧ p.2 ≤ 3660 ∧ p.1.length ≤ 60 := fun p hp => by
          unfold pAt at hp
          obtain ⟨h1, h2⟩ := List.mem_filter.mp hp
          have h2 := of_decide_eq_true h2
          refine ⟨all_left t0 _ p h1, by omega, ?_⟩
          rw [all_len t _ p h1, List.length_take]
          have := L.n
          omega
        generalize pAt xs t i = bs at tB full lfull left
        rw [← ed] at full lfull bd
        have lv := tB.len
        rw [List.length_map] at lv
        refine ⟨_, rfl, _, rfl, _, _, rfl, rfl, ?_⟩
        refine ⟨_, rfl, B, rfl, ⟨_, SqL.of hB⟩, fun D hD => lc2_list (xs := vs) (fun ii H5 => TpT H4 H5 D ((pStep ((xs.drop i).sum - l) l (bs.take ii)).map dPre)) (TpT.new hD) (fun ii H5 _ p => SqL.of (p.s _ _ hB)) (fun ii x H5 hx p => ?_) (fun H5 p => ?_)⟩
        · have hii : ii < bs.length := by
            rw [← lv]
            exact (List.getElem?_eq_some_iff.mp hx).1
          have hp0 : bs[ii]? = some bs[ii] := List.getElem?_eq_getElem hii
          have lp := left _ (List.getElem_mem hii)
          generalize bs[ii] = p0 at hp0 lp
          obtain ⟨v, hv, tv⟩ := tB.get (show (bs.map dPre)[ii]? = some (dPre p0) by rw [List.getElem?_map, hp0]; rfl)
          rw [hx] at hv
          cases hv
          obtain ⟨c, cb, rfl, hc4, hcb4⟩ := tp_pre tv
          have hc := p.s _ _ hc4
          have est : pStep ((xs.drop i).sum - l) l (bs.take (ii + 1)) = pStep ((xs.drop i).sum - l) l (bs.take ii) ++ pItem ((xs.drop i).sum - l) l p0 := by
            unfold pStep
            rw [List.take_add_one, hp0, List.map_append, List.flatten_append]
            show _ ++ ([p0].map (pItem ((xs.drop i).sum - l) l)).flatten = _
            rw [List.map_cons, List.map_nil, List.flatten_cons, List.flatten_nil, List.append_nil]
          have lst : (pStep ((xs.drop i).sum - l) l (bs.take ii)).length + (pItem ((xs.drop i).sum - l) l p0).length ≤ 1000000 := by
            have e : pStep ((xs.drop i).sum - l) l bs = pStep ((xs.drop i).sum - l) l (bs.take (ii + 1)) ++ pStep ((xs.drop i).sum - l) l (bs.drop (ii + 1)) := by
              unfold pStep
              rw [← List.flatten_append, ← List.map_append, List.take_append_drop]
            rw [e, est, List.length_append, List.length_append] at lfull
            omega
          have li : (pItem ((xs.drop i).sum - l) l p0).length = (mn2 l p0.2 + 1 - mx0 (p0.2 - ((xs.drop i).sum - l))).toNat := by
            unfold pItem
            rw [List.length_map, rg_len]
          refine ⟨c, _, rfl, SqT.of hc, rfl, _, _, rfl, _, _, rfl, rfl, rfl, yes_go ⟨_, rfl, _, rfl, _, _, rfl, rfl, _, _, rfl, _, rfl, _, rfl, _, _, rfl, _, _, rfl, rfl, _, _, rfl, ?_, ?_⟩⟩
          · show -(2 ^ 62) ≤ mx0 (p0.2 - ((xs.drop i).sum - l)) ∧ mx0 (p0.2 - ((xs.drop i).sum - l)) < 2 ^ 62 ∧ -(2 ^ 62) ≤ mn2 l p0.2 + 1 ∧ mn2 l p0.2 + 1 < 2 ^ 62
            obtain ⟨z1, z2, z3⟩ := mx0_b (x := p0.2 - ((xs.drop i).sum - l))
            obtain ⟨y1, y2, y3⟩ := mn2_b (l := l) (x := p0.2)
            have e62 : (2 : Int) ^ 62 = 4611686018427387904 := by decide
            rw [e62]
            by_cases c0 : 0 ≤ p0.2 - ((xs.drop i).sum - l)
            · have := z2 c0
              omega
            · have := z3 (by omega)
              omega
          · refine lc2_in (lo := mx0 (p0.2 - ((xs.drop i).sum - l))) (n := (mn2 l p0.2 + 1 - mx0 (p0.2 - ((xs.drop i).sum - l))).toNat) (fun j H6 => TpT H4 H6 D ((pStep ((xs.drop i).sum - l) l (bs.take ii) ++ (pItem ((xs.drop i).sum - l) l p0).take j).map dPre)) ?_ (fun j H6 hj p6 => ?_) (fun H6 p6 => ?_)
            · rw [List.take_zero, List.append_nil]
              exact p
            · have gj : (pItem ((xs.drop i).sum - l) l p0)[j]? = some (ext p0 (mx0 (p0.2 - ((xs.drop i).sum - l)) + ((j : Nat) : Int))) := by
                unfold pItem rgI
                rw [List.getElem?_map, List.getElem?_map, List.getElem?_range hj]
                rfl
              generalize mx0 (p0.2 - ((xs.drop i).sum - l)) + ((j : Nat) : Int) = ct at gj
              refine ⟨rfl, yes_go ⟨_, rfl, _, rfl, by show 1 ≤ sizeLine; decide, fun q1 m1 => tup_cat (same_new m1 _ _ (p6.s _ _ hcb4)) upd_same (by rw [List.length_map]; show p0.1.length + 1 ≤ _; omega) fun H7 r s7 h7 => ⟨_, rfl, _, rfl, _, _, rfl, rfl, by show 2 ≤ sizeLine; decide, fun q2 m2 => ?_⟩⟩⟩
              have h7' : H7 r = some (.tup ((p0.1 ++ [ct]).map V.int)) := by
                rw [h7, List.map_append]
                rfl
              rw [List.take_add_one, gj, ← List.append_assoc, List.map_append]
              refine p6.put hD (((same_new m1).trans s7).trans (same_new m2)) ?_ (.new m2 (.cons (tp_ints h7') (.cons (.int _) .nil)))
              have := List.length_take_le j (pItem ((xs.drop i).sum - l) l p0)
              rw [List.length_map, List.length_append]
              omega
            · rw [← li, List.take_length, ← est] at p6
              exact p6
        · rw [lv, List.take_length, ← full] at p
          obtain ⟨ys, hD5, tD⟩ := p.ex
          exact ⟨D, ys, some (.int l), by rw [← ed]; rfl, s4.trans p.s, hD5, tD⟩
      · rintro σ H4 ⟨B, vs, v5, rfl, s4, hB, tB⟩
        rw [List.length_map] at tB
        have lv := tB.len
        rw [List.length_map] at lv
        have e := pAt_end (ls := xs) t0
        have fn := pAt_len xs t xs.length
        have fi := fine xs.length
        generalize pAt xs t xs.length = bs at tB e lv fn
        refine ⟨_, rfl, B, rfl, ⟨_, SqL.of hB⟩, fun D hD => lc_list (xs := vs) (fun ii H5 => TpT H4 H5 D ((bs.take ii).map fun p => tI p.1)) (TpT.new hD) (fun ii H5 _ p => SqL.of (p.s _ _ hB)) (fun ii x H5 hx p => ?_) (fun H5 p => ?_)⟩
        · have hii : ii < bs.length := by
            rw [← lv]
            exact (List.getElem?_eq_some_iff.mp hx).1
          have hp0 : bs[ii]? = some bs[ii] := List.getElem?_eq_getElem hii
          generalize bs[ii] = p0 at hp0
          obtain ⟨v, hv, tv⟩ := tB.get (show (bs.map dPre)[ii]? = some (dPre p0) by rw [List.getElem?_map, hp0]; rfl)
          rw [hx] at hv
          cases hv
          obtain ⟨c, cb, rfl, hc, hcb⟩ := tp_pre (tv.kt (KT.same p.s))
          refine ⟨c, _, rfl, SqT.of hc, rfl, _, _, rfl, _, _, rfl, rfl, rfl, yes_go ⟨_, rfl, ?_⟩⟩
          rw [List.take_add_one, hp0, List.map_append]
          exact p.put hD (Same.refl _) (by rw [List.length_map]; have := List.length_take_le ii bs; omega) (tp_ints hcb)
        · rw [lv, List.take_length] at p
          obtain ⟨ys, hD5, tD⟩ := p.ex
          refine k H5 D ys (s4.trans p.s) (same_freeX s4 hD) hD5 ?_
          rw [← e, List.map_map]
          exact tD
end

/-! ### how many choices there are at most -/
structure Bnd (F : Int → Int) (T : Int) : Prop where
  b : ∀ (a : Int) (n : Nat), sm (fun k => F (a - k)) n ≤ T
theorem sm_mul (c : Int) (f : Int → Int) : ∀ n : Nat, (∀ i : Int, 0 ≤ i → i < n → f i ≤ c) → sm f n ≤ (n : Int) * c
  | 0, _ => by
    show (0 : Int) ≤ 0 * c
    omega
  | n + 1, h => by
    have a := sm_mul c f n fun i x y => h i x (by omega)
    have b := h n (by omega) (by omega)
    show sm f n + f n ≤ ((n + 1 : Nat) : Int) * c
    rw [show ((n + 1 : Nat) : Int) = (n : Int) + 1 from rfl, Int.add_mul, Int.one_mul]
    omega
theorem bnd0 : Bnd w0 1 := by
  refine ⟨fun a n => ?_⟩
  have z : ∀ n : Nat, sm (fun k => w0 (a - k)) n = if 0 ≤ a ∧ a < (n : Int) then 1 else 0 := by
    intro n
    induction n with
    | zero => exact (if_neg (by omega)).symm
    | succ n ih =>
      show sm (fun k => w0 (a - k)) n + w0 (a - n) = _
      rw [ih]
      unfold w0
      by_cases c : a = n
      · rw [if_neg (by omega), if_pos (by omega), if_pos (by omega)]
        rfl
      · rw [if_neg (by omega : ¬ a - (n : Int) = 0), Int.add_zero]
        by_cases c2 : 0 ≤ a ∧ a < (n : Int)
        · rw [if_pos c2, if_pos (by omega)]
        · rw [if_neg c2, if_neg (by omega)]
  rw [z]
  split <;> decide
theorem bnd_step {F : Int → Int} {T : Int} (h : Bnd F T) (l : Nat) : Bnd (wstep l F) (((l + 1 : Nat) : Int) * T) := by
  refine ⟨fun a n => ?_⟩
  have e : sm (fun k => wstep l F (a - k)) n = sm (fun j => sm (fun k => F (a - j - k)) n) (l + 1) := by
    show sm (fun k => sm (fun j => F (a - k - j)) (l + 1)) n = _
    rw [sm_swap]
    exact sm_congr _ fun j _ _ => sm_congr _ fun k _ _ => congrArg F (by omega)
  rw [e]
  exact sm_mul T _ _ fun j _ _ => h.b (a - j) n
theorem bnd_all {b : Nat} : ∀ ls : List Int, (∀ l ∈ ls, 0 ≤ l ∧ l + 1 ≤ (b : Int)) → ∃ T : Int, Bnd (wAll ls) T ∧ 0 ≤ T ∧ T ≤ ((b ^ ls.length : Nat) : Int) := by
  intro ls
  refine rev_ind2 (P := fun ls => (∀ l ∈ ls, 0 ≤ l ∧ l + 1 ≤ (b : Int)) → ∃ T : Int, Bnd (wAll ls) T ∧ 0 ≤ T ∧ T ≤ ((b ^ ls.length : Nat) : Int)) (fun _ => ⟨1, bnd0, by decide, Int.le_refl _⟩) (fun xs x ih h => ?_) ls
  obtain ⟨T, h1, h0, h2⟩ := ih fun l hl => h l (List.mem_append_left _ hl)
  have hx := h x (List.mem_append_right _ List.mem_cons_self)
  refine ⟨((x.toNat + 1 : Nat) : Int) * T, ?_, Int.mul_nonneg (by omega) h0, ?_⟩
  · rw [wAll_snoc]
    exact bnd_step h1 _
  · rw [List.length_append, List.length_singleton, Nat.pow_succ, Nat.mul_comm, Int.natCast_mul]
    exact Int.mul_le_mul (by omega) h2 h0 (by omega)
/-- one row less in the power -/
theorem wAll_le {b : Nat} (xs : List Int) (x t : Int) (h : ∀ l ∈ xs ++ [x], 0 ≤ l ∧ l + 1 ≤ (b : Int)) : wAll (xs ++ [x]) t ≤ ((b ^ xs.length : Nat) : Int) := by
  obtain ⟨T, h1, _, h2⟩ := bnd_all xs fun l hl => h l (List.mem_append_left _ hl)
  rw [wAll_snoc]
  exact Int.le_trans (h1.b t _) h2
/-! begun choices -/
theorem item_len (l : Int) (p : Pre) (h : 0 ≤ l) : ((lItem l p).length : Int) ≤ l + 1 := by
  unfold lItem
  rw [List.length_map, rg_len]
  have := (mn2_b (l := l) (x := p.2)).1
  omega
theorem step_len {b : Nat} (l : Int) (h : 0 ≤ l ∧ l + 1 ≤ (b : Int)) : ∀ bs : List Pre, (lStep l bs).length ≤ b * bs.length
  | [] => Nat.zero_le _
  | p :: r => by
    have ih := step_len l h r
    have a := item_len l p h.1
    unfold lStep at ih ⊢
    rw [List.map_cons, List.flatten_cons, List.length_append, List.length_cons, Nat.mul_succ]
    omega
theorem all_few {b : Nat} (t : Int) : ∀ ls : List Int, (∀ l ∈ ls, 0 ≤ l ∧ l + 1 ≤ (b : Int)) → (lAll ls t).length ≤ b ^ ls.length := by
  intro ls
  refine rev_ind2 (P := fun ls => (∀ l ∈ ls, 0 ≤ l ∧ l + 1 ≤ (b : Int)) → (lAll ls t).length ≤ b ^ ls.length) (fun _ => Nat.le_refl _) (fun xs x ih h => ?_) ls
  have a := ih fun l hl => h l (List.mem_append_left _ hl)
  have hx := h x (List.mem_append_right _ List.mem_cons_self)
  rw [lAll_snoc, List.length_append, List.length_singleton, Nat.pow_succ, Nat.mul_comm]
  exact Nat.le_trans (step_len x hx _) (Nat.mul_le_mul_left _ a)
theorem fine_few {b m : Nat} {ls : List Int} {t : Int} (hb : 1 ≤ b) (h : ∀ l ∈ ls, 0 ≤ l ∧ l + 1 ≤ (b : Int)) (hm : ls.length ≤ m) (small : b ^ m ≤ 1000000) : Fine ls t := fun i => by
  refine Nat.le_trans (all_few t (ls.take i) fun l hl => h l (List.mem_of_mem_take hl)) (Nat.le_trans (Nat.pow_le_pow_right hb ?_) small)
  rw [List.length_take]
  omega
/-! rows of one each -/
def wgt (m : Nat) (bs : List Pre) : Nat := (bs.map fun p => (m + 1) ^ p.2.toNat).sum
theorem wgt_app (m : Nat) (a b : List Pre) : wgt m (a ++ b) = wgt m a + wgt m b := by
  unfold wgt
  rw [List.map_append, List.sum_append]
theorem wgt_zero : ∀ bs : List Pre, wgt 0 bs = bs.length
  | [] => rfl
  | p :: r => by
    have ih := wgt_zero r
    unfold wgt at ih ⊢
    rw [List.map_cons, List.sum_cons, ih, List.length_cons, Nat.zero_add, Nat.one_pow]
    omega
theorem pow_two (m : Nat) : ∀ r : Nat, (m + 1) ^ (r + 1) + (m + 1) ^ r ≤ (m + 2) ^ (r + 1) := by
  intro r
  have h : (m + 1) ^ r ≤ (m + 2) ^ r := Nat.pow_le_pow_left (by omega) r
  rw [Nat.pow_succ, Nat.pow_succ, Nat.mul_succ]
  have e : (m + 1) ^ r * m + (m + 1) ^ r + (m + 1) ^ r = (m + 1) ^ r * (m + 2) := by
    rw [Nat.mul_add, Nat.mul_comm _ 2]
    omega
  rw [e]
  exact Nat.mul_le_mul_right _ h
theorem wgt_item (m : Nat) (p : Pre) (h : 0 ≤ p.2) : wgt m (lItem 1 p) ≤ (m + 2) ^ p.2.toNat := by
  unfold lItem mn2
  by_cases c : p.2 < 1
  · have e : p.2 = 0 := by omega
    rw [if_pos c, e, rg_cons (by decide), rg_nil (by decide)]
    show (m + 1) ^ (p.2 - 0).toNat + 0 ≤ _
    rw [e]
    show (m + 1) ^ 0 + 0 ≤ (m + 2) ^ 0
    rw [Nat.pow_zero, Nat.pow_zero]
    omega
  · rw [if_neg c, rg_cons (by decide), rg_cons (by decide), rg_nil (by decide)]
    show (m + 1) ^ (p.2 - 0).toNat + ((m + 1) ^ (p.2 - (0 + 1)).toNat + 0) ≤ _
    obtain ⟨r, er⟩ : ∃ r : Nat, p.2.toNat = r + 1 := ⟨p.2.toNat - 1, by omega⟩
    rw [show (p.2 - 0).toNat = r + 1 by omega, show (p.2 - (0 + 1)).toNat = r by omega, er, Nat.add_zero]
    exact pow_two m r
theorem wgt_step (m : Nat) : ∀ bs : List Pre, (∀ p ∈ bs, 0 ≤ p.2) → wgt m (lStep 1 bs) ≤ wgt (m + 1) bs
  | [], _ => Nat.le_refl _
  | p :: r, h => by
    have ih := wgt_step m r fun q hq => h q (List.mem_cons_of_mem _ hq)
    have a := wgt_item m p (h p List.mem_cons_self)
    unfold lStep at ih ⊢
    rw [List.map_cons, List.flatten_cons, wgt_app]
    have e : wgt (m + 1) (p :: r) = (m + 2) ^ p.2.toNat + wgt (m + 1) r := by
      unfold wgt
      rw [List.map_cons, List.sum_cons]
    rw [e]
    omega
theorem ones_len {t : Int} (ht : 0 ≤ t) (n : Nat) : (lAll (List.replicate n 1) t).length ≤ (n + 1) ^ t.toNat := by
  have z : ∀ k m : Nat, wgt m (lAll (List.replicate k 1) t) ≤ (m + k + 1) ^ t.toNat := by
    intro k
    induction k with
    | zero =>
      intro m
      show (m + 1) ^ t.toNat + 0 ≤ _
      exact Nat.le_refl _
    | succ k ih =>
      intro m
      rw [List.replicate_succ', lAll_snoc]
      refine Nat.le_trans (wgt_step m _ (all_left ht _)) ?_
      have := ih (m + 1)
      rwa [show m + 1 + k + 1 = m + (k + 1) + 1 by omega] at this
  have a := z n 0
  rw [wgt_zero] at a
  rwa [Nat.zero_add] at a
theorem fine_ones {n : Nat} {t : Int} (ht : 0 ≤ t) (h2 : t ≤ 2) (hn : n ≤ 60) : Fine (List.replicate n 1) t := fun i => by
  rw [List.take_replicate]
  refine Nat.le_trans (ones_len ht _) ?_
  have h : min i n + 1 ≤ 61 := by omega
  exact Nat.le_trans (Nat.pow_le_pow_left h _) (Nat.le_trans (Nat.pow_le_pow_right (by decide) (by omega : t.toNat ≤ 2)) (by decide))
theorem wones : ∀ n : Nat, wAll (List.replicate n 1) 0 ≤ 1 ∧ wAll (List.replicate n 1) 1 ≤ (n : Int) ∧ wAll (List.replicate n 1) 2 ≤ (n : Int) * n
  | 0 => ⟨by decide, by decide, by decide⟩
  | n + 1 => by
    obtain ⟨a, b, c⟩ := wones n
    have nn : ∀ l ∈ List.replicate n (1 : Int), 0 ≤ l := fun l hl => by
      rw [List.eq_of_mem_replicate hl]
      decide
    have z := (tall_all (List.replicate n 1) nn).lo (-1) (by decide)
    have st : ∀ t, wAll (List.replicate (n + 1) 1) t = wAll (List.replicate n 1) t + wAll (List.replicate n 1) (t - 1) := fun t => by
      rw [List.replicate_succ', wAll_snoc]
      show 0 + wAll (List.replicate n 1) (t - ((0 : Nat) : Int)) + wAll (List.replicate n 1) (t - ((1 : Nat) : Int)) = _
      rw [Int.zero_add, show t - ((0 : Nat) : Int) = t by omega]
      rfl
    rw [st 0, st 1, st 2]
    rw [show (0 : Int) - 1 = -1 from rfl, z, show (1 : Int) - 1 = 0 from rfl, show (2 : Int) - 1 = 1 from rfl]
    refine ⟨by omega, by omega, ?_⟩
    rw [show ((n + 1 : Nat) : Int) = (n : Int) + 1 from rfl, Int.add_mul, Int.mul_add]
    omega

/-! ### how many choices there are -/
def cntP (bs : List Pre) (r : Int) : Int := (((bs.filter fun p => decide (p.2 = r)).length : Nat) : Int)
theorem cntP_app (a b : List Pre) (r : Int) : cntP (a ++ b) r = cntP a r + cntP b r := by
  unfold cntP
  rw [List.filter_append, List.length_append]
  omega
theorem cntP_cons (p : Pre) (b : List Pre) (r : Int) : cntP (p :: b) r = (if p.2 = r then 1 else 0) + cntP b r := by
  unfold cntP
  rw [List.filter_cons]
  by_cases c : p.2 = r
  · rw [if_pos (decide_eq_true c), if_pos c, List.length_cons]
    omega
  · rw [if_neg (by rw [decide_eq_false c]; exact Bool.false_ne_true), if_neg c]
    omega
theorem sm_at (x r : Int) : ∀ n : Nat, sm (fun k => if x = r + k then 1 else 0) n = if r ≤ x ∧ x < r + n then 1 else 0
  | 0 => by
    rw [if_neg (by omega)]
    rfl
  | n + 1 => by
    show sm _ n + (if x = r + (n : Int) then 1 else 0) = _
    rw [sm_at x r n]
    by_cases c : x = r + (n : Int)
    · rw [if_pos c, if_neg (by omega), if_pos (by omega)]
      rfl
    · rw [if_neg c, Int.add_zero]
      by_cases c2 : r ≤ x ∧ x < r + (n : Int)
      · rw [if_pos c2, if_pos (by omega)]
      · rw [if_neg c2, if_neg (by omega)]
theorem rg_count (x r hi : Int) : ∀ (n : Nat) (lo : Int), (hi - lo).toNat = n → cntP ((rgI lo hi).map fun c => (([], x - c) : Pre)) r = if lo ≤ x - r ∧ x - r < hi then 1 else 0
  | 0, lo, h => by
    rw [rg_nil (by omega), if_neg (by omega)]
    rfl
  | n + 1, lo, h => by
    rw [rg_cons (by omega), List.map_cons, cntP_cons, rg_count x r hi n (lo + 1) (by omega)]
    by_cases c : x - lo = r
    · rw [if_pos c, if_neg (by omega), if_pos (by omega)]
      rfl
    · rw [if_neg c, Int.zero_add]
      by_cases c2 : lo + 1 ≤ x - r ∧ x - r < hi
      · rw [if_pos c2, if_pos (by omega)]
      · rw [if_neg c2, if_neg (by omega)]
theorem cntP_snd {bs cs : List Pre} (h : bs.map (·.2) = cs.map (·.2)) (r : Int) : cntP bs r = cntP cs r := by
  have e : ∀ l : List Pre, cntP l r = ((((l.map (·.2)).filter fun x => decide (x = r)).length : Nat) : Int) := fun l => by
    unfold cntP
    rw [List.filter_map, List.length_map]
    rfl
  rw [e, e, h]
theorem item_count {l : Int} (hl : 0 ≤ l) (p : Pre) (hp : 0 ≤ p.2) {r : Int} (hr : 0 ≤ r) : cntP (lItem l p) r = sm (fun k => if p.2 = r + k then 1 else 0) (l.toNat + 1) := by
  have e : cntP (lItem l p) r = cntP ((rgI 0 (mn2 l p.2 + 1)).map fun c => (([], p.2 - c) : Pre)) r := cntP_snd (by
    unfold lItem
    rw [List.map_map, List.map_map]
    rfl) r
  rw [e, rg_count _ _ _ _ _ rfl, sm_at]
  obtain ⟨a, b, c⟩ := mn2_b (l := l) (x := p.2)
  by_cases z : 0 ≤ p.2 - r ∧ p.2 - r < mn2 l p.2 + 1
  · rw [if_pos z, if_pos (by omega)]
  · rw [if_neg z, if_neg (by omega)]
theorem step_count {l : Int} (hl : 0 ≤ l) {r : Int} (hr : 0 ≤ r) : ∀ bs : List Pre, (∀ p ∈ bs, 0 ≤ p.2) → cntP (lStep l bs) r = sm (fun k => cntP bs (r + k)) (l.toNat + 1)
  | [], _ => by
    rw [sm_nil _ (fun k => cntP [] (r + k)) fun _ _ _ => rfl]
    rfl
  | p :: b, h => by
    have ih := step_count hl hr b fun q hq => h q (List.mem_cons_of_mem _ hq)
    have e : lStep l (p :: b) = lItem l p ++ lStep l b := rfl
    rw [e, cntP_app, item_count hl p (h p List.mem_cons_self) hr, ih, ← sm_add]
    exact sm_congr _ fun k _ _ => (cntP_cons p b _).symm
theorem all_count {t : Int} (ht : 0 ≤ t) : ∀ ls : List Int, (∀ l ∈ ls, 0 ≤ l) → ∀ r, 0 ≤ r → cntP (lAll ls t) r = wAll ls (t - r) := by
  intro ls
  refine rev_ind2 (P := fun ls => (∀ l ∈ ls, 0 ≤ l) → ∀ r, 0 ≤ r → cntP (lAll ls t) r = wAll ls (t - r)) (fun _ r hr => ?_) (fun xs x ih h r hr => ?_) ls
  · show cntP [(([], t) : Pre)] r = w0 (t - r)
    rw [cntP_cons]
    unfold w0
    by_cases c : t = r
    · rw [if_pos c, if_pos (by omega)]
      rfl
    · rw [if_neg c, if_neg (by omega)]
      rfl
  · rw [lAll_snoc, step_count (h x (List.mem_append_right _ List.mem_cons_self)) hr _ (all_left ht _), wAll_snoc]
    unfold wstep
    refine sm_congr _ fun k hk _ => ?_
    rw [ih (fun l hl => h l (List.mem_append_left _ hl)) (r + k) (by omega)]
    exact congrArg _ (by omega)
/-- as many as there are ways -/
theorem due_len {t : Int} (ht : 0 ≤ t) {ls : List Int} (h : ∀ l ∈ ls, 0 ≤ l) : (((due ls t).length : Nat) : Int) = wAll ls t := by
  have a := all_count ht ls h 0 (Int.le_refl _)
  unfold due
  rw [List.length_map]
  rw [show t - 0 = t by omega] at a
  exact a
/-- each has a count of each row, none of them too great -/
theorem due_fit {t : Int} (ht : 0 ≤ t) {ls : List Int} (h : ∀ l ∈ ls, 0 ≤ l) : ∀ c ∈ due ls t, c.length = ls.length ∧ ∀ (i : Nat) (z l : Int), c[i]? = some z → ls[i]? = some l → 0 ≤ z ∧ z ≤ l := by
  have all : ∀ (ls : List Int), (∀ l ∈ ls, 0 ≤ l) → ∀ p ∈ lAll ls t, ∀ (i : Nat) (z l : Int), p.1[i]? = some z → ls[i]? = some l → 0 ≤ z ∧ z ≤ l := by
    intro ls
    refine rev_ind2 (P := fun ls => (∀ l ∈ ls, 0 ≤ l) → ∀ p ∈ lAll ls t, ∀ (i : Nat) (z l : Int), p.1[i]? = some z → ls[i]? = some l → 0 ≤ z ∧ z ≤ l) (fun _ p hp i z l _ e => ?_) (fun xs x ih h p hp i z l ez el => ?_) ls
    · rw [List.getElem?_nil] at e
      cases e
    · rw [lAll_snoc] at hp
      unfold lStep at hp
      obtain ⟨q, hq, hpq⟩ := List.mem_flatten.mp hp
      obtain ⟨r, hr, rfl⟩ := List.mem_map.mp hq
      unfold lItem at hpq
      obtain ⟨c, hc, rfl⟩ := List.mem_map.mp hpq
      have hc := mem_rg.mp hc
      have lr := all_len t xs r hr
      have ez : (r.1 ++ [c])[i]? = some z := ez
      by_cases k : i < xs.length
      · rw [List.getElem?_append_left (by omega)] at ez el
        exact ih (fun l hl => h l (List.mem_append_left _ hl)) r hr i z l ez el
      · rw [List.getElem?_append_right (by omega)] at ez el
        have ei : i - xs.length = 0 := by
          have := (List.getElem?_eq_some_iff.mp el).1
          rw [List.length_singleton] at this
          omega
        rw [ei] at el
        rw [lr, ei] at ez
        cases el
        cases ez
        obtain ⟨a, b, _⟩ := mn2_b (l := x) (x := r.2)
        omega
  intro c hc
  unfold due at hc
  obtain ⟨p, hp, rfl⟩ := List.mem_map.mp hc
  have hp := (List.mem_filter.mp hp).1
  exact ⟨all_len t ls p hp, all ls h p hp⟩

/-! ### choices of counts by the first row -/
def preP (p : List Int) (q : Pre) : Pre := (p ++ q.1, q.2)
theorem item_pre (l : Int) (p : List Int) (q : Pre) : lItem l (preP p q) = (lItem l q).map (preP p) := by
  unfold lItem
  rw [List.map_map]
  show (rgI 0 (mn2 l q.2 + 1)).map (ext (p ++ q.1, q.2)) = _
  refine List.map_congr_left fun c _ => ?_
  show ((p ++ q.1) ++ [c], q.2 - c) = (p ++ (q.1 ++ [c]), q.2 - c)
  rw [List.append_assoc]
theorem step_flat (l : Int) (bs : List Pre) : lStep l bs = bs.flatMap (lItem l) := (List.flatMap_def ..).symm
theorem fold_from (bs : List Pre) : ∀ ls : List Int, ls.foldl (fun bs l => lStep l bs) bs = bs.flatMap fun p => (lAll ls p.2).map (preP p.1) := by
  intro ls
  refine rev_ind2 (P := fun ls => ls.foldl (fun bs l => lStep l bs) bs = bs.flatMap fun p => (lAll ls p.2).map (preP p.1)) ?_ (fun xs x ih => ?_) ls
  · show bs = bs.flatMap fun p => [((p.1 ++ [], p.2) : Pre)]
    induction bs with
    | nil => rfl
    | cons b r ih =>
      rw [List.flatMap_cons, List.append_nil, ← ih]
      rfl
  · rw [List.foldl_append, ih]
    show lStep x _ = _
    rw [step_flat, List.flatMap_assoc]
    congr 1
    funext p
    rw [lAll_snoc, step_flat, List.map_flatMap, List.flatMap_map]
    congr 1
    funext q
    exact item_pre x p.1 q
theorem due_cons (l : Int) (ls : List Int) (t : Int) : due (l :: ls) t = (rgI 0 (mn2 l t + 1)).flatMap fun c => (due ls (t - c)).map (c :: ·) := by
  have e : lAll (l :: ls) t = ((rgI 0 (mn2 l t + 1)).map fun c => (([c], t - c) : Pre)).flatMap fun p => (lAll ls p.2).map (preP p.1) := by
    show ls.foldl (fun bs l => lStep l bs) (lStep l [([], t)]) = _
    rw [fold_from]
    congr 1
    rw [step_flat, List.flatMap_cons, List.flatMap_nil, List.append_nil]
    rfl
  unfold due
  rw [e, List.filter_flatMap, List.map_flatMap, List.flatMap_map]
  congr 1
  funext c
  rw [List.filter_map, List.map_map, List.map_map]
  rfl
theorem due_nil (t : Int) : due [] t = if t = 0 then [[]] else [] := by
  show ((([([], t)] : List Pre).filter fun p => decide (p.2 = 0)).map (·.1)) = _
  rw [List.filter_cons]
  by_cases c : t = 0
  · rw [if_pos (decide_eq_true c), if_pos c]
    rfl
  · rw [if_neg (by rw [decide_eq_false c]; exact Bool.false_ne_true), if_neg c]
    rfl
theorem due_neg {t : Int} (h : t < 0) : ∀ ls : List Int, due ls t = []
  | [] => by rw [due_nil, if_neg (by omega)]
  | l :: r => by
    have := (mn2_b (l := l) (x := t)).2.1
    rw [due_cons, rg_nil (by omega)]
    rfl
theorem due_over {ls : List Int} {t : Int} (p : ∀ l ∈ ls, 0 ≤ l) (h : ls.sum < t) : due ls t = [] := by
  have s := (tall_all ls p)
  by_cases c : t < 0
  · exact due_neg c ls
  · have e := due_len (by omega) p (t := t)
    rw [s.hi t h] at e
    exact List.length_eq_zero_iff.mp (by omega)
theorem rg_flat {α : Type} (H : Int → List α) (a b hi : Int) (hb : b ≤ hi) (no : ∀ d, ¬ (a ≤ d ∧ d < b) → H d = []) : ∀ (n : Nat) (lo : Int), (hi - lo).toNat = n → (rgI lo hi).flatMap H = (rgI (if lo < a then a else lo) b).flatMap H
  | 0, lo, h => by
    rw [rg_nil (by omega), rg_nil (by split <;> omega)]
  | n + 1, lo, h => by
    rw [rg_cons (by omega), List.flatMap_cons, rg_flat H a b hi hb no n (lo + 1) (by omega)]
    by_cases c : lo < a
    · rw [if_pos c, no lo (by omega), List.nil_append]
      by_cases c2 : lo + 1 < a
      · rw [if_pos c2]
      · rw [if_neg c2, show lo + 1 = a by omega]
    · rw [if_neg c, if_neg (by omega : ¬ lo + 1 < a)]
      by_cases c2 : lo < b
      · rw [rg_cons c2, List.flatMap_cons]
      · rw [no lo (by omega), rg_nil (by omega), rg_nil (by omega)]
        rfl
/-- what is left of each row -/
def cmpl (ls c : List Int) : List Int := List.zipWith (fun a b => a - b) ls c
theorem rg_turn (l : Int) : ∀ (n : Nat) (k : Int), k.toNat = n → ((rgI 0 k).reverse.map fun c => l - c) = rgI (l - k + 1) (l + 1)
  | 0, k, h => by
    rw [rg_nil (by omega), rg_nil (by omega)]
    rfl
  | n + 1, k, h => by
    have e : rgI 0 k = rgI 0 (k - 1) ++ [k - 1] := by
      unfold rgI
      rw [show (k - 0).toNat = (k - 1 - 0).toNat + 1 by omega, List.range_succ, List.map_append]
      congr 1
      show [0 + (((k - 1 - 0).toNat : Nat) : Int)] = [k - 1]
      congr 1
      omega
    rw [e, List.reverse_append, List.map_append, rg_turn l n (k - 1) (by omega), rg_cons (by omega : l - k + 1 < l + 1)]
    show [l - (k - 1)] ++ _ = _
    rw [show l - (k - 1) = l - k + 1 by omega]
    rfl
theorem due_turn : ∀ (ls : List Int) (t : Int), 0 ≤ t → (∀ l ∈ ls, 0 ≤ l) → due ls (ls.sum - t) = ((due ls t).map (cmpl ls)).reverse
  | [], t, _, _ => by
    rw [due_nil, due_nil]
    show (if 0 - t = 0 then _ else _) = _
    by_cases c : t = 0
    · rw [if_pos (by omega), if_pos c]
      rfl
    · rw [if_neg (by omega), if_neg c]
      rfl
  | l :: r, t, ht, p => by
    have p0 := p l List.mem_cons_self
    have pr : ∀ x ∈ r, 0 ≤ x := fun x hx => p x (List.mem_cons_of_mem _ hx)
    have e1 : ((due (l :: r) t).map (cmpl (l :: r))).reverse = (rgI (l - mn2 l t) (l + 1)).flatMap fun d => (due r (r.sum + l - t - d)).map (d :: ·) := by
      rw [due_cons, List.map_flatMap, List.reverse_flatMap]
      rw [show l - mn2 l t = l - (mn2 l t + 1) + 1 by omega, ← rg_turn l _ (mn2 l t + 1) rfl, List.flatMap_map]
      rw [List.flatMap_def, List.flatMap_def]
      refine congrArg List.flatten (List.map_congr_left fun c hc => ?_)
      have hc := mem_rg.mp (List.mem_reverse.mp hc)
      have := (mn2_b (l := l) (x := t)).2.1
      show (((due r (t - c)).map (c :: ·)).map (cmpl (l :: r))).reverse = _
      rw [show r.sum + l - t - (l - c) = r.sum - (t - c) by omega, due_turn r (t - c) (by omega) pr, List.map_map, ← List.map_reverse, ← List.map_reverse, List.map_map]
      rfl
    rw [e1, due_cons, List.sum_cons]
    obtain ⟨m1, m2, m3⟩ := mn2_b (l := l) (x := t)
    obtain ⟨q1, q2, q3⟩ := mn2_b (l := l) (x := l + r.sum - t)
    have H : ∀ d : Int, (0 ≤ d → d < l - mn2 l t → (due r (r.sum + l - t - d)).map (d :: ·) = []) ∧ (mn2 l (l + r.sum - t) < d → d ≤ l → (due r (r.sum + l - t - d)).map (d :: ·) = []) := fun d => by
      refine ⟨fun h1 h2 => ?_, fun h1 h2 => ?_⟩
      · rw [due_over pr (by omega)]
        rfl
      · rw [due_neg (by omega)]
        rfl
    have a1 := rg_flat (fun d => if 0 ≤ d ∧ d ≤ l then (due r (r.sum + l - t - d)).map (d :: ·) else []) (l - mn2 l t) (l + 1) (l + 1) (Int.le_refl _) (fun d hd => by
      by_cases c : 0 ≤ d ∧ d ≤ l
      · rw [if_pos c]
        exact (H d).1 c.1 (by omega)
      · exact if_neg c) _ 0 rfl
    have a2 := rg_flat (fun d => if 0 ≤ d ∧ d ≤ l then (due r (r.sum + l - t - d)).map (d :: ·) else []) 0 (mn2 l (l + r.sum - t) + 1) (l + 1) (by omega) (fun d hd => by
      by_cases c : 0 ≤ d ∧ d ≤ l
      · rw [if_pos c]
        exact (H d).2 (by omega) c.2
      · exact if_neg c) _ 0 rfl
    have z1 : (if (0 : Int) < l - mn2 l t then l - mn2 l t else 0) = l - mn2 l t := by split <;> omega
    have z2 : (if (0 : Int) < 0 then (0 : Int) else 0) = 0 := rfl
    rw [z1] at a1
    rw [z2] at a2
    have same : ∀ lo hi : Int, 0 ≤ lo → hi ≤ l + 1 → (rgI lo hi).flatMap (fun d => if 0 ≤ d ∧ d ≤ l then (due r (r.sum + l - t - d)).map (d :: ·) else []) = (rgI lo hi).flatMap fun d => (due r (r.sum + l - t - d)).map (d :: ·) := fun lo hi h1 h2 => by
      rw [List.flatMap_def, List.flatMap_def]
      refine congrArg List.flatten (List.map_congr_left fun d hd => ?_)
      have hd := mem_rg.mp hd
      exact if_pos (by omega)
    have cm : (fun c : Int => (due r (l + r.sum - t - c)).map (c :: ·)) = fun d => (due r (r.sum + l - t - d)).map (d :: ·) := funext fun c => by rw [Int.add_comm l]
    rw [cm]
    exact (same 0 (mn2 l (l + r.sum - t) + 1) (Int.le_refl _) (by omega)).symm.trans (a2.symm.trans (a1.trans (same (l - mn2 l t) (l + 1) (by omega) (Int.le_refl _))))
/-! ### they rise, and have the total -/
def LexLt (c d : List Int) : Prop := ∃ j : Nat, (∀ i : Nat, i < j → c[i]? = d[i]?) ∧ ∃ x y, c[j]? = some x ∧ d[j]? = some y ∧ x < y
theorem rg_rises (lo hi : Int) : (rgI lo hi).Pairwise (· < ·) := by
  unfold rgI
  rw [List.pairwise_map]
  exact List.pairwise_lt_range.imp fun h => by omega
theorem due_rises : ∀ (ls : List Int) (t : Int), (due ls t).Pairwise LexLt
  | [], t => by
    rw [due_nil]
    split
    · exact List.pairwise_singleton _ _
    · exact List.Pairwise.nil
  | l :: r, t => by
    rw [due_cons, List.pairwise_flatMap]
    refine ⟨fun c _ => ?_, (rg_rises _ _).imp fun {a b} h x hx y hy => ?_⟩
    · rw [List.pairwise_map]
      refine (due_rises r (t - c)).imp fun {x y} ⟨j, e, u, v, eu, ev, lt⟩ => ⟨j + 1, fun i hi => ?_, u, v, eu, ev, lt⟩
      cases i with
      | zero => rfl
      | succ i => exact e i (by omega)
    · obtain ⟨x', _, rfl⟩ := List.mem_map.mp hx
      obtain ⟨y', _, rfl⟩ := List.mem_map.mp hy
      exact ⟨0, fun i hi => absurd hi (Nat.not_lt_zero _), a, b, rfl, rfl, h⟩
theorem due_sum : ∀ (ls : List Int) (t : Int), ∀ c ∈ due ls t, c.sum = t ∧ c.length = ls.length
  | [], t, c, hc => by
    rw [due_nil] at hc
    split at hc
    · rename_i e
      rw [List.mem_singleton.mp hc, e]
      exact ⟨rfl, rfl⟩
    · cases hc
  | l :: r, t, c, hc => by
    rw [due_cons] at hc
    obtain ⟨k, _, hc⟩ := List.mem_flatMap.mp hc
    obtain ⟨d, hd, rfl⟩ := List.mem_map.mp hc
    obtain ⟨e1, e2⟩ := due_sum r (t - k) d hd
    rw [List.sum_cons, e1, List.length_cons, List.length_cons, e2]
    exact ⟨by omega, rfl⟩
/-! ### the order of rows does not matter -/
theorem wFrom_perm {ls ks : List Int} (h : ls.Perm ks) : ∀ F, wFrom F ls = wFrom F ks := by
  induction h with
  | nil => exact fun _ => rfl
  | cons x _ ih => exact fun F => ih _
  | swap x y r =>
    intro F
    show wFrom (wstep x.toNat (wstep y.toNat F)) r = wFrom (wstep y.toNat (wstep x.toNat F)) r
    rw [wstep_comm]
  | trans _ _ a b => exact fun F => (a F).trans (b F)
theorem wAll_perm {ls ks : List Int} (h : ls.Perm ks) : wAll ls = wAll ks := wFrom_perm h w0
/-! ### how long the lists on the way are -/
def pr (ls : List Int) : Nat := ls.foldr (fun l a => (l.toNat + 1) * a) 1
theorem pr_append (a b : List Int) : pr (a ++ b) = pr a * pr b := by
  induction a with
  | nil => exact (Nat.one_mul _).symm
  | cons x r ih =>
    show (x.toNat + 1) * pr (r ++ b) = (x.toNat + 1) * pr r * pr b
    rw [ih, Nat.mul_assoc]
theorem pr_pos (ls : List Int) : 1 ≤ pr ls := by
  induction ls with
  | nil => exact Nat.le_refl _
  | cons x r ih => exact Nat.mul_pos (Nat.succ_pos _) ih
theorem pr_perm {ls ks : List Int} (h : ls.Perm ks) : pr ls = pr ks := by
  induction h with
  | nil => rfl
  | cons x _ ih =>
    show (x.toNat + 1) * _ = (x.toNat + 1) * _
    exact congrArg _ ih
  | swap x y r =>
    show (y.toNat + 1) * ((x.toNat + 1) * pr r) = (x.toNat + 1) * ((y.toNat + 1) * pr r)
    rw [← Nat.mul_assoc, ← Nat.mul_assoc, Nat.mul_comm (y.toNat + 1)]
  | trans _ _ a b => exact a.trans b
theorem all_pr (t : Int) : ∀ ls : List Int, (∀ l ∈ ls, 0 ≤ l) → (lAll ls t).length ≤ pr ls := by
  intro ls
  refine rev_ind2 (P := fun ls => (∀ l ∈ ls, 0 ≤ l) → (lAll ls t).length ≤ pr ls) (fun _ => Nat.le_refl _) (fun xs x ih h => ?_) ls
  have a := ih fun l hl => h l (List.mem_append_left _ hl)
  have hx := h x (List.mem_append_right _ List.mem_cons_self)
  have b := step_len (b := x.toNat + 1) x ⟨hx, by omega⟩ (lAll xs t)
  rw [lAll_snoc, pr_append]
  show _ ≤ pr xs * ((x.toNat + 1) * 1)
  rw [Nat.mul_one, Nat.mul_comm]
  exact Nat.le_trans b (Nat.mul_le_mul_left _ a)
theorem fine_pr {ls : List Int} {t : Int} (p : ∀ l ∈ ls, 0 ≤ l) (h : pr ls ≤ 1000000) : Fine ls t := fun i => by
  refine Nat.le_trans (all_pr t _ fun l hl => p l (List.mem_of_mem_take hl)) ?_
  have e : pr ls = pr (ls.take i) * pr (ls.drop i) := by rw [← pr_append, List.take_append_drop]
  have := Nat.mul_le_mul_left (pr (ls.take i)) (pr_pos (ls.drop i))
  omega
theorem wgt_range (m : Nat) (p : Pre) : ∀ (n : Nat) (lo hi : Int), (hi - lo).toNat = n → lo ≤ p.2 → hi ≤ p.2 + 1 → wgt m ((rgI lo hi).map (ext p)) ≤ (m + 2) ^ (p.2 - lo).toNat
  | 0, lo, hi, h, _, _ => by
    rw [rg_nil (by omega)]
    exact Nat.zero_le _
  | n + 1, lo, hi, h, h1, h2 => by
    rw [rg_cons (by omega), List.map_cons]
    have e : wgt m (ext p lo :: (rgI (lo + 1) hi).map (ext p)) = (m + 1) ^ (p.2 - lo).toNat + wgt m ((rgI (lo + 1) hi).map (ext p)) := by
      unfold wgt
      rw [List.map_cons, List.sum_cons]
      rfl
    rw [e]
    by_cases c : lo = p.2
    · rw [rg_nil (by omega), show (p.2 - lo).toNat = 0 by omega, Nat.pow_zero, Nat.pow_zero]
      exact Nat.le_refl _
    · have ih := wgt_range m p n (lo + 1) hi (by omega) (by omega) h2
      obtain ⟨s, es⟩ : ∃ s : Nat, (p.2 - lo).toNat = s + 1 := ⟨(p.2 - lo).toNat - 1, by omega⟩
      rw [show (p.2 - (lo + 1)).toNat = s by omega] at ih
      rw [es]
      have a : (m + 1) ^ s * (m + 1) ≤ (m + 2) ^ s * (m + 1) := Nat.mul_le_mul_right _ (Nat.pow_le_pow_left (by omega) s)
      rw [Nat.pow_succ, Nat.pow_succ]
      have b : (m + 2) ^ s * (m + 2) = (m + 2) ^ s * (m + 1) + (m + 2) ^ s := Nat.mul_succ _ _
      omega
theorem wgt_steps (m : Nat) (l : Int) : ∀ bs : List Pre, (∀ p ∈ bs, 0 ≤ p.2) → wgt m (lStep l bs) ≤ wgt (m + 1) bs
  | [], _ => Nat.le_refl _
  | p :: r, h => by
    have ih := wgt_steps m l r fun q hq => h q (List.mem_cons_of_mem _ hq)
    have p0 := h p List.mem_cons_self
    have q := mn2_b (l := l) (x := p.2)
    have a := wgt_range m p _ 0 (mn2 l p.2 + 1) rfl p0 (by omega)
    rw [show p.2 - 0 = p.2 by omega] at a
    have e0 : lStep l (p :: r) = lItem l p ++ lStep l r := rfl
    rw [e0, wgt_app]
    have e : wgt (m + 1) (p :: r) = (m + 2) ^ p.2.toNat + wgt (m + 1) r := by
      unfold wgt
      rw [List.map_cons, List.sum_cons]
    rw [e]
    have a : wgt m (lItem l p) ≤ (m + 2) ^ p.2.toNat := a
    omega
theorem all_pow {t : Int} (ht : 0 ≤ t) (ls : List Int) : (lAll ls t).length ≤ (ls.length + 1) ^ t.toNat := by
  have z : ∀ (ks : List Int) (m : Nat), wgt m (lAll ks t) ≤ (m + ks.length + 1) ^ t.toNat := by
    intro ks
    refine rev_ind2 (P := fun ks => ∀ m, wgt m (lAll ks t) ≤ (m + ks.length + 1) ^ t.toNat) (fun m => ?_) (fun xs x ih m => ?_) ks
    · show (m + 1) ^ t.toNat + 0 ≤ _
      exact Nat.le_refl _
    · rw [lAll_snoc]
      refine Nat.le_trans (wgt_steps m x _ (all_left ht _)) ?_
      have := ih (m + 1)
      rwa [show m + 1 + xs.length + 1 = m + (xs ++ [x]).length + 1 by rw [List.length_append, List.length_singleton]; omega] at this
  have a := z ls 0
  rw [wgt_zero] at a
  rwa [Nat.zero_add] at a
theorem fine_pow {ls : List Int} {t : Int} {n k : Nat} (ht : 0 ≤ t) (hk : t ≤ (k : Int)) (hn : ls.length ≤ n) (h : (n + 1) ^ k ≤ 1000000) : Fine ls t := fun i => by
  refine Nat.le_trans (all_pow ht _) (Nat.le_trans (Nat.le_trans (Nat.pow_le_pow_left (?_ : (ls.take i).length + 1 ≤ n + 1) _) (Nat.pow_le_pow_right (Nat.succ_pos _) (by omega : t.toNat ≤ k))) h)
  have := List.length_take_le' i ls
  omega
/-! ### few of small totals -/
theorem wst_two {F : Int → Int} (pos : ∀ t, 0 ≤ F t) (neg : ∀ t, t < 0 → F t = 0) (l : Nat) : wstep l F 0 ≤ F 0 ∧ wstep l F 1 ≤ F 1 + F 0 ∧ wstep l F 2 ≤ F 2 + F 1 + F 0 := by
  have p0 := pos 0
  have p1 := pos 1
  have p2 := pos 2
  have z : ∀ n : Nat, sm (fun k => F (0 - k)) (n + 1) ≤ F 0 ∧ (sm (fun k => F (1 - k)) (n + 1) ≤ F 1 + F 0 ∧ (n = 0 → sm (fun k => F (1 - k)) (n + 1) = F 1)) ∧ (sm (fun k => F (2 - k)) (n + 1) ≤ F 2 + F 1 + F 0 ∧ (n = 0 → sm (fun k => F (2 - k)) (n + 1) = F 2) ∧ (n = 1 → sm (fun k => F (2 - k)) (n + 1) = F 2 + F 1)) := by
    intro n
    induction n with
    | zero =>
      have a : sm (fun k => F (0 - k)) (0 + 1) = 0 + F (0 - ((0 : Nat) : Int)) := rfl
      have b : sm (fun k => F (1 - k)) (0 + 1) = 0 + F (1 - ((0 : Nat) : Int)) := rfl
      have c : sm (fun k => F (2 - k)) (0 + 1) = 0 + F (2 - ((0 : Nat) : Int)) := rfl
      rw [show (0 : Int) - ((0 : Nat) : Int) = 0 from rfl] at a
      rw [show (1 : Int) - ((0 : Nat) : Int) = 1 from rfl] at b
      rw [show (2 : Int) - ((0 : Nat) : Int) = 2 from rfl] at c
      exact ⟨by omega, ⟨by omega, fun _ => by omega⟩, by omega, fun _ => by omega, fun h => by cases h⟩
    | succ n ih =>
      obtain ⟨i0, ⟨i1, j1⟩, i2, j2, k2⟩ := ih
      have a : sm (fun k => F (0 - k)) (n + 1 + 1) = sm (fun k => F (0 - k)) (n + 1) + F (0 - ((n + 1 : Nat) : Int)) := rfl
      have b : sm (fun k => F (1 - k)) (n + 1 + 1) = sm (fun k => F (1 - k)) (n + 1) + F (1 - ((n + 1 : Nat) : Int)) := rfl
      have c : sm (fun k => F (2 - k)) (n + 1 + 1) = sm (fun k => F (2 - k)) (n + 1) + F (2 - ((n + 1 : Nat) : Int)) := rfl
      have n0 := neg (0 - ((n + 1 : Nat) : Int)) (by omega)
      refine ⟨by omega, ⟨?_, fun h => by omega⟩, ?_, fun h => by omega, fun h => ?_⟩
      · cases n with
        | zero =>
          rw [show (1 : Int) - ((0 + 1 : Nat) : Int) = 0 from rfl] at b
          have := j1 rfl
          omega
        | succ n =>
          have := neg (1 - ((n + 1 + 1 : Nat) : Int)) (by omega)
          omega
      · match n with
        | 0 =>
          rw [show (2 : Int) - ((0 + 1 : Nat) : Int) = 1 from rfl] at c
          have := j2 rfl
          omega
        | 1 =>
          rw [show (2 : Int) - ((1 + 1 : Nat) : Int) = 0 from rfl] at c
          have := k2 rfl
          omega
        | n + 2 =>
          have := neg (2 - ((n + 2 + 1 : Nat) : Int)) (by omega)
          omega
      · obtain rfl : n = 0 := by omega
        rw [show (2 : Int) - ((0 + 1 : Nat) : Int) = 1 from rfl] at c
        have := j2 rfl
        omega
  obtain ⟨a, ⟨b, _⟩, c, _, _⟩ := z l
  exact ⟨a, b, c⟩
theorem few_two : ∀ ls : List Int, (∀ l ∈ ls, 0 ≤ l) → wAll ls 0 ≤ 1 ∧ wAll ls 1 ≤ (ls.length : Int) ∧ 2 * wAll ls 2 ≤ (ls.length : Int) * (ls.length + 1) := by
  intro ls
  refine rev_ind2 (P := fun ls => (∀ l ∈ ls, 0 ≤ l) → wAll ls 0 ≤ 1 ∧ wAll ls 1 ≤ (ls.length : Int) ∧ 2 * wAll ls 2 ≤ (ls.length : Int) * (ls.length + 1)) (fun _ => ⟨by decide, by decide, by decide⟩) (fun xs x ih h => ?_) ls
  have hx : ∀ l ∈ xs, 0 ≤ l := fun l hl => h l (List.mem_append_left _ hl)
  obtain ⟨a, b, c⟩ := ih hx
  obtain ⟨u, v, w⟩ := wst_two (F := wAll xs) (wAll_pos xs hx).1 (fun t ht => (tall_all xs hx).lo t ht) x.toNat
  rw [wAll_snoc, List.length_append, List.length_singleton]
  refine ⟨by omega, by omega, ?_⟩
  rw [show ((xs.length + 1 : Nat) : Int) = (xs.length : Int) + 1 from rfl, Int.add_mul, Int.mul_add (xs.length : Int) ((xs.length : Int) + 1) 1]
  omega
/-! ### reckoned -/
def nxW (l : Nat) (v : List Nat) : List Nat := (List.range v.length).map fun i => ((List.range (min l i + 1)).map fun k => v.getD (i - k) 0).sum
def wtab (T : Nat) (ls : List Int) : List Nat := ls.foldl (fun v l => nxW l.toNat v) (1 :: List.replicate T 0)
theorem sm_cut (f : Int → Int) (i : Nat) (z : ∀ k : Nat, i < k → f k = 0) : ∀ l : Nat, sm f (l + 1) = sm f (min l i + 1)
  | 0 => by rw [Nat.zero_min]
  | l + 1 => by
    by_cases c : l + 1 ≤ i
    · rw [Nat.min_eq_left c]
    · have e : sm f (l + 1 + 1) = sm f (l + 1) + f ((l + 1 : Nat) : Int) := rfl
      rw [e, z (l + 1) (by omega), Int.add_zero, sm_cut f i z l, show min l i = i by omega, show min (l + 1) i = i by omega]
theorem sm_sum (f : Int → Int) (g : Nat → Nat) : ∀ n : Nat, (∀ k : Nat, k < n → f k = (g k : Int)) → sm f n = ((((List.range n).map g).sum : Nat) : Int)
  | 0, _ => rfl
  | n + 1, h => by
    rw [List.range_succ, List.map_append, List.sum_append]
    have a := sm_sum f g n fun k hk => h k (by omega)
    have b := h n (by omega)
    show sm f n + f n = _
    rw [a, b]
    show _ = (((_ + (g n + 0) : Nat)) : Int)
    omega
theorem wtab_at (T : Nat) : ∀ ls : List Int, (∀ l ∈ ls, 0 ≤ l) → (wtab T ls).length = T + 1 ∧ ∀ i, i ≤ T → (((wtab T ls).getD i 0 : Nat) : Int) = wAll ls i := by
  intro ls
  refine rev_ind2 (P := fun ls => (∀ l ∈ ls, 0 ≤ l) → (wtab T ls).length = T + 1 ∧ ∀ i, i ≤ T → (((wtab T ls).getD i 0 : Nat) : Int) = wAll ls i) (fun _ => ⟨by show (1 :: List.replicate T 0).length = _; rw [List.length_cons, List.length_replicate], fun i hi => ?_⟩) (fun xs x ih h => ?_) ls
  · show (((1 :: List.replicate T 0).getD i 0 : Nat) : Int) = w0 i
    cases i with
    | zero => rfl
    | succ i =>
      rw [List.getD_cons_succ, List.getD_eq_getElem?_getD, List.getElem?_replicate]
      show _ = if ((i + 1 : Nat) : Int) = 0 then (1 : Int) else 0
      rw [show (if ((i + 1 : Nat) : Int) = 0 then (1 : Int) else 0) = 0 from if_neg (by omega)]
      split <;> rfl
  · have hx : ∀ l ∈ xs, 0 ≤ l := fun l hl => h l (List.mem_append_left _ hl)
    obtain ⟨l1, l2⟩ := ih hx
    have e : wtab T (xs ++ [x]) = nxW x.toNat (wtab T xs) := List.foldl_append
    rw [e, wAll_snoc]
    have ln : (nxW x.toNat (wtab T xs)).length = T + 1 := by
      unfold nxW
      rw [List.length_map, List.length_range, l1]
    refine ⟨ln, fun i hi => ?_⟩
    unfold wstep
    rw [sm_cut (fun k => wAll xs ((i : Int) - k)) i (fun k hk => (tall_all xs hx).lo _ (by omega)), sm_sum (fun k => wAll xs ((i : Int) - k)) (fun k => (wtab T xs).getD (i - k) 0) _ fun k hk => ?_]
    · congr 1
      rw [List.getD_eq_getElem?_getD]
      unfold nxW
      rw [List.getElem?_map, List.getElem?_range (by omega)]
      rfl
    · show wAll xs ((i : Int) - k) = _
      rw [l2 (i - k) (by omega)]
      exact congrArg _ (by omega)
theorem w_ones (n T v : Nat) (h : (wtab T (List.replicate n 1)).getD T 0 = v) : wAll (List.replicate n 1) T = v := by
  rw [← (wtab_at T _ (fun l hl => by rw [List.eq_of_mem_replicate hl]; decide)).2 T (Nat.le_refl _), h]

/-! ### the law's choices -/
def spLChs (K : PySem.W.Frag) : Sp := fun vs H Q _ => ∃ (a : Addr) (xs : List Int) (t : Int), vs = [.ref a, .int t] ∧ SqL K H a (xs.map V.int) ∧ Lens xs ∧ 0 ≤ t ∧ t ≤ 4000 ∧ Fine xs t ∧
  ∀ (H' : Hp) (q : Addr) (ys : List V), Same H H' → H' q = some (.lst ys) → TpAll H' ys ((due xs t).map tI) → Q (.ref q) H'
theorem all_top {t : Int} (ht : 0 ≤ t) : ∀ (ls : List Int), ∀ p ∈ lAll ls t, p.2 ≤ t := by
  intro ls
  refine rev_ind2 (P := fun ls => ∀ p ∈ lAll ls t, p.2 ≤ t) (fun p hp => ?_) (fun xs x ih p hp => ?_) ls
  · have hp : p ∈ [(([], t) : Pre)] := hp
    rw [List.mem_singleton.mp hp]
    exact Int.le_refl _
  · rw [lAll_snoc] at hp
    unfold lStep at hp
    obtain ⟨q, hq, hpq⟩ := List.mem_flatten.mp hp
    obtain ⟨r, hr, rfl⟩ := List.mem_map.mp hq
    unfold lItem at hpq
    obtain ⟨c, hc, rfl⟩ := List.mem_map.mp hpq
    have hc := mem_rg.mp hc
    have hz := ih r hr
    show r.2 - c ≤ t
    omega
section
variable {P : Program} {w : World} {K : PySem.W.Frag} {mg : Str → Option Value} {base : Heap}
theorem has_lchs {cs : Nat → Addr} (T : Top K mg cs) : Has P w K mg base 1 "_law_due" ["_law_lens", "_law_total"] (spLChs K) := by
  refine has_of T.d__law_due sc__law_due bd__law_due (fun vs H Q E h => ?_) (fun f cdv A outer s H vs Q E hr h => ?_)
  · obtain ⟨a, xs, t, rfl, _⟩ := h
    rfl
  · have hu := hu_of hr
    have nd := sc__law_due.nd
    obtain ⟨a, xs, t, rfl, ha, L, t0, t1, fine, k⟩ := h
    refine ⟨_, (pss_cons (ps_set (i := 2) nd rfl (.inl rfl) (pe_lst (pa_cons (pe_tup (pa_cons (pe_tup pa_nil) (pa_cons (pv 1) pa_nil))) pa_nil)))
    (pss_cons (ps_for PassesOwn.never rfl (pi_list (pv 0)) (pg_name (i := 3) nd rfl (.inl rfl))
      (pss_cons (ps_set (i := 4) nd rfl (.inl rfl) (pe_lst pa_nil))
    (pss_cons (ps_for PassesOwn.never rfl (pi_list (pv 2)) (pg_tup (by rfl) (pgs_cons (pg_name (i := 5) nd rfl (.inr rfl)) (pgs_cons (pg_name (i := 6) nd rfl (.inr rfl)) pgs_nil)))
      (pss_one (ps_expr (pe_bm PySem.F.plainAttrs_list PySem.F.slot_list_extend PySem.F.type_list_extend mt_extend (pv 4) (pa_cons (pe_lc (own := [("_law_k", 7)]) (by rfl) nd (pi_range1 (by rfl) T.b_range (pa_cons (pe_op op_add (pe_callB (call_min2 rfl) (by rfl) T.b_min (by decide +kernel) (pa_cons (pv 3) (pa_cons (pv 6) pa_nil))) pe_int) pa_nil)) (blkOk_by (own := [("_law_k", 7)]) (N := nm__law_due) (sc := defScope s__law_due) (by decide +kernel)) (fun _ _ _ _ _ => pg_name (i := 7) nd rfl (.inl rfl)) (fun _ _ _ _ _ => pts_nil) (fun _ _ _ _ _ => (pe_tup (pa_cons (pe_op (op_catAK (K := K) rfl) (pv 5) (pe_tup (pa_cons (pv 7) pa_nil))) (pa_cons (pe_op op_sub (pv 6) (pv 7)) pa_nil))))) pa_nil)))))
    (pss_one (ps_set (i := 2) nd rfl (.inl rfl) (pv 4))))))
    (pss_one (ps_ret (pe_lc (own := [("_law_some", 5), ("_law_left", 6)]) (by rfl) nd (pi_list (pv 2)) (blkOk_by (own := [("_law_some", 5), ("_law_left", 6)]) (N := nm__law_due) (sc := defScope s__law_due) (by decide +kernel)) (fun _ _ _ _ _ => pg_tupK (K := K) (n := 2) rfl (by rfl) (pgs_cons (pg_name (i := 5) nd rfl (.inl rfl)) (pgs_cons (pg_name (i := 6) nd rfl (.inl rfl)) pgs_nil))) (fun _ _ _ _ _ => pts_one (pt_cmpR op_eq (pv 6) pe_int (nomark _))) (fun _ _ _ _ _ => (pv 5))))))), ?_⟩
    have line : (5000000 : Nat) < sizeLine := by decide
    refine ⟨by show 0 ≤ sizeLine; decide, fun p1 m1 => ⟨_, rfl, by show 2 ≤ sizeLine; decide, fun p2 m2 => ⟨by show 1 ≤ sizeLine; decide, fun p3 m3 => ?_⟩⟩⟩
    have s3 := ((same_new (o := .tup []) m1).trans (same_new (o := .tup [V.ref p1, .int t]) m2)).trans (same_new (o := .lst [V.ref p2]) m3)
    have h3 : (upd (upd (upd H p1 (.tup [])) p2 (.tup [V.ref p1, .int t])) p3 (.lst [V.ref p2])) p3 = some (.lst [V.ref p2]) := upd_same
    have t3 : TpAll (upd (upd (upd H p1 (.tup [])) p2 (.tup [V.ref p1, .int t])) p3 (.lst [V.ref p2])) [V.ref p2] (([([], t)] : List Pre).map dPre) := by
      refine TpAll.kt (KT.new m3) (.cons ?_ .nil)
      exact .new m2 (.cons (.new m1 .nil) (.cons (.int t) .nil))
    generalize upd (upd (upd H p1 (.tup [])) p2 (.tup [V.ref p1, .int t])) p3 (.lst [V.ref p2]) = H3 at s3 h3 t3
    refine ⟨_, rfl, a, rfl, ⟨_, s3.seq ha⟩, for_list (K := K) (a := a) (xs := xs.map V.int) (fun i σ H' => ∃ (B : Addr) (vs : List V) (v3 v4 v5 v6 : Option V), σ = [some (.ref a), some (.int t), some (.ref B), v3, v4, v5, v6, none] ∧ Same H H' ∧ H' B = some (.lst vs) ∧ TpAll H' vs ((lAll (xs.take i) t).map dPre))
      ⟨p3, _, none, none, none, none, rfl, s3, h3, t3⟩ ?_ ?_ ?_⟩
    · rintro i σ H' _ ⟨_, _, _, _, _, _, _, s', _⟩
      exact s'.seq ha
    · rintro i x σ H4 hi ⟨B, vs, v3, v4, v5, v6, rfl, s4, hB, tB⟩
      obtain ⟨l, rfl, hl⟩ := int_at hi
      have lm := L.b l (List.mem_of_getElem? hl)
      have full : lAll (xs.take (i + 1)) t = lStep l (lAll (xs.take i) t) := by
        rw [List.take_add_one, hl]
        exact lAll_snoc _ _ _
      have fin1 := fine (i + 1)
      have left : ∀ p ∈ lAll (xs.take i) t, 0 ≤ p.2 ∧ p.2 ≤ 4000 ∧ p.1.length ≤ 60 := fun p hp => by
        refine ⟨all_left t0 _ p hp, by have := all_top t0 _ p hp; omega, ?_⟩
        rw [all_len t _ p hp, List.length_take]
        have := L.n
        omega
      rw [full] at fin1
      rw [full]
      generalize lAll (xs.take i) t = bs at tB fin1 left ⊢
      have lv := tB.len
      rw [List.length_map] at lv
      refine ⟨by show 0 ≤ sizeLine; decide, fun G nG => ?_⟩
      have s5 := same_new (o := .lst []) nG
      have hG5 : (upd H4 G (.lst [])) G = some (.lst []) := upd_same
      generalize upd H4 G (.lst []) = H5 at s5 hG5
      refine ⟨_, rfl, B, rfl, ⟨_, SqL.of (s5 _ _ hB)⟩, for_list (K := K) (a := B) (xs := vs) (fun ii σ H' => ∃ (gs : List V) (v5 v6 : Option V), σ = [some (.ref a), some (.int t), some (.ref B), some (.int l), some (.ref G), v5, v6, none] ∧ Same H4 H' ∧ H' G = some (.lst gs) ∧ TpAll H' gs ((lStep l (bs.take ii)).map dPre))
        ⟨[], v5, v6, rfl, s5, hG5, .nil⟩ ?_ ?_ ?_⟩
      · rintro ii σ H' _ ⟨_, _, _, _, s', _⟩
        exact SqL.of (s' _ _ hB)
      · rintro ii x σ H6 hx ⟨gs, v5, v6, rfl, s6, hG, tG⟩
        have hii : ii < bs.length := by
          rw [← lv]
          exact (List.getElem?_eq_some_iff.mp hx).1
        have hp0 : bs[ii]? = some bs[ii] := List.getElem?_eq_getElem hii
        have lp := left _ (List.getElem_mem hii)
        generalize bs[ii] = p0 at hp0 lp
        obtain ⟨v, hv, tv⟩ := tB.get (show (bs.map dPre)[ii]? = some (dPre p0) by rw [List.getElem?_map, hp0]; rfl)
        rw [hx] at hv
        cases hv
        obtain ⟨c, cb, rfl, hc4, hcb4⟩ := tp_pre tv
        have est : lStep l (bs.take (ii + 1)) = lStep l (bs.take ii) ++ lItem l p0 := by
          unfold lStep
          rw [List.take_add_one, hp0, List.map_append, List.flatten_append]
          show _ ++ ([p0].map (lItem l)).flatten = _
          rw [List.map_cons, List.map_nil, List.flatten_cons, List.flatten_nil, List.append_nil]
        have lst : (lStep l (bs.take ii)).length + (lItem l p0).length ≤ 1000000 := by
          have e : lStep l bs = lStep l (bs.take (ii + 1)) ++ lStep l (bs.drop (ii + 1)) := by
            unfold lStep
            rw [← List.flatten_append, ← List.map_append, List.take_append_drop]
          rw [e, est, List.length_append, List.length_append] at fin1
          omega
        have li : (lItem l p0).length = (mn2 l p0.2 + 1).toNat := by
          unfold lItem
          rw [List.length_map, rg_len, Int.sub_zero]
        have lgs := tG.len
        rw [List.length_map] at lgs
        obtain ⟨y1, y2, y3⟩ := mn2_b (l := l) (x := p0.2)
        refine ⟨c, _, rfl, SqT.of (s6 _ _ hc4), rfl, _, _, rfl, _, _, rfl, rfl, ?_⟩
        refine ⟨_, rfl, .inl ⟨rfl, _, SqL.of hG⟩, _, rfl, _, rfl, _, _, rfl, _, _, rfl, rfl, mn2 l p0.2 + 1, rfl, by omega, by omega, fun D hD => lc_range (lo := 0) (n := (mn2 l p0.2 + 1).toNat) (fun j H7 => TpT H6 H7 D (((lItem l p0).take j).map dPre)) ?_ (fun j H7 hj p7 => ?_) (fun H7 p7 => ?_)⟩
        · rw [List.take_zero]
          exact TpT.new hD
        · have gj : (lItem l p0)[j]? = some (ext p0 (0 + ((j : Nat) : Int))) := by
            unfold lItem rgI
            rw [List.getElem?_map, List.getElem?_map, List.getElem?_range (by rw [Int.sub_zero]; exact hj)]
            rfl
          generalize (0 : Int) + ((j : Nat) : Int) = ct at gj
          refine ⟨rfl, yes_go ⟨_, rfl, _, rfl, by show 1 ≤ sizeLine; decide, fun q1 m1 => tup_cat (same_new m1 _ _ (p7.s _ _ (s6 _ _ hcb4))) upd_same (by rw [List.length_map]; show p0.1.length + 1 ≤ _; omega) fun H8 r s8 h8 => ⟨_, rfl, _, rfl, _, _, rfl, rfl, by show 2 ≤ sizeLine; decide, fun q2 m2 => ?_⟩⟩⟩
          have h8' : H8 r = some (.tup ((p0.1 ++ [ct]).map V.int)) := by
            rw [h8, List.map_append]
            rfl
          rw [List.take_add_one, gj, List.map_append]
          refine p7.put hD (((same_new m1).trans s8).trans (same_new m2)) ?_ (.new m2 (.cons (tp_ints h8') (.cons (.int _) .nil)))
          have := List.length_take_le j (lItem l p0)
          rw [List.length_map]
          omega
        · rw [← li, List.take_length] at p7
          obtain ⟨ds, hD7, tD⟩ := p7.ex
          have ld := tD.len
          rw [List.length_map] at ld
          have hG7 := p7.s _ _ hG
          refine ⟨G, D, gs, ds, rfl, rfl, hG7, hD7, by omega, gs ++ ds, _, _, rfl, same_mut (s6.trans p7.s) nG, upd_same, ?_⟩
          rw [est, List.map_append]
          exact ((tG.kt (KT.same p7.s)).app tD).kt (KT.lst hG7)
      · rintro σ H6 ⟨gs, v5, v6, rfl, s6, hG, tG⟩
        rw [lv, List.take_length] at tG
        exact ⟨_, rfl, G, gs, _, _, _, _, rfl, s4.trans s6, hG, tG⟩
    · rintro σ H4 ⟨B, vs, v3, v4, v5, v6, rfl, s4, hB, tB⟩
      rw [List.length_map, List.take_length] at tB
      have lv := tB.len
      rw [List.length_map] at lv
      have fi := fine xs.length
      rw [List.take_length] at fi
      have e : due xs t = ((lAll xs t).filter fun p => decide (p.2 = 0)).map (·.1) := rfl
      generalize lAll xs t = bs at tB e lv fi
      refine ⟨_, rfl, B, rfl, ⟨_, SqL.of hB⟩, fun D hD => lc_list (xs := vs) (fun ii H5 => TpT H4 H5 D (((bs.take ii).filter fun p => decide (p.2 = 0)).map fun p => tI p.1)) (TpT.new hD) (fun ii H5 _ p => SqL.of (p.s _ _ hB)) (fun ii x H5 hx p => ?_) (fun H5 p => ?_)⟩
      · have hii : ii < bs.length := by
          rw [← lv]
          exact (List.getElem?_eq_some_iff.mp hx).1
        have hp0 : bs[ii]? = some bs[ii] := List.getElem?_eq_getElem hii
        generalize bs[ii] = p0 at hp0
        obtain ⟨v, hv, tv⟩ := tB.get (show (bs.map dPre)[ii]? = some (dPre p0) by rw [List.getElem?_map, hp0]; rfl)
        rw [hx] at hv
        cases hv
        obtain ⟨c, cb, rfl, hc, hcb⟩ := tp_pre (tv.kt (KT.same p.s))
        refine ⟨c, _, rfl, SqT.of hc, rfl, _, _, rfl, _, _, rfl, rfl, rfl, _, rfl, rfl, _, rfl, ?_⟩
        have small : ((bs.take ii).filter fun p => decide (p.2 = 0)).length ≤ 1000000 := by
          have a1 := List.length_filter_le (fun p : Pre => decide (p.2 = 0)) (bs.take ii)
          have := List.length_take_le ii bs
          omega
        rw [List.take_add_one, hp0, List.filter_append, List.map_append]
        show (if decide (V.int p0.2 = V.int 0) = true then _ else _)
        by_cases c0 : p0.2 = 0
        · rw [decide_eq_true (congrArg V.int c0)]
          refine iteT ⟨_, rfl, ?_⟩
          have e1 : ((some p0).toList.filter fun p => decide (p.2 = 0)) = [p0] := by
            show [p0].filter _ = _
            rw [List.filter_cons, if_pos (decide_eq_true c0)]
            rfl
          rw [e1]
          exact p.put hD (Same.refl _) (by rw [List.length_map]; omega) (tp_ints hcb)
        · rw [decide_eq_false (fun z => c0 (V.int.inj z))]
          have e1 : ((some p0).toList.filter fun p => decide (p.2 = 0)) = [] := by
            show [p0].filter _ = _
            rw [List.filter_cons, if_neg (by rw [decide_eq_false c0]; exact Bool.false_ne_true)]
            rfl
          rw [e1, List.map_nil, List.append_nil]
          exact iteF p
      · rw [lv, List.take_length] at p
        obtain ⟨ys, hD5, tD⟩ := p.ex
        refine k H5 D ys (s4.trans p.s) hD5 ?_
        rw [e, List.map_map]
        exact tD
end

/-! ### sum of a tuple of ints; >= of two such tuples -/
def rSumT (K : PySem.W.Frag) : List V → Hp → VK → Prop := fun vs H Q => ∃ (a : Addr) (ns : List Int), vs = [.ref a] ∧ SqT K H a (ns.map V.int) ∧ Q (.int ns.sum) H
theorem cr_sumT {X : Cx} (hc : X.calm = true) : CallR X (.builtin "sum") (rSumT X.K) := by
  intro pins s σ H vs us Q I r h
  obtain ⟨a, ns, rfl, hs, q⟩ := h
  obtain ⟨its, rv, ht, _⟩ := I.tuple hs
  rw [Vals.ref1 r]
  obtain ⟨xs, e⟩ := rv.ints.allInts.items
  have hn : numsOf (intItems xs).toList = ns := by rw [← e]; exact rv.ints.numsOf
  rw [nums_intItems] at hn
  rw [e] at ht
  have la : a < s.heap.objs.size := by
    obtain ⟨o, ho, _⟩ := ht
    exact Heap.lt_size ho
  refine PySem.call_sum_walkG (wpAny_pyIter_tuple ht ?_)
  refine ⟨s.heap.objs.size, [s.heap.objs.size, a], [s.heap.objs.size], _, _, _, numAt xs, rfl, Walks.tuple (A := X.A.in1) (I.ok.hd hc) _ a (Nat.ne_of_lt la) (intItems xs), ⟨⟨_, Heap.get?_push_size _ rfl, rfl, rfl⟩, ht.push _⟩, fun b hb => ?_, (fun _ _ => intItems_at), fun h' tk t' hk => ?_⟩
  · show b < (s.heap.push _).objs.size
    rw [Heap.size_push]
    rcases List.mem_cons.mp hb with rfl | hb
    · exact Nat.lt_succ_self _
    · rw [List.mem_singleton.mp hb]
      exact Nat.lt_succ_of_lt la
  · have sz : (intItems xs).size = xs.size := by simp [intItems]
    have kk : ∀ b o, s.heap.get? b = some o → h'.get? b = some o := fun b o z => hk b o (fun w => by
      rw [List.mem_singleton] at w
      exact absurd (Heap.lt_size z) (by rw [w]; exact Nat.lt_irrefl _)) (Heap.get?_push_of_some _ z)
    rw [sz, preSum_eq, List.take_of_length_le (by simp), hn]
    exact ⟨.int _, H, I.kept kk, ⟨_, rfl⟩, q⟩
theorem cr_sumTK {X : Cx} {K : PySem.W.Frag} (h : X.K = K) (hc : X.calm = true) : CallR X (.builtin "sum") (rSumT K) := h ▸ cr_sumT hc
def rGeT (K : PySem.W.Frag) : R2 := fun x y H Q => ∃ (a b : Addr) (ns ms : List Int), x = .ref a ∧ y = .ref b ∧ SqT K H a (ns.map V.int) ∧ SqT K H b (ms.map V.int) ∧
  Q (.bl (Ob.lexAt (fun j => decide (ns.getD j 0 = ms.getD j 0)) (fun j => decide (ms.getD j 0 ≤ ns.getD j 0)) (decide (ns.length ≥ ms.length)) 0 (min ns.length ms.length))) H
theorem op_geT {X : Cx} (hu : X.A.units < cLine) : OpR X (compareOp .GtE) (rGeT X.K) := by
  intro pins s σ H x y v u Q I rx ry h
  obtain ⟨a, b, ns, ms, rfl, rfl, ha, hb, q⟩ := h
  cases rx
  cases ry
  obtain ⟨us, r1, p1, _⟩ := I.tuple ha
  obtain ⟨ws, r2, p2, _⟩ := I.tuple hb
  have i1 : IntsAre us ns := Vals.ints r1
  have i2 : IntsAre ws ms := Vals.ints r2
  have l1 : us.toArray.size = ns.length := List.size_toArray.trans i1.length
  have l2 : ws.toArray.size = ms.length := List.size_toArray.trans i2.length
  have g1 : ∀ j (h1 : j < us.toArray.size), ∃ t, us.toArray[j] = .int (ns.getD j 0) t := fun j h1 => PyProof.Rows.IntsAre.int_at i1 _ _ (by simp at h1; simp [h1])
  have g2 : ∀ j (h1 : j < ws.toArray.size), ∃ t, ws.toArray[j] = .int (ms.getD j 0) t := fun j h1 => PyProof.Rows.IntsAre.int_at i2 _ _ (by simp at h1; simp [h1])
  have eq : ∀ (i k : Int), (i == k) = decide (i = k) := fun i k => by
    by_cases z : i = k
    · rw [decide_eq_true z, beq_iff_eq.mpr z]
    · rw [decide_eq_false z, beq_eq_false_iff_ne.mpr z]
  have R := Ob.RcOp.tuples_ge (A := X.A) (s := s) (e := fun j => decide (ns.getD j 0 = ms.getD j 0)) (r := fun j => decide (ms.getD j 0 ≤ ns.getD j 0)) p1 p2 hu (fun j h1 h2 => by
    obtain ⟨t, e1⟩ := g1 j h1
    obtain ⟨t2, e2⟩ := g2 j h2
    rw [e1, e2, ← eq]
    exact SeqAt.EqAt.int_int _ _ _ _) (fun j h1 h2 _ => by
    obtain ⟨t, e1⟩ := g1 j h1
    obtain ⟨t2, e2⟩ := g2 j h2
    rw [e1, e2]
    exact Ob.RcOp.ge_int _ _ _ _)
  rw [l1, l2] at R
  exact R X.prog X.w X.xe (EP X pins σ Q) ⟨.bl _, H, I, rfl, q⟩
theorem op_geTK {X : Cx} {K : PySem.W.Frag} (h : X.K = K) (hu : X.A.units + 1 < cLine) : OpR X (compareOp .GtE) (rGeT K) := h ▸ op_geT (by omega)
/-- where the first difference is a smaller one -/
theorem lex_no {e r : Nat → Bool} {z : Bool} {j : Nat} (he : ∀ i, i < j → e i = true) (hj : e j = false) (hr : r j = false) : ∀ (k i n : Nat), j - i = k → i ≤ j → j < i + n → Ob.lexAt e r z i n = false
  | 0, i, n, hk, hi, hn => by
    obtain rfl : i = j := by omega
    obtain ⟨m, rfl⟩ : ∃ m, n = m + 1 := ⟨n - 1, by omega⟩
    rw [Ob.lexAt_succ, if_neg (by rw [hj]; exact Bool.false_ne_true)]
    exact hr
  | k + 1, i, n, hk, hi, hn => by
    obtain ⟨m, rfl⟩ : ∃ m, n = m + 1 := ⟨n - 1, by omega⟩
    rw [Ob.lexAt_succ, if_pos (he i (by omega))]
    exact lex_no he hj hr k (i + 1) m (by omega) (by omega) (by omega)
theorem lex_lt {c d : List Int} (h : LexLt c d) : Ob.lexAt (fun j => decide (c.getD j 0 = d.getD j 0)) (fun j => decide (d.getD j 0 ≤ c.getD j 0)) (decide (c.length ≥ d.length)) 0 (min c.length d.length) = false := by
  obtain ⟨j, he, x, y, ex, ey, lt⟩ := h
  have lx := (List.getElem?_eq_some_iff.mp ex).1
  have ly := (List.getElem?_eq_some_iff.mp ey).1
  have gx : c.getD j 0 = x := by rw [List.getD_eq_getElem?_getD, ex]; rfl
  have gy : d.getD j 0 = y := by rw [List.getD_eq_getElem?_getD, ey]; rfl
  refine lex_no (j := j) (fun i hi => ?_) ?_ ?_ _ 0 _ rfl (Nat.zero_le _) (by omega)
  · rw [List.getD_eq_getElem?_getD, List.getD_eq_getElem?_getD, he i hi]
    exact decide_eq_true rfl
  · rw [gx, gy]
    exact decide_eq_false (by omega)
  · rw [gx, gy]
    exact decide_eq_false (by omega)

/-! ### things in a drawn order -/
theorem er_map {α β : Type} (f : α → β) : ∀ (l : List α) (j : Nat), (l.map f).eraseIdx j = (l.eraseIdx j).map f
  | [], _ => rfl
  | _ :: _, 0 => rfl
  | x :: r, j + 1 => by
    show f x :: (r.map f).eraseIdx j = f x :: (r.eraseIdx j).map f
    rw [er_map f r j]
theorem er_perm {α : Type} : ∀ (l : List α) (j : Nat) (h : j < l.length), ([l[j]] ++ l.eraseIdx j).Perm l
  | [], _, h => absurd h (Nat.not_lt_zero _)
  | _ :: _, 0, _ => List.Perm.refl _
  | x :: r, j + 1, h => by
    have ih := er_perm r j (Nat.lt_of_succ_lt_succ h)
    show (r[j]'(Nat.lt_of_succ_lt_succ h) :: x :: r.eraseIdx j).Perm (x :: r)
    exact (List.Perm.swap _ _ _).trans (ih.cons x)
def spShuf : Sp := fun vs H Q _ => ∃ (t c p : Addr) (xs : List Int) (n : Nat), vs = [.ref t, .ref p] ∧ Tape H t c n ∧ n < 900000 ∧ H p = some (.lst (xs.map V.int)) ∧ xs.length ≤ 100 ∧
  ∀ (H' : Hp) (q : Addr) (ys : List Int), H q = none → H' q = some (.lst (ys.map V.int)) → ys.Perm xs → Tape H' t c (n + xs.length) → Kp t H H' → Q (.ref q) H'
section
variable {P : Program} {w : World} {K : PySem.W.Frag} {mg : Str → Option Value} {base : Heap}
theorem has_shuf {cs : Nat → Addr} (T : Top K mg cs) (h__law_draw : Has P w K mg base 1 "_law_draw" ["_law_tape", "_law_many_here"] spDraw) : Has P w K mg base 2 "_law_shuffled" ["_law_tape", "_law_some"] spShuf := by
  refine has_of T.d__law_shuffled sc__law_shuffled bd__law_shuffled (fun vs H Q E h => ?_) (fun f cdv A outer s H vs Q E hr h => ?_)
  · obtain ⟨t, c, p, xs, n, rfl, _⟩ := h
    rfl
  · have hu := hu_of hr
    have nd := sc__law_shuffled.nd
    obtain ⟨t, c, p, xs, n, rfl, tp, hn, hp, few, k⟩ := h
    refine ⟨_, (pss_cons (ps_par (i := 2) (j := 3) (by rfl) nd rfl rfl (by decide) rfl rfl (pa_cons (pe_callTy call_list_of (by rfl) T.b_list (by decide +kernel) (pa_cons (pv 1) pa_nil)) (pa_cons (pe_lst pa_nil) pa_nil)) (by rfl))
    (pss_cons (ps_while PassesOwn.never (pt_cmpR (op_neNil hu) (pv 2) (pe_lst pa_nil) (nomark _)) (pss_one (ps_expr (pe_bm PySem.F.plainAttrs_list PySem.F.slot_list_append PySem.F.type_list_append mt_append (pv 3) (pa_cons (pe_bm PySem.F.plainAttrs_list PySem.F.slot_list_pop PySem.F.type_list_pop mt_popAt (pv 2) (pa_cons (pe_has h__law_draw (hr.mono (by omega)) (by rfl) (pa_cons (pv 0) (pa_cons (pe_callB call_len_seq (by rfl) T.b_len (by decide +kernel) (pa_cons (pv 2) pa_nil)) pa_nil))) pa_nil)) pa_nil)))))
    (pss_one (ps_ret (pv 3))))), ?_⟩
    have line : (5000000 : Nat) < sizeLine := by decide
    refine ⟨_, rfl, p, _, rfl, .inl (SqL.of hp), fun L nL => ⟨by show 0 ≤ sizeLine; decide, fun F nF => ⟨_, _, rfl, ?_⟩⟩⟩
    have LF : L ≠ F := fun z => by
      rw [z, upd_same] at nF
      cases nF
    have hL2 : (upd (upd H L (.lst (xs.map V.int))) F (.lst [])) L = some (.lst (xs.map V.int)) := same_new nF _ _ upd_same
    have hF2 : (upd (upd H L (.lst (xs.map V.int))) F (.lst [])) F = some (.lst ([].map V.int)) := upd_same
    have nF0 : H F = none := same_freeX (same_new nL) nF
    have tp2 := (tp.new (o := .lst (xs.map V.int)) nL).new (o := .lst []) nF
    have k2 : Kp t H (upd (upd H L (.lst (xs.map V.int))) F (.lst [])) := (Kp.new nL).trans (Kp.new nF)
    have Lt : L ≠ t := tp.fresh nL
    have Lc : L ≠ c := tp.fresh_c nL
    have Ft : F ≠ t := tp.fresh nF0
    have Fc : F ≠ c := tp.fresh_c nF0
    generalize upd (upd H L (.lst (xs.map V.int))) F (.lst []) = H2 at hL2 hF2 tp2 k2
    refine ⟨fun m σ H' => ∃ (ls fs : List Int), σ = [some (.ref t), some (.ref p), some (.ref L), some (.ref F)] ∧ H' L = some (.lst (ls.map V.int)) ∧ H' F = some (.lst (fs.map V.int)) ∧ (fs ++ ls).Perm xs ∧ m = ls.length ∧ Tape H' t c (n + fs.length) ∧ Kp t H H',
      ⟨_, xs, [], rfl, hL2, hF2, List.Perm.refl _, rfl, tp2, k2⟩, ?_⟩
    rintro m σ H3 ⟨ls, fs, rfl, hL, hF, pm, rfl, tp3, k3⟩
    have lp := pm.length_eq
    rw [List.length_append] at lp
    refine ⟨_, rfl, by show 0 ≤ sizeLine; decide, fun N nN => ⟨L, N, _, rfl, rfl, SqL.of (same_new nN _ _ hL), SqL.of upd_same, _, rfl, ?_⟩⟩
    have hL4 := same_new (o := .lst []) nN _ _ hL
    have hF4 := same_new (o := .lst []) nN _ _ hF
    have tp4 := tp3.new (o := .lst []) nN
    have k4 : Kp t H (upd H3 N (.lst [])) := k3.trans (Kp.new nN)
    generalize upd H3 N (.lst []) = H4 at hL4 hF4 tp4 k4
    cases ls with
    | nil =>
      refine iteF ⟨_, rfl, ?_⟩
      rw [List.append_nil] at pm
      exact k H4 F fs nF0 hF4 pm (by rw [← pm.length_eq]; exact tp4) k4
    | cons l0 lr =>
      refine iteT ⟨_, fun σ' H' h => h, ?_⟩
      refine ⟨_, rfl, .inl ⟨rfl, _, SqL.of hF4⟩, _, rfl, .inl ⟨rfl, _, SqL.of hL4⟩, _, rfl, _, rfl, L, _, rfl, .inl (SqL.of hL4), t, c, _, _, rfl, tp4, by omega, by rw [List.length_map, List.length_cons]; omega, pow8000 (by rw [List.length_map]; omega), fun H5 r a b tp5 kp5 => ?_⟩
      have hL5 := tp4.sq hL4 kp5
      have hF5 := tp4.sq hF4 kp5
      rw [List.length_map] at b
      obtain ⟨j, rfl⟩ : ∃ j : Nat, r = (j : Int) := ⟨r.toNat, by omega⟩
      have hj : j < (l0 :: lr).length := by omega
      refine ⟨L, (l0 :: lr).map V.int, (j : Int), j, .int (l0 :: lr)[j], rfl, rfl, hL5, by omega, by omega, ?_, by rw [List.getElem?_map, List.getElem?_eq_getElem hj]; rfl, ?_⟩
      · rw [List.length_map]
        exact seqIndex_of (by omega) (by omega)
      have e1 : ((l0 :: lr).map V.int).eraseIdx j = ((l0 :: lr).eraseIdx j).map V.int := er_map _ _ _
      rw [e1]
      have hF6 : (upd H5 L (.lst (((l0 :: lr).eraseIdx j).map V.int))) F = some (.lst (fs.map V.int)) := by
        rw [upd_ne LF.symm]
        exact hF5
      refine ⟨F, fs.map V.int, _, rfl, rfl, hF6, by rw [List.length_map]; omega, ?_⟩
      have le := List.length_eraseIdx_of_lt hj
      refine ⟨_, ?_, (l0 :: lr).eraseIdx j, fs ++ [(l0 :: lr)[j]], rfl, ?_, ?_, ?_, rfl, ?_, ?_⟩
      · rw [le]
        show lr.length + 1 - 1 < lr.length + 1
        omega
      · rw [upd_ne LF]
        exact upd_same
      · rw [upd_same, List.map_append]
        rfl
      · refine List.Perm.trans ?_ pm
        rw [List.append_assoc]
        refine List.Perm.append_left fs ?_
        exact er_perm _ _ hj
      · rw [List.length_append, List.length_singleton]
        exact ((tp5.mut Lt Lc).mut Ft Fc).le (by omega)
      · exact ((k4.trans kp5).mut nL).mut nF0
end

/-! ### how many are refused -/
theorem row_of {H : Hp} {rs : List V} {rows : List (List Int)} {i : Nat} {r : List Int} (ta : TpAll H rs (rows.map tI)) (hr : rows[i]? = some r) : ∃ p, rs[i]? = some (.ref p) ∧ H p = some (.tup (r.map V.int)) := by
  obtain ⟨v, hv, tv⟩ := ta.get (show (rows.map tI)[i]? = some (tI r) by rw [List.getElem?_map, hr]; rfl)
  unfold tI at tv
  cases tv with
  | tup hp r => exact ⟨_, hv, by rw [hp, tpall_inv r]⟩
def manyOf (w : Int) : Int := if 3003 < w then w else if w = 3003 then 0 else -1
def spMany (K : PySem.W.Frag) : Sp := fun vs H Q _ => ∃ (a : Addr) (xs : List Int) (t : Int), vs = [.ref a, .int t] ∧ H a = some (.lst (xs.map V.int)) ∧ Lens xs ∧ 0 ≤ t ∧ t ≤ 4000 ∧ wAll xs t < 10 ^ 18 ∧ (wAll xs t ≤ 3003 → Fine xs t) ∧
  ∀ H', Same H H' → Q (.int (manyOf (wAll xs t))) H'
section
variable {P : Program} {w : World} {K : PySem.W.Frag} {mg : Str → Option Value} {base : Heap}
theorem has_many (T : Top K mg cs) (h_choices : HasX P w K mg base 5 "choices" ["lens", "total"] (spChs (cs 0) K)) : Has P w K mg base 6 "_law_many" ["_law_lens", "_law_total"] (spMany K) := by
  refine has_of T.d__law_many sc__law_many bd__law_many (fun vs H Q E h => ?_) (fun f cdv A outer s H vs Q E hr h => ?_)
  · obtain ⟨a, xs, t, rfl, _⟩ := h
    rfl
  · have hu := hu_of hr
    have nd := sc__law_many.nd
    obtain ⟨a, xs, t, rfl, ha, L, t0, t1, lt, fine, k⟩ := h
    refine ⟨_, (pss_cons (ps_try_as (i := 3) rfl rfl nd rfl rfl (names_own T.k_TooMany.mg (by rfl)) takes0 (fun W pn xe tk _ =>
      (pss_one (ps_set (i := 2) nd rfl (.inr rfl) (pe_hasX tk h_choices (hr.mono (by omega)) (by rfl) (pa_cons (pv 0) (pa_cons (pv 1) pa_nil)))))) (fun a oe cls d pn hz hf =>
      (pss_cons (ps_set (i := 4) nd rfl (.inl rfl) (pe_and (pe_callB (call_isX hz hf) (by rfl) T.b_isinstance (by decide +kernel) (pa_cons (pv 3) (pa_cons (pe_bltn (v := .ty "IndexError") (u := .type "IndexError") (by rfl) T.b_IndexError (by decide +kernel) (by rfl)) pa_nil))) (pe_one (pe_not (pe_callB (call_isXT hz hf) (by rfl) T.b_isinstance (by decide +kernel) (pa_cons (pv 3) (pa_cons (pe_tup (pa_cons (pe_cls T.k_NoPut.mg (by rfl)) (pa_cons (pe_cls T.k_NoDeed.mg (by rfl)) pa_nil))) pa_nil)))))))
    (pss_one (ps_ret (pe_ifExp (pt_val (pv 4)) (pe_xf T.k_TooMany.xf (T.k_TooMany.no "many" (by decide)) hz hf (pv 3)) (pe_un un_neg pe_int)))))))
    (pss_cons (ps_set (i := 5) nd rfl (.inl rfl) (pe_cmpR (op_eqNil hu) (pe_lc (own := [("_law_k", 7)]) (by rfl) nd (pi_range2 (by rfl) T.b_range (pa_cons pe_int (pa_cons (pe_callB call_len_seq (by rfl) T.b_len (by decide +kernel) (pa_cons (pv 2) pa_nil)) pa_nil))) (blkOk_by (own := [("_law_k", 7)]) (N := nm__law_many) (sc := defScope s__law_many) (by decide +kernel)) (fun _ _ _ _ _ => pg_name (i := 7) nd rfl (.inl rfl)) (fun _ _ _ _ _ => pts_one (pt_cmpR (op_geTK (K := K) rfl hu) (pe_ix (ix_listK (K := K) rfl) (pv 2) (pe_op op_sub (pv 7) pe_int) (fun _ _ => rfl)) (pe_ix (ix_listK (K := K) rfl) (pv 2) (pv 7) (fun _ _ => rfl)) (nomark _))) (fun _ _ _ _ _ => (pv 7))) (pe_lst pa_nil) (nomark _)))
    (pss_cons (ps_set (i := 6) nd rfl (.inl rfl) (pe_cmpR (op_eqNil hu) (pe_lc (own := [("_law_some", 8)]) (by rfl) nd (pi_list (pv 2)) (blkOk_by (own := [("_law_some", 8)]) (N := nm__law_many) (sc := defScope s__law_many) (by decide +kernel)) (fun _ _ _ _ _ => pg_name (i := 8) nd rfl (.inl rfl)) (fun _ _ _ _ _ => pts_one (PW.pt (pw_or (pt_cmpR op_ne (pe_callB (cr_sumTK (K := K) rfl rfl) (by rfl) T.b_sum (by decide +kernel) (pa_cons (pv 8) pa_nil)) (pv 1) (nomark _)) (pw_or1 (pt_cmpR op_ne (pe_callB (len_seqK (K := K) rfl) (by rfl) T.b_len (by decide +kernel) (pa_cons (pv 8) pa_nil)) (pe_callB (len_seqK (K := K) rfl) (by rfl) T.b_len (by decide +kernel) (pa_cons (pv 0) pa_nil)) (nomark _)))))) (fun _ _ _ _ _ => (pv 8))) (pe_lst pa_nil) (nomark _)))
    (pss_one (ps_ret (pe_ifExp (PW.pt (pw_and (pt_val (pv 5)) (pw_and (pt_val (pv 6)) (pw_and1 (pt_cmpR op_eq (pe_callB call_len_seq (by rfl) T.b_len (by decide +kernel) (pa_cons (pv 2) pa_nil)) pe_int (nomark _)))))) pe_int (pe_un un_neg pe_int))))))), ?_⟩
    have line : (5000000 : Nat) < sizeLine := by decide
    have nn : ∀ l ∈ xs, 0 ≤ l := fun l hl => (L.b l hl).1
    refine ⟨_, rfl, _, rfl, a, xs, t, rfl, SqL.of ha, L, t0, t1, ?_⟩
    by_cases few : wAll xs t ≤ 3003
    · refine .inl ⟨few, fine few, fun H1 q ys s1 nq hq tq => ?_⟩
      have ha1 := s1 _ _ ha
      have lq := tq.len
      rw [List.length_map] at lq
      have ld := due_len t0 nn
      have lim : ys.length ≤ 3003 := by omega
      have rises := List.pairwise_iff_getElem.mp (due_rises xs t)
      refine ⟨_, rfl, q, _, rfl, .inl (SqL.of hq), _, _, rfl, ⟨by decide, by decide, by omega, by omega⟩, fun D hD => lc_sel_range (lo := 1) (fun _ => false) (fun (i : Nat) => .int (1 + (i : Int))) hD (by omega) (fun i hi => ⟨rfl, fun H' s' R g => ?_, fun h => by cases h⟩) fun H2 s2 h2 => ?_⟩
      · have hi2 : i + 1 < (due xs t).length := by omega
        obtain ⟨c1, g1, h1⟩ := row_of tq (List.getElem?_eq_getElem (Nat.lt_of_succ_lt hi2))
        obtain ⟨c2, g2, h2⟩ := row_of tq (List.getElem?_eq_getElem hi2)
        refine ⟨_, rfl, _, rfl, _, _, rfl, rfl, q, ys, _, _, rfl, rfl, SqL.of (s' _ _ hq), at_of (j := i) (by omega) g1, _, rfl, _, rfl, q, ys, _, _, rfl, rfl, SqL.of (s' _ _ hq), at_of (j := i + 1) (by omega) g2, c1, c2, _, _, rfl, rfl, SqT.of (s' _ _ h1), SqT.of (s' _ _ h2), _, rfl, ?_⟩
        rw [lex_lt (rises i (i + 1) _ hi2 (Nat.lt_succ_self i))]
        exact g H' (Same.refl _)
      have no2 : ((List.range ((ys.length : Int) - 1).toNat).filter fun _ => false).map (fun (i : Nat) => V.int (1 + (i : Int))) = [] := by
        rw [List.filter_eq_nil_iff.mpr fun _ _ => Bool.false_ne_true]
        rfl
      rw [no2] at h2
      refine ⟨by show 0 ≤ sizeLine; decide, fun N nN => ⟨D, N, _, rfl, rfl, SqL.of (same_new nN _ _ h2), SqL.of upd_same, ?_⟩⟩
      have s3 := s2.trans (same_new (o := .lst []) nN)
      generalize upd H2 N (.lst []) = H3 at s3
      refine ⟨_, rfl, q, rfl, ⟨_, SqL.of (s3 _ _ hq)⟩, fun D2 hD2 => lc_sel_list (fun _ => false) (fun x => x) (SqL.of (s3 _ _ hq)) hD2 (by omega) (fun v hv => ⟨rfl, fun H' s' R g => ?_, fun h => by cases h⟩) fun H4 s4 h4 => ?_⟩
      · obtain ⟨i, hi, ei⟩ := List.getElem_of_mem hv
        obtain ⟨c1, g1, h1⟩ := row_of tq (List.getElem?_eq_getElem (by omega : i < (due xs t).length))
        rw [List.getElem?_eq_getElem hi, ei] at g1
        cases Option.some.inj g1
        obtain ⟨e1, e2⟩ := due_sum xs t _ (List.getElem_mem (by omega : i < (due xs t).length))
        refine ⟨_, rfl, c1, _, rfl, SqT.of (s' _ _ (s3 _ _ h1)), _, rfl, rfl, _, rfl, iteNS (congrArg V.int e1) ?_⟩
        refine ⟨_, rfl, c1, _, rfl, .inr (.inl (.inl (s' _ _ (s3 _ _ h1)))), _, rfl, a, _, rfl, .inl (SqL.of (s' _ _ (s3 _ _ ha1))), rfl, _, rfl, ?_⟩
        rw [List.length_map, List.length_map, e2, decide_eq_true rfl]
        exact g H' (Same.refl _)
      have no4 : (ys.filter fun _ => false).map (fun x => x) = [] := by
        rw [List.filter_eq_nil_iff.mpr fun _ _ => Bool.false_ne_true]
        rfl
      rw [no4] at h4
      refine ⟨by show 0 ≤ sizeLine; decide, fun M nM => ⟨D2, M, _, rfl, rfl, SqL.of (same_new nM _ _ h4), SqL.of upd_same, ?_⟩⟩
      have s5 := s3.trans (s4.trans (same_new (o := .lst []) nM))
      generalize upd H4 M (.lst []) = H5 at s5
      refine ⟨_, rfl, true, rfl, iteT ⟨_, rfl, true, rfl, iteT ⟨_, rfl, q, _, rfl, .inl (SqL.of (s5 _ _ hq)), rfl, _, rfl, ?_⟩⟩⟩
      have z := k H5 (s1.trans s5)
      unfold manyOf at z
      rw [if_neg (by omega)] at z
      by_cases e : wAll xs t = 3003
      · rw [if_pos e] at z
        exact iteTd (congrArg V.int (by omega)) z
      · rw [if_neg e] at z
        exact iteFd (fun h => e (by have := V.int.inj h; omega)) ⟨_, rfl, z⟩
    · have many : 3003 < wAll xs t := by omega
      refine .inr ⟨many, lt, fun H1 d s1 nd hd => ⟨true, exm_self T.k_TooMany (base_I.flat _), fun _ ex nex => ?_, fun z => by cases z⟩⟩
      refine ⟨_, rfl, .ty "IndexError", .type "IndexError", cs 0, true, rfl, rfl, .ty _, T.k_TooMany.ex, fun dx z => by cases z; exact ⟨_, hd⟩, kit_base T.k_TooMany (by decide +kernel) (by decide +kernel), true, rfl, iteT ?_⟩
      refine ⟨_, rfl, by show 2 ≤ sizeLine; decide, fun p hp => ⟨p, [.ref (cs 1), .ref (cs 2)], [.ref (cs 1), .ref (cs 2)], cs 0, false, rfl, rfl, upd_same, .cons (.own _) (.cons (.own _) .nil), T.k_TooMany.ex, fun dx z => by cases z; exact ⟨_, same_new hp _ _ hd⟩, ?_, ?_⟩⟩
      · have ne : ∀ j, j < 3 → 0 ≠ j → cs 0 ≠ cs j := fun j hj h z => h (T.one 0 j (by decide) hj z)
        exact kit_no (kit_other T.k_TooMany T.k_NoPut (base_I.flat _) (ne 1 (by decide) (by decide))) (kit_no (kit_other T.k_TooMany T.k_NoDeed (base_I.flat _) (ne 2 (by decide) (by decide))) kit_nil)
      · refine ⟨false, rfl, _, rfl, true, rfl, iteT ⟨_, rfl, rfl, rfl, d, _, _, rfl, same_new hp _ _ hd, rfl, ?_⟩⟩
        have e : manyOf (wAll xs t) = wAll xs t := if_pos many
        have z := k _ (s1.trans (same_new (o := .tup [.ref (cs 1), .ref (cs 2)]) hp))
        rw [e] at z
        exact z
end

/-! ### how parts are shown -/
mutual
inductive Lf : PyData → Prop
  | int (i : Int) (h : i.natAbs < 10 ^ 13) : Lf (.int i)
  | str (x : Str) (h : (x.cps.toList.all fun c => decide (c < 16 ^ 8)) = true) : Lf (.str x)
  | tup {ds : List PyData} : LfAll ds → Lf (.tuple ds)
inductive LfAll : List PyData → Prop
  | nil : LfAll []
  | cons {d : PyData} {ds : List PyData} : Lf d → LfAll ds → LfAll (d :: ds)
end
theorem lf_one : Lf (.int 1) := .int 1 (by decide)
mutual
theorem Lf.shows : ∀ {d : PyData}, Lf d → d.showable = true ∧ d.hasDict = false ∧ PyData.leavesShort 14 d = true
  | _, .int i h => by
    have lg : i.natAbs.log2 < 44 := PySem.Flt.log2_lt_of (by decide) (Nat.lt_trans h (by decide))
    refine ⟨?_, by rw [PyData.hasDict], ?_⟩
    · rw [PyData.showable]
      exact decide_eq_true (by omega)
    · rw [PyData.leavesShort]
      refine decide_eq_true ?_
      show (Str.ofString (toString i)).length ≤ 14
      rw [PySem.ofString_length]
      exact int_text_length_le10 (k := 13) (by decide) h
  | _, .str x h => ⟨by rw [PyData.showable], by rw [PyData.hasDict], by rw [PyData.leavesShort]; exact h⟩
  | _, .tup r => by
    obtain ⟨a, b, c⟩ := LfAll.shows r
    exact ⟨by rw [PyData.showable]; exact a, by rw [PyData.hasDict]; exact b, by rw [PyData.leavesShort]; exact c⟩
theorem LfAll.shows : ∀ {ds : List PyData}, LfAll ds → PyData.showableAll ds = true ∧ PyData.hasDictAll ds = false ∧ PyData.leavesShortAll 14 ds = true
  | _, .nil => ⟨rfl, rfl, rfl⟩
  | _, .cons h r => by
    obtain ⟨a, b, c⟩ := Lf.shows h
    obtain ⟨a2, b2, c2⟩ := LfAll.shows r
    exact ⟨by rw [PyData.showableAll, a, a2]; rfl, by rw [PyData.hasDictAll, b, b2]; rfl, by rw [PyData.leavesShortAll, c, c2]; rfl⟩
end
theorem Lf.showy {d : PyData} (h : Lf d) (dp : d.depth ≤ 60) (wt : d.weight ≤ 100000) : Showy d := by
  obtain ⟨a, b, c⟩ := h.shows
  refine ⟨a, b, dp, ?_⟩
  have z := PyData.shown_le 14 (by decide) d c
  have e : sizeLine = 16777216 := sizeLine_eq
  omega
theorem lf_rep {d : PyData} (h : Lf d) : ∀ n, LfAll (List.replicate n d)
  | 0 => .nil
  | n + 1 => .cons h (lf_rep h n)
theorem lf_map {α : Type} {f : α → PyData} : ∀ {l : List α}, (∀ x ∈ l, Lf (f x)) → LfAll (l.map f)
  | [], _ => .nil
  | x :: r, h => .cons (h x List.mem_cons_self) (lf_map fun y hy => h y (List.mem_cons_of_mem _ hy))
theorem dep_map {α : Type} {f : α → PyData} {m : Nat} : ∀ {l : List α}, (∀ x ∈ l, (f x).depth ≤ m) → PyData.depthAll (l.map f) ≤ m
  | [], _ => Nat.zero_le _
  | x :: r, h => by
    rw [List.map_cons, PyData.depthAll]
    exact Nat.max_le.mpr ⟨h x List.mem_cons_self, dep_map fun y hy => h y (List.mem_cons_of_mem _ hy)⟩
theorem wt_map {α : Type} {f : α → PyData} {m : Nat} : ∀ {l : List α}, (∀ x ∈ l, (f x).weight ≤ m) → PyData.weightAll (l.map f) ≤ (m + 1) * l.length
  | [], _ => Nat.zero_le _
  | x :: r, h => by
    have a := h x List.mem_cons_self
    have b := wt_map (l := r) fun y hy => h y (List.mem_cons_of_mem _ hy)
    rw [List.map_cons, PyData.weightAll, List.length_cons, Nat.mul_succ]
    omega
theorem rep_map {d : PyData} (n : Nat) : List.replicate n d = (List.range n).map fun _ => d := by
  rw [List.map_const', List.length_range]
theorem wt_one : (PyData.int 1).weight = 1 := by rfl
theorem dep_one : (PyData.int 1).depth = 0 := by rfl
/-- repr, where nothing is being shown -/
structure RRepr (K : PySem.W.Frag) (xs : List V) (H : Hp) (Q : VK) : Prop where
  h : (xs = [.non] ∧ Q (.str "None") H) ∨ (∃ i, xs = [.int i] ∧ i.natAbs.log2 < 1920 ∧ Q (.str (toString i)) H) ∨ ∃ a d, xs = [.ref a] ∧ Dp K H (.ref a) d ∧ Showy d ∧ Q (.str d.shown) H
theorem call_reprW {X : Cx} (hgd : X.A.guards = some []) (hu : X.A.units + 64 < cLine) : CallR X (.builtin "repr") (RRepr X.K) := fun pins s σ H xs us Q I r h => call_reprV hgd hu pins s σ H xs us Q I r h.h
/-- a tuple's repr -/
theorem tp_reprT {K : PySem.W.Frag} {H : Hp} {v : V} {ds : List PyData} {Q : VK} (t : Tp H v (.tuple ds)) (ok : Showy (.tuple ds)) (q : Q (.str (PyData.tuple ds).shown) H) : RRepr K [v] H Q := by
  cases t with
  | tup h r => exact ⟨.inr (.inr ⟨_, _, rfl, (Tp.tup h r).dp, ok, q⟩)⟩
theorem Lf.showy2 {d : PyData} (h : Lf d) (dp : d.depth ≤ 60) (wt : d.bulk ≤ 900000) : Showy d := by
  obtain ⟨a, b, c⟩ := h.shows
  refine ⟨a, b, dp, ?_⟩
  have z := PyData.shown_le_bulk 14 (by decide) d c
  have e : sizeLine = 16777216 := sizeLine_eq
  omega

/-! ### how the knot is shown -/
theorem bulk_le {n : Nat} : ∀ {l : List PyData}, (∀ d ∈ l, d.bulk ≤ n) → PyData.bulkAll l ≤ (n + 1) * l.length
  | [], _ => Nat.zero_le _
  | d :: r, h => by
    have a := h d List.mem_cons_self
    have b := bulk_le (l := r) fun e he => h e (List.mem_cons_of_mem _ he)
    rw [PyData.bulkAll, List.length_cons, Nat.mul_succ]
    omega
theorem depth_le {n : Nat} : ∀ {l : List PyData}, (∀ d ∈ l, d.depth ≤ n) → PyData.depthAll l ≤ n
  | [], _ => Nat.zero_le _
  | d :: r, h => by
    rw [PyData.depthAll]
    exact Nat.max_le.mpr ⟨h d List.mem_cons_self, depth_le fun e he => h e (List.mem_cons_of_mem _ he)⟩
theorem lfall_of : ∀ {l : List PyData}, (∀ d ∈ l, Lf d) → LfAll l
  | [], _ => .nil
  | d :: r, h => .cons (h d List.mem_cons_self) (lfall_of fun e he => h e (List.mem_cons_of_mem _ he))
/-- what is as small as told -/
structure Sm (d : PyData) (b : Nat) (n : Nat) : Prop where
  lf : Lf d
  bk : d.bulk ≤ b
  dp : d.depth ≤ n
theorem sm_int (i : Int) (h : i.natAbs < 10 ^ 13) (n : Nat) : Sm (.int i) 0 n := ⟨.int i h, Nat.le_refl _, by rw [PyData.depth]; exact Nat.zero_le _⟩
theorem sm_tup {l : List PyData} {b n k : Nat} (h : ∀ d ∈ l, Sm d b n) (hk : (b + 1) * l.length ≤ k) : Sm (.tuple l) k (n + 1) := by
  refine ⟨.tup (lfall_of fun d hd => (h d hd).lf), ?_, ?_⟩
  · rw [PyData.bulk]
    exact Nat.le_trans (bulk_le fun d hd => (h d hd).bk) hk
  · rw [PyData.depth]
    have := depth_le fun d hd => (h d hd).dp
    omega
theorem Sm.mono {d : PyData} {b b' n n' : Nat} (h : Sm d b n) (hb : b ≤ b') (hn : n ≤ n') : Sm d b' n' := ⟨h.lf, Nat.le_trans h.bk hb, Nat.le_trans h.dp hn⟩
theorem sm_ints {l : List Int} {k : Nat} (h : ∀ x ∈ l, x.natAbs < 10 ^ 13) (hk : l.length ≤ k) : Sm (tI l) k 1 := by
  refine sm_tup (b := 0) (n := 0) (fun d hd => ?_) (by rw [List.length_map]; omega)
  obtain ⟨x, hx, rfl⟩ := List.mem_map.mp hd
  exact sm_int x (h x hx) 0

/-! ### the law -/
theorem lc_picks {te : TE} {vs : List Nat} {σ : L2.St} {H : Hp} {D t c : Addr} {Qd : Hp → Prop} {j n N : Nat} {zs : List Int} (hD : H D = none) (tp : Tape H t c N) (hn : n ≤ 1000) (hN : N + n < 900000)
    (wip : ∀ i : Nat, wipe ((wipe σ vs).set j (some (.int (0 + (i : Int))))) vs = wipe σ vs)
    (he : ∀ (i : Nat) (H' : Hp) (m : Nat), Tape H' t c m → m < 900000 → ∀ R : VK, (∀ H'' z, z ∈ zs → Tape H'' t c (m + 1) → Kp t H' H'' → R (.int z) H'') → te ((wipe σ vs).set j (some (.int (0 + (i : Int))))) H' R)
    (k : ∀ (H' : Hp) (ls : List Int), ls.length = n → (∀ x ∈ ls, x ∈ zs) → H' D = some (.lst (ls.map V.int)) → Tape H' t c (N + n) → Kp t H H' → Qd H') :
    ∃ W : Nat → Nat → Hp → Prop, (∃ m, W 0 m (upd H D (.lst []))) ∧ ∀ i m Hc, W i m Hc →
      ((Itr 0 n).stop i Hc ∧ Qd Hc) ∨ ((Itr 0 n).go i Hc ∧ ∃ Nx : Hp → Prop, (∀ H', Nx H' → ∃ m', m' < m ∧ W (i + 1) m' H') ∧ ∀ x H', (Itr 0 n).yld i Hc x H' → gName j x (wipe σ vs) H' fun σ2 H2 => wipe σ2 vs = wipe σ vs ∧ tYes σ2 H2 fun b H3 =>
        if b = true then te σ2 H3 fun y H4 => ∃ acc, H4 D = some (.lst acc) ∧ acc.length < sizeLine ∧ Nx (upd H4 D (.lst (acc ++ [y]))) else Nx H3) := by
  have line : (5000000 : Nat) < sizeLine := by decide
  have nDt : D ≠ t := tp.fresh hD
  have nDc : D ≠ c := tp.fresh_c hD
  refine lc_range (lo := 0) (fun i H' => Kp t H H' ∧ Tape H' t c (N + i) ∧ ∃ ls : List Int, ls.length = i ∧ (∀ x ∈ ls, x ∈ zs) ∧ H' D = some (.lst (ls.map V.int))) ⟨Kp.new hD, tp.new hD, [], rfl, fun _ h => (by cases h), upd_same⟩ (fun i H' hi p => ?_) (fun H' p => ?_)
  · obtain ⟨kp, tp', ls, ll, inz, h⟩ := p
    refine ⟨wip i, yes_go (he i H' _ tp' (by omega) _ fun H2 z hz tp2 kp2 => ?_)⟩
    refine ⟨_, kp2 D _ h nDt, by rw [List.length_map]; omega, (kp.trans kp2).mut hD, tp2.mut nDt nDc, ls ++ [z], by rw [List.length_append, ll]; rfl, fun x hx => ?_, ?_⟩
    · rcases List.mem_append.mp hx with hx | hx
      · exact inz x hx
      · rw [List.mem_singleton.mp hx]
        exact hz
    · rw [upd_same, List.map_append]
      rfl
  · obtain ⟨kp, tp', ls, ll, inz, h⟩ := p
    exact k H' ls ll inz h tp' kp
/-- what the choices want, and what is shown -/
structure LOk (ls : List Int) (t : Int) : Prop where
  L : Lens ls
  t0 : 0 ≤ t
  t1 : t ≤ 60
  few : wAll ls t ≤ 3003
  fine : Fine ls t
theorem list_showy {ds : List PyData} (h : LfAll ds) (dp : PyData.depthAll ds ≤ 59) (wt : PyData.bulkAll ds ≤ 900000) : Showy (.list ds) := by
  obtain ⟨a, b, c⟩ := h.shows
  have c' : PyData.leavesShort 14 (.list ds) = true := by rw [PyData.leavesShort]; exact c
  have z := PyData.shown_le_bulk 14 (by decide) (.list ds) c'
  have eb : (PyData.list ds).bulk = PyData.bulkAll ds := by rw [PyData.bulk]
  have e : sizeLine = 16777216 := sizeLine_eq
  refine ⟨by rw [PyData.showable]; exact a, by rw [PyData.hasDict]; exact b, by rw [PyData.depth]; omega, ?_⟩
  omega
def lsD (rows : List (List Int)) : PyData := .list (rows.map tI)
theorem lay_lsD (rows : List (List Int)) : (lsD rows).canLay0 = true := by
  unfold lsD
  rw [PyData.canLay0]
  exact lay_tups rows
theorem shape_lsD (rows : List (List Int)) : SeqAt.shaped (lsD rows) = true := by
  have d : (lsD rows).depth ≤ 2 := by
    have h := dep_tups rows
    have e : (lsD rows).depth = PyData.depthAll (rows.map tupD) + 1 := by
      unfold lsD
      rw [PyData.depth]
      rfl
    omega
  unfold SeqAt.shaped
  rw [lay_lsD, decide_eq_true (Nat.le_trans d (by decide))]
  rfl
theorem eqv_lsD (rows : List (List Int)) : PyData.eqv (lsD rows) (lsD rows) = true := SeqAt.eqv_refl _ (lay_lsD rows)
theorem LOk.showy {ls : List Int} {t : Int} (h : LOk ls t) : Showy (lsD (due ls t)) := by
  have nn : ∀ l ∈ ls, 0 ≤ l := fun l hl => (h.L.b l hl).1
  have ld := due_len h.t0 nn
  have few := h.few
  have n60 := h.L.n
  have row : ∀ d ∈ (due ls t).map tI, Sm d 60 1 := fun d hd => by
    obtain ⟨c, hc, rfl⟩ := List.mem_map.mp hd
    obtain ⟨e1, e2⟩ := due_fit h.t0 nn c hc
    refine sm_ints (fun x hx => ?_) (by omega)
    obtain ⟨i, hi, ei⟩ := List.getElem_of_mem hx
    have hl : i < ls.length := by omega
    have z := e2 i x ls[i] (by rw [List.getElem?_eq_getElem hi, ei]) (List.getElem?_eq_getElem hl)
    have b := h.L.b _ (List.getElem_mem hl)
    omega
  refine list_showy (lfall_of fun d hd => (row d hd).lf) (Nat.le_trans (depth_le fun d hd => (row d hd).dp) (by decide)) ?_
  refine Nat.le_trans (bulk_le fun d hd => (row d hd).bk) ?_
  rw [List.length_map]
  have : (due ls t).length ≤ 3003 := by omega
  exact Nat.le_trans (Nat.mul_le_mul_left _ this) (by decide)
/-- a list's repr -/
theorem tp_reprL {K : PySem.W.Frag} {H : Hp} {q : Addr} {ys : List V} {rows : List (List Int)} {Q : VK} (hq : H q = some (.lst ys)) (t : TpAll H ys (rows.map tI)) (ok : Showy (lsD rows)) (k : Q (.str (lsD rows).shown) H) : RRepr K [.ref q] H Q :=
  ⟨.inr (.inr ⟨q, _, rfl, .lst (SqL.of hq) t.dp, ok, k⟩)⟩
/-! which ones are drawn -/
theorem lok_small {ls : List Int} {t : Int} (h1 : 1 ≤ ls.length) (h6 : ls.length ≤ 6) (b : ∀ x ∈ ls, x ∈ [(1 : Int), 1, 2, 0, 3]) (t0 : 0 ≤ t) (t1 : t ≤ 60) : LOk ls t := by
  have bb : ∀ x ∈ ls, 0 ≤ x ∧ x ≤ 3 := fun x hx => by
    have := b x hx
    simp only [List.mem_cons, List.not_mem_nil, or_false] at this
    omega
  refine ⟨⟨fun l hl => by have := bb l hl; omega, by omega⟩, t0, t1, ?_, fine_few (b := 4) (m := 6) (by decide) (fun l hl => by have := bb l hl; omega) h6 (by decide)⟩
  have ne : ls ≠ [] := fun z => by rw [z] at h1; exact absurd h1 (by decide)
  obtain ⟨xs, x, rfl⟩ : ∃ xs x, ls = xs ++ [x] := ⟨_, _, (List.dropLast_concat_getLast ne).symm⟩
  have w := wAll_le (b := 4) xs x t (fun l hl => by have := bb l hl; omega)
  rw [List.length_append, List.length_singleton] at h6
  have p : 4 ^ xs.length ≤ 4 ^ 5 := Nat.pow_le_pow_right (by decide) (by omega)
  have p5 : (4 : Nat) ^ 5 = 1024 := by decide
  omega
theorem lok_wide {ls : List Int} {t : Int} (h6 : ls.length = 60) (b : ∀ x ∈ ls, x ∈ [(0 : Int), 0, 0, 0, 0, 0, 0, 0, 0, 12]) (t0 : 0 ≤ t) (t1 : t ≤ 2) : LOk ls t := by
  have bb : ∀ x ∈ ls, 0 ≤ x ∧ x ≤ 12 := fun x hx => by
    have := b x hx
    simp only [List.mem_cons, List.not_mem_nil, or_false] at this
    omega
  obtain ⟨w0, w1, w2⟩ := few_two ls fun l hl => (bb l hl).1
  rw [h6] at w1 w2
  refine ⟨⟨fun l hl => by have := bb l hl; omega, by omega⟩, t0, by omega, ?_, fine_pow (n := 60) (k := 2) t0 t1 (by omega) (by decide)⟩
  have w2 : 2 * wAll ls 2 ≤ 60 * (60 + 1) := w2
  rcases (by omega : t = 0 ∨ t = 1 ∨ t = 2) with rfl | rfl | rfl
  · omega
  · have w1 : wAll ls 1 ≤ 60 := w1
    omega
  · omega
theorem sum_by {b : Int} : ∀ ls : List Int, (∀ x ∈ ls, 0 ≤ x ∧ x ≤ b) → 0 ≤ ls.sum ∧ ls.sum ≤ b * (ls.length : Int)
  | [], _ => by
    show (0 : Int) ≤ 0 ∧ (0 : Int) ≤ b * ((0 : Nat) : Int)
    rw [show ((0 : Nat) : Int) = 0 from rfl, Int.mul_zero]
    exact ⟨Int.le_refl _, Int.le_refl _⟩
  | x :: r, h => by
    have a := h x List.mem_cons_self
    have c := sum_by r fun y hy => h y (List.mem_cons_of_mem _ hy)
    rw [List.sum_cons, List.length_cons, show ((r.length + 1 : Nat) : Int) = (r.length : Int) + 1 from rfl, Int.mul_add, Int.mul_one]
    omega
theorem TpAll.rev {H : Hp} : ∀ {vs : List V} {ds : List PyData}, TpAll H vs ds → TpAll H vs.reverse ds.reverse
  | _, _, .nil => .nil
  | _, _, .cons h r => by
    rw [List.reverse_cons, List.reverse_cons]
    exact (TpAll.rev r).snoc h
theorem cmpl_get {X c : List Int} {n : Nat} (h1 : X.length = n) (h2 : c.length = n) : ((List.range n).map fun k => X.getD k 0 - c.getD k 0) = cmpl X c := by
  have l : (cmpl X c).length = n := by
    unfold cmpl
    rw [List.length_zipWith, h1, h2, Nat.min_self]
  refine List.ext_getElem (by rw [List.length_map, List.length_range, l]) fun i a b => ?_
  rw [List.length_map, List.length_range] at a
  rw [List.getElem_map, List.getElem_range]
  rw [show (cmpl X c)[i] = X[i]'(by omega) - c[i]'(by omega) from List.getElem_zipWith, List.getD_eq_getElem?_getD, List.getD_eq_getElem?_getD, List.getElem?_eq_getElem (by omega), List.getElem?_eq_getElem (by omega)]
  rfl
theorem rep_flat (k : Nat) (x : Int) : (List.replicate k [V.int x]).flatten = (List.replicate k x).map V.int := by
  rw [flat_same, List.map_replicate]
/-- sixteen rows of one or two -/
structure Six (X : List Int) : Prop where
  n : X.length = 16
  b : ∀ x ∈ X, x = 1 ∨ x = 2
  p : pr X ≤ 1000000
theorem six_of {X ls : List Int} (pm : X.Perm (List.replicate 14 1 ++ ls)) (l2 : ls.length = 2) (b : ∀ x ∈ ls, x ∈ [(1 : Int), 2]) : Six X := by
  have bb : ∀ x ∈ ls, x = 1 ∨ x = 2 := fun x hx => by
    have := b x hx
    simp only [List.mem_cons, List.not_mem_nil, or_false] at this
    exact this
  refine ⟨by rw [pm.length_eq, List.length_append, List.length_replicate, l2], fun x hx => ?_, ?_⟩
  · rcases List.mem_append.mp (pm.mem_iff.mp hx) with z | z
    · exact .inl (List.eq_of_mem_replicate z)
    · exact bb x z
  · rw [pr_perm pm, pr_append]
    obtain ⟨u, v, rfl⟩ : ∃ u v, ls = [u, v] := by
      match ls, l2 with
      | [u, v], _ => exact ⟨u, v, rfl⟩
    have hu := bb u List.mem_cons_self
    have hv := bb v (List.mem_cons_of_mem _ List.mem_cons_self)
    have e : pr (List.replicate 14 1) = 16384 := by decide +kernel
    have f : pr [u, v] ≤ 9 := by
      show (u.toNat + 1) * ((v.toNat + 1) * 1) ≤ 9
      rcases hu with rfl | rfl <;> rcases hv with rfl | rfl <;> decide
    rw [e]
    omega
theorem Six.pos {X : List Int} (h : Six X) : ∀ l ∈ X, 0 ≤ l := fun l hl => by
  rcases h.b l hl with z | z <;> omega
theorem Six.lens {X : List Int} (h : Six X) : Lens X := ⟨fun l hl => by rcases h.b l hl with z | z <;> omega, by have := h.n; omega⟩
theorem Six.sum {X : List Int} (h : Six X) : 16 ≤ X.sum ∧ X.sum ≤ 32 := by
  have g : ∀ l : List Int, (∀ x ∈ l, x = 1 ∨ x = 2) → (l.length : Int) ≤ l.sum ∧ l.sum ≤ 2 * (l.length : Int) := by
    intro l
    induction l with
    | nil => exact fun _ => ⟨Int.le_refl _, Int.le_refl _⟩
    | cons x r ih =>
      intro hx
      have a := hx x List.mem_cons_self
      have b := ih fun y hy => hx y (List.mem_cons_of_mem _ hy)
      rw [List.sum_cons, List.length_cons]
      rcases a with rfl | rfl <;> omega
  have z := g X h.b
  have := h.n
  omega
theorem Six.two {X : List Int} (h : Six X) : wAll X 2 ≤ 136 := by
  have w := (few_two X h.pos).2.2
  rw [h.n] at w
  have w : 2 * wAll X 2 ≤ 16 * (16 + 1) := w
  omega
theorem Six.turn {X : List Int} (h : Six X) : due X (X.sum - 2) = ((due X 2).map (cmpl X)).reverse := due_turn X 2 (by decide) h.pos
theorem Six.few {X : List Int} (h : Six X) : wAll X (X.sum - 2) ≤ 3003 := by
  have s := h.sum
  have a := due_len (ls := X) (t := X.sum - 2) (by omega) h.pos
  have b := due_len (ls := X) (t := 2) (by decide) h.pos
  have c := congrArg List.length h.turn
  rw [List.length_reverse, List.length_map] at c
  have := h.two
  omega
def mix (m : Nat) : List Int := List.replicate m 3 ++ List.replicate (16 - m) 2 ++ List.replicate 10 1
theorem mix_w {m : Nat} (h1 : 3 ≤ m) (h2 : m ≤ 16) : wAll (mix m) 3 = 3000 + (m : Int) := by
  have key : ∀ k : Fin 17, 3 ≤ k.val → (wtab 3 (mix k.val)).getD 3 0 = 3000 + k.val := by decide +kernel
  have a := (wtab_at 3 (mix m) (fun l hl => by
    unfold mix at hl
    rcases List.mem_append.mp hl with z | z
    · rcases List.mem_append.mp z with z | z
      · rw [List.eq_of_mem_replicate z]; decide
      · rw [List.eq_of_mem_replicate z]; decide
    · rw [List.eq_of_mem_replicate z]; decide)).2 3 (by decide)
  have b := key ⟨m, by omega⟩ h1
  have b : (wtab 3 (mix m)).getD 3 0 = 3000 + m := b
  rw [b] at a
  have a : ((3000 + m : Nat) : Int) = wAll (mix m) 3 := a
  omega
theorem mix_len {m : Nat} (h2 : m ≤ 16) : (mix m).length = 26 := by
  unfold mix
  rw [List.length_append, List.length_append, List.length_replicate, List.length_replicate, List.length_replicate]
  omega
theorem mix_b {m : Nat} : ∀ l ∈ mix m, 0 ≤ l ∧ l ≤ 60 := fun l hl => by
  unfold mix at hl
  rcases List.mem_append.mp hl with z | z
  · rcases List.mem_append.mp z with z | z
    · rw [List.eq_of_mem_replicate z]; decide
    · rw [List.eq_of_mem_replicate z]; decide
  · rw [List.eq_of_mem_replicate z]; decide
/-- rows of one, a total, what is told -/
structure One3 (n T d : Int) : Prop where
  n0 : 0 ≤ n
  n1 : n ≤ 60
  t0 : 0 ≤ T
  t1 : T ≤ 30
  w : manyOf (wAll (List.replicate n.toNat 1) T) = d
  lt : wAll (List.replicate n.toNat 1) T < 10 ^ 18
  fine : wAll (List.replicate n.toNat 1) T ≤ 3003 → Fine (List.replicate n.toNat 1) T
theorem one3_of (n T v : Nat) (d : Int) (hn : n ≤ 60) (hT : T ≤ 30) (h : (wtab T (List.replicate n 1)).getD T 0 = v) (hd : manyOf (v : Int) = d) (lt : (v : Int) < 10 ^ 18) (f : v ≤ 3003 → n ≤ 16) : One3 n T d := by
  have w := w_ones n T v h
  have e : (n : Int).toNat = n := by omega
  refine ⟨by omega, by omega, by omega, by omega, by rw [e, w]; exact hd, by rw [e, w]; exact lt, fun z => ?_⟩
  rw [e] at z ⊢
  rw [w] at z
  refine fine_pr (fun l hl => by rw [List.eq_of_mem_replicate hl]; decide) ?_
  have g : ∀ k : Nat, pr (List.replicate k 1) = 2 ^ k := by
    intro k
    induction k with
    | zero => rfl
    | succ k ih =>
      show (1 + 1) * pr (List.replicate k 1) = _
      rw [ih, Nat.pow_succ, Nat.mul_comm]
  rw [g]
  exact Nat.le_trans (Nat.pow_le_pow_right (by decide) (f (by omega))) (by decide)
def cases8 : List (List Int) := [[14, 6, 0], [14, 7, 3432], [15, 5, 0], [15, 6, 5005], [60, 30, 118264581564861424], [16, 5, 4368], [18, 4, 3060], [28, 3, 3276]]
theorem cases_ok : ∀ c ∈ cases8, ∃ n T d, c = [n, T, d] ∧ One3 n T d := fun c hc => by
  unfold cases8 at hc
  simp only [List.mem_cons, List.not_mem_nil, or_false] at hc
  rcases hc with rfl | rfl | rfl | rfl | rfl | rfl | rfl | rfl
  · exact ⟨_, _, _, rfl, one3_of 14 6 3003 0 (by decide) (by decide) (by decide +kernel) (by decide) (by decide) (by decide)⟩
  · exact ⟨_, _, _, rfl, one3_of 14 7 3432 3432 (by decide) (by decide) (by decide +kernel) (by decide) (by decide) (by decide)⟩
  · exact ⟨_, _, _, rfl, one3_of 15 5 3003 0 (by decide) (by decide) (by decide +kernel) (by decide) (by decide) (by decide)⟩
  · exact ⟨_, _, _, rfl, one3_of 15 6 5005 5005 (by decide) (by decide) (by decide +kernel) (by decide) (by decide) (by decide)⟩
  · exact ⟨_, _, _, rfl, one3_of 60 30 118264581564861424 118264581564861424 (by decide) (by decide) (by decide +kernel) (by decide) (by decide) (by decide)⟩
  · exact ⟨_, _, _, rfl, one3_of 16 5 4368 4368 (by decide) (by decide) (by decide +kernel) (by decide) (by decide) (by decide)⟩
  · exact ⟨_, _, _, rfl, one3_of 18 4 3060 3060 (by decide) (by decide) (by decide +kernel) (by decide) (by decide) (by decide)⟩
  · exact ⟨_, _, _, rfl, one3_of 28 3 3276 3276 (by decide) (by decide) (by decide +kernel) (by decide) (by decide) (by decide)⟩
theorem put_row {H : Hp} {xs : List V} {ds : List PyData} (t : TpAll H xs ds) {p : Addr} (n : H p = none) (c : List Int) : TpAll (upd H p (.tup (c.map V.int))) (xs ++ [.ref p]) (ds ++ [tI c]) := (t.kt (KT.new n)).snoc (tp_ints upd_same)
def spLaw (K : PySem.W.Frag) : Sp := fun vs H Q _ => ∃ (a : Addr) (ns : List Int), vs = [.ref a] ∧ SqL K H a (ns.map V.int) ∧ ns.length ≤ 63 ∧ ∀ H', Q (.bl true) H'
section
variable {P : Program} {w : World} {K : PySem.W.Frag} {mg : Str → Option Value} {base : Heap}
theorem ok_law {f : Addr} {fd : FuncData} (F : Fun K "law" "law" s_law f fd) (T : Top K mg cs) (h__law_begun : Has P w K mg base 1 "_law_begun" ["_law_script"] (spBegun K)) (h__law_draw : Has P w K mg base 1 "_law_draw" ["_law_tape", "_law_many_here"] spDraw)
    (h__law_pick : Has P w K mg base 2 "_law_pick" ["_law_tape", "_law_some"] (spPick K)) (h_choices : HasX P w K mg base 5 "choices" ["lens", "total"] (spChs (cs 0) K)) (h__law_due : Has P w K mg base 1 "_law_due" ["_law_lens", "_law_total"] (spLChs K))
    (h__law_shuffled : Has P w K mg base 2 "_law_shuffled" ["_law_tape", "_law_some"] spShuf) (h__law_many : Has P w K mg base 6 "_law_many" ["_law_lens", "_law_total"] (spMany K)) : FnG P w K mg base 70 f fd ["_law_script"] (spLaw K) := by
  refine fnG F sc_law (fun vs H Q E h => ?_) (fun cdv Ar outer s H vs Q E hr hgd h => ?_)
  · obtain ⟨a, ns, rfl, _⟩ := h
    rfl
  · have hu := hu_of hr
    have nd := sc_law.nd
    obtain ⟨a, ns, rfl, hS, hl, k⟩ := h
    refine ⟨_, (pss_cons (ps_set (i := 1) nd rfl (.inr rfl) (pe_has h__law_begun (hr.mono (by omega)) (by rfl) (pa_cons (pv 0) pa_nil)))
    (pss_cons (ps_for PassesOwn.never rfl (pi_range1 (by rfl) T.b_range (pa_cons pe_int pa_nil)) (pg_name (i := 2) nd rfl (.inl rfl))
      (pss_cons (ps_set (i := 3) nd rfl (.inr rfl) (pe_lc (own := [("_law_k", 11)]) (by rfl) nd (pi_range1 (by rfl) T.b_range (pa_cons (pe_op op_add pe_int (pe_has h__law_draw (hr.mono (by omega)) (by rfl) (pa_cons (pv 1) (pa_cons pe_int pa_nil)))) pa_nil)) (blkOk_by (own := [("_law_k", 11)]) (N := nm_law) (sc := defScope s_law) (by decide +kernel)) (fun _ _ _ _ _ => pg_name (i := 11) nd rfl (.inl rfl)) (fun _ _ _ _ _ => pts_nil) (fun _ _ _ _ _ => (pe_has h__law_pick (hr.mono (by omega)) (by rfl) (pa_cons (pv 1) (pa_cons (pe_lst (pa_cons pe_int (pa_cons pe_int (pa_cons pe_int (pa_cons pe_int (pa_cons pe_int pa_nil)))))) pa_nil))))))
    (pss_cons (ps_set (i := 4) nd rfl (.inl rfl) (pe_has h__law_pick (hr.mono (by omega)) (by rfl) (pa_cons (pv 1) (pa_cons (pe_lst (pa_cons (pe_op op_fdivW (pe_callB (cr_sum rfl) (by rfl) T.b_sum (by decide +kernel) (pa_cons (pv 3) pa_nil)) pe_int) (pa_cons (pe_has h__law_draw (hr.mono (by omega)) (by rfl) (pa_cons (pv 1) (pa_cons (pe_op op_add (pe_callB (cr_sum rfl) (by rfl) T.b_sum (by decide +kernel) (pa_cons (pv 3) pa_nil)) pe_int) pa_nil))) (pa_cons pe_int pa_nil)))) pa_nil))))
    (C8.pss_cut (ps_if (pt_cmpR op_eq (pe_has h__law_draw (hr.mono (by omega)) (by rfl) (pa_cons (pv 1) (pa_cons pe_int pa_nil))) pe_int (nomark _)) (pss_one (ps_asg (pe_tup (pa_cons (pe_lc (own := [("_law_k", 11)]) (by rfl) nd (pi_range1 (by rfl) T.b_range (pa_cons pe_int pa_nil)) (blkOk_by (own := [("_law_k", 11)]) (N := nm_law) (sc := defScope s_law) (by decide +kernel)) (fun _ _ _ _ _ => pg_name (i := 11) nd rfl (.inl rfl)) (fun _ _ _ _ _ => pts_nil) (fun _ _ _ _ _ => (pe_has h__law_pick (hr.mono (by omega)) (by rfl) (pa_cons (pv 1) (pa_cons (pe_lst (pa_cons pe_int (pa_cons pe_int (pa_cons pe_int (pa_cons pe_int (pa_cons pe_int (pa_cons pe_int (pa_cons pe_int (pa_cons pe_int (pa_cons pe_int (pa_cons pe_int pa_nil))))))))))) pa_nil))))) (pa_cons (pe_has h__law_draw (hr.mono (by omega)) (by rfl) (pa_cons (pv 1) (pa_cons pe_int pa_nil))) pa_nil))) (pg_tup (by rfl) (pgs_cons (pg_name (i := 3) nd rfl (.inr rfl)) (pgs_cons (pg_name (i := 4) nd rfl (.inl rfl)) pgs_nil))))) pss_nil)
    (pss_cons (ps_set (i := 5) nd rfl (.inl rfl) (pe_callTy call_list_of (by rfl) T.b_list (by decide +kernel) (pa_cons (pv 3) pa_nil)))
    (pss_cons (ps_set (i := 6) nd rfl (.inl rfl) (pe_hasX0 h_choices (hr.mono (by omega)) (by rfl) (pa_cons (pv 3) (pa_cons (pv 4) pa_nil))))
    (pss_cons (ps_if (PW.pt (pw_or (pt_cmpR op_ne (pe_callB (call_reprW hgd hr.units) (by rfl) T.b_repr (by decide +kernel) (pa_cons (pv 6) pa_nil)) (pe_callB (call_reprW hgd hr.units) (by rfl) T.b_repr (by decide +kernel) (pa_cons (pe_has h__law_due (hr.mono (by omega)) (by rfl) (pa_cons (pv 5) (pa_cons (pv 4) pa_nil))) pa_nil)) (nomark _)) (pw_or1 (pt_cmpR (op_neD hr.units) (pv 3) (pv 5) (nomark _))))) (pss_one (ps_ret pe_bl)) pss_nil)
    (pss_cons (ps_expr (pe_bm PySem.F.plainAttrs_list PySem.F.slot_list_append PySem.F.type_list_append mt_append (pv 6) (pa_cons (pe_tup (pa_cons (pv 4) pa_nil)) pa_nil)))
    (pss_one (ps_if (pt_cmpR op_ne (pe_callB (call_reprW hgd hr.units) (by rfl) T.b_repr (by decide +kernel) (pa_cons (pe_hasX0 h_choices (hr.mono (by omega)) (by rfl) (pa_cons (pv 3) (pa_cons (pv 4) pa_nil))) pa_nil)) (pe_callB (call_reprW hgd hr.units) (by rfl) T.b_repr (by decide +kernel) (pa_cons (pe_has h__law_due (hr.mono (by omega)) (by rfl) (pa_cons (pv 5) (pa_cons (pv 4) pa_nil))) pa_nil)) (nomark _)) (pss_one (ps_ret pe_bl)) pss_nil))))))))))
    (pss_cons (ps_set (i := 3) nd rfl (.inr rfl) (pe_has h__law_shuffled (hr.mono (by omega)) (by rfl) (pa_cons (pv 1) (pa_cons (pe_op op_cat (pe_op op_rep (pe_lst (pa_cons pe_int pa_nil)) pe_int) (pe_lc (own := [("_law_k", 11)]) (by rfl) nd (pi_range1 (by rfl) T.b_range (pa_cons pe_int pa_nil)) (blkOk_by (own := [("_law_k", 11)]) (N := nm_law) (sc := defScope s_law) (by decide +kernel)) (fun _ _ _ _ _ => pg_name (i := 11) nd rfl (.inl rfl)) (fun _ _ _ _ _ => pts_nil) (fun _ _ _ _ _ => (pe_has h__law_pick (hr.mono (by omega)) (by rfl) (pa_cons (pv 1) (pa_cons (pe_lst (pa_cons pe_int (pa_cons pe_int pa_nil))) pa_nil)))))) pa_nil))))
    (pss_cons (ps_setLc (i := 7) (own := [("_law_one", 10)]) (by rfl) nd rfl rfl (sw_true rfl rfl rfl (by decide +kernel)) (pi_list (pe_has h__law_due (hr.mono (by omega)) (by rfl) (pa_cons (pv 3) (pa_cons pe_int pa_nil)))) (blkOk_by (own := [("_law_one", 10)]) (N := nm_law) (sc := defScope s_law) (by decide +kernel)) (fun _ _ _ _ _ => pg_name (i := 10) nd rfl (.inr rfl)) (fun _ _ _ _ _ => pts_nil) (fun _ _ _ _ _ => (pe_callTy (call_tuple_ofK (K := K) rfl) (by rfl) T.b_tuple (by decide +kernel) (pa_cons (pe_lc (own := [("_law_k", 11)]) (by rfl) nd (pi_range1 (by rfl) T.b_range (pa_cons pe_int pa_nil)) (blkOk_by (own := [("_law_k", 11)]) (N := nm_law) (sc := relS { kind := .function, names := [(".0", .local), ("_law_one", .cell), ("tuple", .globalImplicit), ("range", .globalImplicit), ("_law_lens", .free)], isGenerator := false, isCoroutine := false, more := [] } (defScope s_law)) (by decide +kernel)) (fun _ _ _ _ _ => pg_name (i := 11) nd rfl (.inl rfl)) (fun _ _ _ _ _ => pts_nil) (fun _ _ _ _ _ => (pe_op op_sub (pe_ix (ix_listK (K := K) rfl) (pv 3) (pv 11) (fun _ _ => rfl)) (pe_ix (ix_tupK (K := K) rfl) (pv 10) (pv 11) (fun _ _ => rfl))))) pa_nil))))
    (pss_cons (ps_if (pt_cmpR (op_neD hr.units) (pe_hasX0 h_choices (hr.mono (by omega)) (by rfl) (pa_cons (pe_callTy call_list_of (by rfl) T.b_list (by decide +kernel) (pa_cons (pv 3) pa_nil)) (pa_cons (pe_op op_sub (pe_callB (cr_sum rfl) (by rfl) T.b_sum (by decide +kernel) (pa_cons (pv 3) pa_nil)) pe_int) pa_nil))) (pe_revL (pv 7)) (nomark _)) (pss_one (ps_ret pe_bl)) pss_nil)
    (pss_cons (ps_set (i := 8) nd rfl (.inl rfl) (pe_has h__law_pick (hr.mono (by omega)) (by rfl) (pa_cons (pv 1) (pa_cons (pe_lst (pa_cons pe_int (pa_cons pe_int (pa_cons pe_int (pa_cons (pe_op op_add pe_int (pe_has h__law_draw (hr.mono (by omega)) (by rfl) (pa_cons (pv 1) (pa_cons pe_int pa_nil)))) pa_nil))))) pa_nil))))
    (pss_cons (ps_set (i := 3) nd rfl (.inr rfl) (pe_has h__law_shuffled (hr.mono (by omega)) (by rfl) (pa_cons (pv 1) (pa_cons (pe_op op_cat (pe_op op_cat (pe_op op_rep (pe_lst (pa_cons pe_int pa_nil)) (pv 8)) (pe_op op_rep (pe_lst (pa_cons pe_int pa_nil)) (pe_op op_sub pe_int (pv 8)))) (pe_op op_rep (pe_lst (pa_cons pe_int pa_nil)) pe_int)) pa_nil))))
    (C8.pss_cut (ps_if (pt_cmpR op_ne (pe_has h__law_many (hr.mono (by omega)) (by rfl) (pa_cons (pv 3) (pa_cons pe_int pa_nil))) (pe_ifExp (pt_cmpR op_gt (pv 8) pe_int (nomark _)) (pe_op op_add pe_int (pv 8)) pe_int) (nomark _)) (pss_one (ps_ret pe_bl)) pss_nil)
    (pss_cons (ps_set (i := 9) nd rfl (.inl rfl) (pe_lst (pa_cons (pe_tup (pa_cons pe_int (pa_cons pe_int (pa_cons pe_int pa_nil)))) (pa_cons (pe_tup (pa_cons pe_int (pa_cons pe_int (pa_cons pe_int pa_nil)))) (pa_cons (pe_tup (pa_cons pe_int (pa_cons pe_int (pa_cons pe_int pa_nil)))) (pa_cons (pe_tup (pa_cons pe_int (pa_cons pe_int (pa_cons pe_int pa_nil)))) (pa_cons (pe_tup (pa_cons pe_int (pa_cons pe_int (pa_cons pe_int pa_nil)))) (pa_cons (pe_tup (pa_cons pe_int (pa_cons pe_int (pa_cons pe_int pa_nil)))) pa_nil))))))))
    (pss_cons (ps_asg (pe_has h__law_pick (hr.mono (by omega)) (by rfl) (pa_cons (pv 1) (pa_cons (pe_op op_cat (pv 9) (pe_lst (pa_cons (pe_tup (pa_cons pe_int (pa_cons pe_int (pa_cons pe_int pa_nil)))) (pa_cons (pe_tup (pa_cons pe_int (pa_cons pe_int (pa_cons pe_int pa_nil)))) pa_nil)))) pa_nil))) (pg_tup (by rfl) (pgs_cons (pg_name (i := 8) nd rfl (.inl rfl)) (pgs_cons (pg_name (i := 4) nd rfl (.inl rfl)) (pgs_cons (pg_name (i := 7) nd rfl (.inl rfl)) pgs_nil)))))
    (pss_one (ps_ret (pe_cmpR (op_eqD hr.units) (pe_has h__law_many (hr.mono (by omega)) (by rfl) (pa_cons (pe_op op_rep (pe_lst (pa_cons pe_int pa_nil)) (pv 8)) (pa_cons (pv 4) pa_nil))) (pv 7) (nomark _)))))))))))))), ?_⟩
    have line : (5000000 : Nat) < sizeLine := by decide
    refine ⟨_, rfl, a, ns, rfl, hS, hl, fun H1 t c ht hc sm tp => ?_⟩
    refine ⟨4, rfl, by decide, by decide, for_range (lo := 0) (fun i σ H2 => ∃ v2 v3 v4 v5 v6, σ = [some (.ref a), some (.ref t), v2, v3, v4, v5, v6, none, none, none, none, none] ∧ Tape H2 t c (200 * i)) ⟨none, none, none, none, none, rfl, tp⟩ ?_ ?_⟩
    · rintro i σ H2 hi ⟨v2, v3, v4, v5, v6, rfl, tp2⟩
      have hi2 : i < 4 := hi
      -- lens
      refine ⟨_, rfl, t, c, 6, _, rfl, tp2, by omega, by decide, by decide +kernel, fun H3 r3 a3 b3 tp3 kp3 => ⟨_, _, rfl, rfl, ?_⟩⟩
      obtain ⟨n, en⟩ : ∃ n : Nat, 1 + r3 = (n : Int) := ⟨(1 + r3).toNat, by omega⟩
      have ev : [V.int (1 + r3)] = [V.int (n : Int)] := by rw [en]
      refine ⟨(n : Int), ev, by omega, by omega, fun D hD => lc_picks (n := n) (zs := [1, 1, 2, 0, 3]) hD tp3 (by omega) (by omega) (fun i => rfl) (fun i H' m tp' hm R g => ?_) fun H4 ls ll inz hD4 tp4 kp4 => ?_⟩
      · refine ⟨_, rfl, by show 5 ≤ sizeLine; decide, fun d nd => ⟨t, c, d, _, _, rfl, tp'.new nd, by omega, fun H'' kp => .inl (SqL.of (kp d _ upd_same (tp'.fresh nd))), by show 0 < 5; decide, by show 5 ≤ 1000000; decide, fun H5 i5 v5' g5 tp5 kp5 => ?_⟩⟩
        obtain ⟨z, rfl, hz⟩ := pick_int (zs := [1, 1, 2, 0, 3]) g5
        exact g H5 z hz tp5 ((Kp.new nd).trans kp5)
      -- the total
      have bb : ∀ x ∈ ls, 0 ≤ x ∧ x ≤ 3 := fun x hx => by
        have := inz x hx
        simp only [List.mem_cons, List.not_mem_nil, or_false] at this
        omega
      have sb := sum_by ls bb
      have n6 : n ≤ 6 := by omega
      refine ⟨_, rfl, _, rfl, D, ls, rfl, SqL.of hD4, _, _, rfl, rfl, ⟨by decide, by decide⟩, ?_⟩
      refine ⟨_, rfl, _, rfl, D, ls, rfl, SqL.of hD4, _, _, rfl, rfl, t, c, _, _, rfl, tp4, by omega, by omega, pow8000 (by omega), fun H5 r5 a5 b5 tp5 kp5 => ⟨by show 3 ≤ sizeLine; decide, fun d nd => ?_⟩⟩
      refine ⟨t, c, d, _, _, rfl, tp5.new nd, by omega, fun H' kp => .inl (SqL.of (kp d _ upd_same (tp5.fresh nd))), by show 0 < 3; decide, by show 3 ≤ 1000000; decide, fun H6 i6 v6' g6 tp6 kp6 => ?_⟩
      obtain ⟨total, rfl, mt⟩ := pick_int (zs := [ls.sum / 2, r5, 1]) g6
      have tb : 0 ≤ total ∧ total ≤ 60 := by
        simp only [List.mem_cons, List.not_mem_nil, or_false] at mt
        omega
      have hD6 := tp4.sq hD4 (kp5.trans ((Kp.new nd).trans kp6))
      have ok0 : LOk ls total := lok_small (by omega) (by omega) inz tb.1 tb.2
      refine ⟨fun σ' H' => ∃ D ls total, σ' = [some (.ref a), some (.ref t), some (.int (0 + (i : Int))), some (.ref D), some (.int total), v5, v6, none, none, none, none, none] ∧ H' D = some (.lst (ls.map V.int)) ∧ LOk ls total ∧ Tape H' t c (200 * i + 100), ?_, ?_⟩
      · refine ⟨_, rfl, t, c, 3, _, rfl, tp6, by omega, by decide, by decide +kernel, fun H7 r7 a7 b7 tp7 kp7 => ⟨rfl, _, rfl, ite2 (fun _ => ?_) (fun _ => ?_)⟩⟩
        · refine ⟨60, rfl, by decide, by decide, fun D2 hD2 => lc_picks (n := 60) (zs := [0, 0, 0, 0, 0, 0, 0, 0, 0, 12]) hD2 tp7 (by omega) (by omega) (fun i => rfl) (fun i H' m tp' hm R g => ?_) fun H8 ls8 ll8 inz8 hD8 tp8 kp8 => ?_⟩
          · refine ⟨_, rfl, by show 10 ≤ sizeLine; decide, fun d nd => ⟨t, c, d, _, _, rfl, tp'.new nd, by omega, fun H'' kp => .inl (SqL.of (kp d _ upd_same (tp'.fresh nd))), by show 0 < 10; decide, by show 10 ≤ 1000000; decide, fun H5 i5 v5' g5 tp5 kp5 => ?_⟩⟩
            obtain ⟨z, rfl, hz⟩ := pick_int (zs := [0, 0, 0, 0, 0, 0, 0, 0, 0, 12]) g5
            exact g H5 z hz tp5 ((Kp.new nd).trans kp5)
          · refine ⟨_, rfl, t, c, 3, _, rfl, tp8, by omega, by decide, by decide +kernel, fun H9 r9 a9 b9 tp9 kp9 => ⟨by show 2 ≤ sizeLine; decide, fun u nu => ⟨u, _, rfl, SqT.of upd_same, rfl, _, _, rfl, _, _, rfl, rfl, ?_⟩⟩⟩
            exact ⟨D2, ls8, r9, rfl, same_new nu _ _ (tp8.sq hD8 kp9), lok_wide ll8 inz8 a9 (by omega), (tp9.new nu).le (by omega)⟩
        · exact ⟨D, ls, total, rfl, tp6.sq hD6 kp7, ok0, tp7.le (by omega)⟩
      · rintro σ' HP ⟨D, ls, total, rfl, hD, ok, tpP⟩
        clear hD4 hD6 ok0 bb sb inz ll tb mt
        have nn : ∀ l ∈ ls, 0 ≤ l := fun l hl => (ok.L.b l hl).1
        have t60 := ok.t1
        refine ⟨_, rfl, D, _, rfl, .inl (SqL.of hD), fun KK nK => ?_⟩
        have hK : (upd HP KK (.lst (ls.map V.int))) KK = some (.lst (ls.map V.int)) := upd_same
        have hDK := same_new (o := .lst (ls.map V.int)) nK _ _ hD
        have tpK := tpP.new (o := .lst (ls.map V.int)) nK
        generalize upd HP KK (.lst (ls.map V.int)) = HK at hK hDK tpK
        refine ⟨_, rfl, _, rfl, D, ls, total, rfl, SqL.of hDK, ok.L, ok.t0, by omega, .inl ⟨ok.few, ok.fine, fun H2 q ys s2 nq hq tq => ?_⟩⟩
        refine ⟨_, rfl, ?_⟩
        show RRepr K [V.ref q] H2 _
        refine tp_reprL hq tq ok.showy ⟨_, rfl, _, rfl, KK, ls, total, rfl, SqL.of (s2 _ _ hK), ok.L, ok.t0, by omega, ok.fine, fun H3 q2 ys2 s3 hq2 tq2 => ?_⟩
        show RRepr K [V.ref q2] H3 _
        refine tp_reprL hq2 tq2 ok.showy ⟨rfl, _, rfl, iteNS (by simp) ?_⟩
        have s23 := s2.trans s3
        refine ⟨_, rfl, _, rfl, lstD ls, lstD ls, dp_lst (s23 _ _ hDK), dp_lst (s23 _ _ hK), shape_lst _, shape_lst _, _, rfl, ?_⟩
        rw [SeqAt.eqv_refl _ (lay_lst ls)]
        have lq := tq.len
        rw [List.length_map] at lq
        have ld := due_len ok.t0 nn
        have few := ok.few
        refine iteF ⟨_, rfl, .inl ⟨rfl, _, SqL.of (s3 _ _ hq)⟩, _, rfl, by show 1 ≤ sizeLine; decide, fun p np => ⟨q, ys, .ref p, rfl, rfl, same_new np _ _ (s3 _ _ hq), by omega, ?_⟩⟩
        have s4 : Same HK (upd (upd H3 p (.tup [.int total])) q (.lst (ys ++ [.ref p]))) := same_mut (s23.trans (same_new np)) nq
        generalize upd (upd H3 p (.tup [.int total])) q (.lst (ys ++ [.ref p])) = H4 at s4
        refine ⟨_, rfl, _, rfl, D, ls, total, rfl, SqL.of (s4 _ _ hDK), ok.L, ok.t0, by omega, .inl ⟨ok.few, ok.fine, fun H5 q5 ys5 s5 nq5 hq5 tq5 => ?_⟩⟩
        show RRepr K [V.ref q5] H5 _
        refine tp_reprL hq5 tq5 ok.showy ⟨_, rfl, _, rfl, KK, ls, total, rfl, SqL.of ((s4.trans s5) _ _ hK), ok.L, ok.t0, by omega, ok.fine, fun H6 q6 ys6 s6 hq6 tq6 => ?_⟩
        show RRepr K [V.ref q6] H6 _
        refine tp_reprL hq6 tq6 ok.showy ⟨rfl, _, rfl, iteNS (by simp) ?_⟩
        exact ⟨_, _, _, _, _, rfl, (tpK.same ((s4.trans s5).trans s6)).le (by omega)⟩
    · rintro σ H2 ⟨v2, v3, v4, v5, v6, rfl, tp2⟩
      have tp2 : Tape H2 t c 800 := tp2
      -- sixteen rows
      refine ⟨_, rfl, by show 1 ≤ sizeLine; decide, fun d nd => ⟨d, 14, _, rfl, rfl, upd_same, by decide, by decide, by show 1 * 14 ≤ sizeLine; omega, fun p np => ⟨2, rfl, by decide, by decide, fun D hD => ?_⟩⟩⟩
      have hp := upd_same (H := upd H2 d (.lst [.int 1])) (a := p) (o := .lst (List.replicate (14 : Int).toNat [V.int 1]).flatten)
      have tp3 := (tp2.new (o := .lst [.int 1]) nd).new (o := .lst (List.replicate (14 : Int).toNat [V.int 1]).flatten) np
      generalize upd (upd H2 d (.lst [.int 1])) p (.lst (List.replicate (14 : Int).toNat [V.int 1]).flatten) = H3 at hp tp3 hD ⊢
      refine lc_picks (n := 2) (zs := [1, 2]) hD tp3 (by omega) (by omega) (fun i => rfl) (fun i H' m tp' hm R g => ?_) fun H4 ls ll inz hD4 tp4 kp4 => ?_
      · refine ⟨_, rfl, by show 2 ≤ sizeLine; decide, fun d nd => ⟨t, c, d, _, _, rfl, tp'.new nd, by omega, fun H'' kp => .inl (SqL.of (kp d _ upd_same (tp'.fresh nd))), by show 0 < 2; decide, by show 2 ≤ 1000000; decide, fun H5 i5 v5' g5 tp5 kp5 => ?_⟩⟩
        obtain ⟨z, rfl, hz⟩ := pick_int (zs := [1, 2]) g5
        exact g H5 z hz tp5 ((Kp.new nd).trans kp5)
      have hp4 := tp3.sq hp kp4
      rw [show (14 : Int).toNat = 14 from rfl, rep_flat] at hp4
      refine ⟨p, D, _, _, rfl, rfl, hp4, hD4, by rw [List.length_map, List.length_map, List.length_replicate, ll]; omega, fun M nM => ?_⟩
      rw [← List.map_append]
      refine ⟨t, c, M, List.replicate 14 1 ++ ls, _, rfl, tp4.new nM, by omega, upd_same, by rw [List.length_append, List.length_replicate, ll]; decide, fun H5 q X nq hq pm tp5 kp5 => ?_⟩
      have six := six_of pm ll inz
      have l16 := six.n
      have lpm : (List.replicate 14 1 ++ ls).length = 16 := by rw [List.length_append, List.length_replicate, ll]
      rw [lpm] at tp5
      clear hp4 hD4 tp4 kp4 tp3 hp nM hD pm inz lpm
      -- what is left of each
      refine ⟨_, rfl, q, X, 2, rfl, SqL.of hq, six.lens, by decide, by decide, fine_pow (n := 16) (k := 2) (by decide) (by decide) (by omega) (by decide), fun H6 q2 ys2 s6 hq2 tq2 => ⟨q2, rfl, ⟨_, SqL.of hq2⟩, fun E nE => lc_list (xs := ys2) (fun i H' => TpT H6 H' E ((((due X 2).take i).map (cmpl X)).map tI)) (TpT.new nE) (fun i H' _ z => SqL.of (z.s _ _ hq2)) (fun i x H' hx z => ?_) (fun H7 z => ?_)⟩⟩
      · have ld := tq2.len
        rw [List.length_map] at ld
        have hi : i < (due X 2).length := by
          rw [← ld]
          exact (List.getElem?_eq_some_iff.mp hx).1
        have hc0 : (due X 2)[i]? = some (due X 2)[i] := List.getElem?_eq_getElem hi
        obtain ⟨c1, g1, hc1⟩ := row_of tq2 hc0
        rw [hx] at g1
        obtain rfl := Option.some.inj g1
        have lc : ((due X 2)[i]).length = 16 := by rw [(due_sum X 2 _ (List.getElem_mem hi)).2, l16]
        generalize (due X 2)[i] = cc at hc0 hc1 lc
        refine ⟨rfl, yes_go ⟨16, rfl, by decide, by decide, fun L hL => lc_sel_range (lo := 0) (fun _ => true) (fun (j : Nat) => .int (X.getD j 0 - cc.getD j 0)) hL (by decide) (fun j hj => ⟨rfl, fun H' s' R g => g H' (Same.refl _), fun _ H8 s8 R g => ?_⟩) fun H9 s9 h9 => ?_⟩⟩
        · have hj : j < 16 := hj
          refine ⟨_, rfl, _, rfl, q, _, _, _, rfl, rfl, SqL.of (s8 _ _ (z.s _ _ (s6 _ _ hq))), at_of (j := j) (by omega) (by rw [List.getElem?_map, List.getElem?_eq_getElem (by omega)]; rfl), _, rfl, _, rfl, c1, _, _, _, rfl, rfl, SqT.of (s8 _ _ (z.s _ _ hc1)), at_of (j := j) (by omega) (by rw [List.getElem?_map, List.getElem?_eq_getElem (by omega)]; rfl), _, _, rfl, rfl, ?_⟩
          have e1 : X.getD j 0 = X[j]'(by omega) := by rw [List.getD_eq_getElem?_getD, List.getElem?_eq_getElem (by omega)]; rfl
          have e2 : cc.getD j 0 = cc[j]'(by omega) := by rw [List.getD_eq_getElem?_getD, List.getElem?_eq_getElem (by omega)]; rfl
          rw [e1, e2] at g
          exact g H8 (Same.refl _)
        · rw [filter_all, show (16 : Int).toNat = 16 from rfl, show ((List.range 16).map fun (j : Nat) => V.int (X.getD j 0 - cc.getD j 0)) = (cmpl X cc).map V.int by rw [← cmpl_get l16 lc, List.map_map]; rfl] at h9
          refine ⟨L, _, rfl, .inl ⟨SqL.of h9, fun r nr => ?_⟩⟩
          rw [List.take_add_one, hc0, List.map_append, List.map_append]
          have w2 := six.two
          have dl := due_len (ls := X) (t := 2) (by decide) six.pos
          exact z.put nE (s9.trans (same_new nr)) (by rw [List.length_map, List.length_map]; have := List.length_take_le i (due X 2); omega) (tp_ints upd_same)
      have ld := tq2.len
      rw [List.length_map] at ld
      rw [ld, List.take_length] at z
      obtain ⟨zs, hz, tz⟩ := z.ex
      have s7 := s6.trans z.s
      have sm6 := six.sum
      -- the same from the other end
      refine ⟨_, rfl, q, _, rfl, .inl (SqL.of (s7 _ _ hq)), fun C nC => ⟨_, rfl, q, X, rfl, SqL.of (same_new nC _ _ (s7 _ _ hq)), _, _, rfl, rfl, C, X, X.sum - 2, rfl, SqL.of upd_same, six.lens, by omega, by omega, .inl ⟨six.few, fine_pr six.pos six.p, fun H8 q3 ys3 s8 nq3 hq3 tq3 => ?_⟩⟩⟩
      have hz8 := s8 _ _ (same_new (o := .lst (X.map V.int)) nC _ _ hz)
      refine ⟨_, rfl, E, zs, rfl, SqL.of hz8, fun Rv nRv => ?_⟩
      have tz9 := ((tz.kt (KT.new (o := .lst (X.map V.int)) nC)).kt (KT.same s8)).kt (KT.new (o := .lst zs.reverse) nRv)
      have tq9 := tq3.kt (KT.new (o := .lst zs.reverse) nRv)
      rw [six.turn] at tq9
      have tz9 := tz9.rev
      rw [← List.map_reverse] at tz9
      refine ⟨lsD ((due X 2).map (cmpl X)).reverse, lsD ((due X 2).map (cmpl X)).reverse, .lst (SqL.of (same_new nRv _ _ hq3)) tq9.dp, .lst (SqL.of upd_same) tz9.dp, shape_lsD _, shape_lsD _, _, rfl, ?_⟩
      rw [eqv_lsD]
      refine iteF ?_
      have tpA := (((tp5.same s7).new (o := .lst (X.map V.int)) nC).same s8).new (o := .lst zs.reverse) nRv
      generalize upd H8 Rv (.lst zs.reverse) = HA at tpA ⊢
      clear tz9 tq9 hz8 hz tz z s7 s6 hq2 tq2 nE hq nq six l16 sm6 ld hq3 tq3 nq3 s8 nC nRv
      -- more rows
      refine ⟨_, rfl, _, rfl, t, c, 14, _, rfl, tpA, by omega, by decide, by decide +kernel, fun HB rB aB bB tpB kpB => ⟨_, _, rfl, rfl, by show 4 ≤ sizeLine; decide, fun d1 nd1 => ?_⟩⟩
      refine ⟨t, c, d1, _, _, rfl, tpB.new nd1, by omega, fun H' kp => .inl (SqL.of (kp d1 _ upd_same (tpB.fresh nd1))), by show 0 < 4; decide, by show 4 ≤ 1000000; decide, fun HC iC vC gC tpC kpC => ?_⟩
      obtain ⟨zm, rfl, mz⟩ := pick_int (zs := [3, 4, 5, 3 + rB]) gC
      have zb : 3 ≤ zm ∧ zm ≤ 16 := by
        simp only [List.mem_cons, List.not_mem_nil, or_false] at mz
        omega
      obtain ⟨m, rfl⟩ : ∃ m : Nat, zm = (m : Int) := ⟨zm.toNat, by omega⟩
      refine ⟨_, rfl, by show 1 ≤ sizeLine; decide, fun d2 nd2 => ⟨_, rfl, d2, m, _, rfl, rfl, upd_same, by omega, by omega, by show 1 * ((m : Int)).toNat ≤ sizeLine; omega, fun p1 m1 => ?_⟩⟩
      have hp1 := upd_same (H := upd HC d2 (.lst [.int 3])) (a := p1) (o := .lst (List.replicate ((m : Int)).toNat [V.int 3]).flatten)
      have tpD := (tpC.new (o := .lst [.int 3]) nd2).new (o := .lst (List.replicate ((m : Int)).toNat [V.int 3]).flatten) m1
      generalize upd (upd HC d2 (.lst [.int 3])) p1 (.lst (List.replicate ((m : Int)).toNat [V.int 3]).flatten) = HD at hp1 tpD ⊢
      refine ⟨by show 1 ≤ sizeLine; decide, fun d3 nd3 => ⟨_, rfl, _, _, rfl, rfl, d3, 16 - (m : Int), _, rfl, rfl, upd_same, by omega, by omega, by show 1 * (16 - (m : Int)).toNat ≤ sizeLine; omega, fun p2 m2 => ?_⟩⟩
      have hp2 := upd_same (H := upd HD d3 (.lst [.int 2])) (a := p2) (o := .lst (List.replicate (16 - (m : Int)).toNat [V.int 2]).flatten)
      have hp1' := same_new (o := .lst (List.replicate (16 - (m : Int)).toNat [V.int 2]).flatten) m2 _ _ (same_new (o := .lst [.int 2]) nd3 _ _ hp1)
      have tpE := (tpD.new (o := .lst [.int 2]) nd3).new (o := .lst (List.replicate (16 - (m : Int)).toNat [V.int 2]).flatten) m2
      generalize upd (upd HD d3 (.lst [.int 2])) p2 (.lst (List.replicate (16 - (m : Int)).toNat [V.int 2]).flatten) = HE at hp2 hp1' tpE ⊢
      rw [rep_flat] at hp1' hp2
      refine ⟨p1, p2, _, _, rfl, rfl, hp1', hp2, by rw [List.length_map, List.length_map, List.length_replicate, List.length_replicate]; omega, fun p3 m3 => ?_⟩
      rw [← List.map_append]
      have hp3 := upd_same (H := HE) (a := p3) (o := .lst ((List.replicate ((m : Int)).toNat (3 : Int) ++ List.replicate (16 - (m : Int)).toNat (2 : Int)).map V.int))
      have tpF := tpE.new (o := .lst ((List.replicate ((m : Int)).toNat (3 : Int) ++ List.replicate (16 - (m : Int)).toNat (2 : Int)).map V.int)) m3
      generalize upd HE p3 (.lst ((List.replicate ((m : Int)).toNat (3 : Int) ++ List.replicate (16 - (m : Int)).toNat (2 : Int)).map V.int)) = HF at hp3 tpF ⊢
      refine ⟨by show 1 ≤ sizeLine; decide, fun d4 nd4 => ⟨d4, 10, _, rfl, rfl, upd_same, by decide, by decide, by show 1 * 10 ≤ sizeLine; omega, fun p4 m4 => ?_⟩⟩
      have hp4 := upd_same (H := upd HF d4 (.lst [.int 1])) (a := p4) (o := .lst (List.replicate (10 : Int).toNat [V.int 1]).flatten)
      have hp3' := same_new (o := .lst (List.replicate (10 : Int).toNat [V.int 1]).flatten) m4 _ _ (same_new (o := .lst [.int 1]) nd4 _ _ hp3)
      have tpG := (tpF.new (o := .lst [.int 1]) nd4).new (o := .lst (List.replicate (10 : Int).toNat [V.int 1]).flatten) m4
      generalize upd (upd HF d4 (.lst [.int 1])) p4 (.lst (List.replicate (10 : Int).toNat [V.int 1]).flatten) = HG at hp4 hp3' tpG ⊢
      rw [show (10 : Int).toNat = 10 from rfl, rep_flat] at hp4
      refine ⟨p3, p4, _, _, rfl, rfl, hp3', hp4, by rw [List.length_map, List.length_map, List.length_append, List.length_replicate, List.length_replicate, List.length_replicate]; omega, fun M nM => ?_⟩
      rw [← List.map_append]
      have emix : List.replicate ((m : Int)).toNat (3 : Int) ++ List.replicate (16 - (m : Int)).toNat (2 : Int) ++ List.replicate 10 1 = mix m := by
        unfold mix
        rw [show ((m : Int)).toNat = m by omega, show (16 - (m : Int)).toNat = 16 - m by omega]
      rw [emix]
      have lmx := mix_len (m := m) (by omega)
      refine ⟨t, c, M, mix m, _, rfl, tpG.new nM, by omega, upd_same, by omega, fun HH q Y nq hq pm tpH kpH => ?_⟩
      have w3 : wAll Y 3 = 3000 + (m : Int) := by
        rw [wAll_perm pm]
        exact mix_w (by omega) (by omega)
      have LY : Lens Y := ⟨fun l hl => mix_b l (pm.mem_iff.mp hl), by rw [pm.length_eq, lmx]; decide⟩
      have e3 : manyOf (3000 + (m : Int)) = if 3 < (m : Int) then 3000 + (m : Int) else 0 := by
        unfold manyOf
        by_cases c : 3 < (m : Int)
        · rw [if_pos c, if_pos (by omega)]
        · rw [if_neg c, if_neg (by omega), if_pos (by omega)]
      refine ⟨fun σ' H' => ∃ w2 w3 w4 w5 w6 w7 w8, σ' = [some (.ref a), some (.ref t), w2, w3, w4, w5, w6, w7, w8, none, none, none] ∧ Tape H' t c 1000, ?_, ?_⟩
      · refine ⟨_, rfl, q, Y, 3, rfl, hq, LY, by decide, by decide, by rw [w3]; omega, fun _ => fine_pow (n := 26) (k := 3) (by decide) (by decide) (by rw [pm.length_eq, lmx]; exact Nat.le_refl _) (by decide), fun HI sI => ?_⟩
        rw [w3, e3]
        have tpI := (tpH.same sI).le (m := 1000) (by rw [lmx]; omega)
        refine ⟨_, rfl, _, _, rfl, rfl, _, rfl, ite2 (fun c => ?_) (fun c => ?_)⟩
        · rw [if_pos (of_decide_eq_true c)]
          exact ⟨_, rfl, _, _, rfl, rfl, rfl, _, rfl, iteNS rfl ⟨_, _, _, _, _, _, _, rfl, tpI⟩⟩
        · rw [if_neg (fun z => c (decide_eq_true z))]
          exact ⟨rfl, _, rfl, iteNS rfl ⟨_, _, _, _, _, _, _, rfl, tpI⟩⟩
      rintro σ' HJ ⟨w2, w3', w4, w5, w6, w7, w8, rfl, tpJ⟩
      clear e3 w3 LY pm hq nq emix hp4 hp3' hp3 hp2 hp1' tpH kpH tpG tpF tpE tpD tpC tpB tpA hp1
      -- ones, and how many they have
      refine ⟨by show 3 ≤ sizeLine; decide, fun a1 n1 => ⟨by show 3 ≤ sizeLine; decide, fun a2 n2 => ⟨by show 3 ≤ sizeLine; decide, fun a3 n3 => ⟨by show 3 ≤ sizeLine; decide, fun a4 n4 => ⟨by show 3 ≤ sizeLine; decide, fun a5 n5 => ⟨by show 3 ≤ sizeLine; decide, fun a6 n6 => ?_⟩⟩⟩⟩⟩⟩
      have t1 := put_row (TpAll.nil (H := HJ)) n1 [14, 6, 0]
      have t2 := put_row t1 n2 [14, 7, 3432]
      have t3 := put_row t2 n3 [15, 5, 0]
      have t4 := put_row t3 n4 [15, 6, 5005]
      have t5 := put_row t4 n5 [60, 30, 118264581564861424]
      have t6 := put_row t5 n6 [16, 5, 4368]
      have tp6 := (((((tpJ.new (o := .tup [.int 14, .int 6, .int 0]) n1).new (o := .tup [.int 14, .int 7, .int 3432]) n2).new (o := .tup [.int 15, .int 5, .int 0]) n3).new (o := .tup [.int 15, .int 6, .int 5005]) n4).new (o := .tup [.int 60, .int 30, .int 118264581564861424]) n5).new (o := .tup [.int 16, .int 5, .int 4368]) n6
      refine ⟨by show 6 ≤ sizeLine; decide, fun l1 nl1 => ?_⟩
      have t7 := t6.kt (KT.new (o := .lst [.ref a1, .ref a2, .ref a3, .ref a4, .ref a5, .ref a6]) nl1)
      have tp7 := tp6.new (o := .lst [.ref a1, .ref a2, .ref a3, .ref a4, .ref a5, .ref a6]) nl1
      have hl1 := upd_same (H := (upd (upd (upd (upd (upd (upd HJ a1 (.tup [.int 14, .int 6, .int 0])) a2 (.tup [.int 14, .int 7, .int 3432])) a3 (.tup [.int 15, .int 5, .int 0])) a4 (.tup [.int 15, .int 6, .int 5005])) a5 (.tup [.int 60, .int 30, .int 118264581564861424])) a6 (.tup [.int 16, .int 5, .int 4368]))) (a := l1) (o := .lst [.ref a1, .ref a2, .ref a3, .ref a4, .ref a5, .ref a6])
      generalize upd (upd (upd (upd (upd (upd (upd HJ a1 (.tup [.int 14, .int 6, .int 0])) a2 (.tup [.int 14, .int 7, .int 3432])) a3 (.tup [.int 15, .int 5, .int 0])) a4 (.tup [.int 15, .int 6, .int 5005])) a5 (.tup [.int 60, .int 30, .int 118264581564861424])) a6 (.tup [.int 16, .int 5, .int 4368])) l1 (.lst [.ref a1, .ref a2, .ref a3, .ref a4, .ref a5, .ref a6]) = HL at hl1 tp7 t7 ⊢
      clear t1 t2 t3 t4 t5 t6 tp6 n1 n2 n3 n4 n5 n6 nl1
      refine ⟨_, rfl, _, rfl, by show 3 ≤ sizeLine; decide, fun b1 k1 => ⟨by show 3 ≤ sizeLine; decide, fun b2 k2 => ⟨by show 2 ≤ sizeLine; decide, fun l2 nl2 => ?_⟩⟩⟩
      have t8 := put_row t7 k1 [18, 4, 3060]
      have t9 := put_row t8 k2 [28, 3, 3276]
      have tp9 := ((tp7.new (o := .tup [.int 18, .int 4, .int 3060]) k1).new (o := .tup [.int 28, .int 3, .int 3276]) k2).new (o := .lst [.ref b1, .ref b2]) nl2
      have tA := t9.kt (KT.new (o := .lst [.ref b1, .ref b2]) nl2)
      have hl2 := upd_same (H := upd (upd HL b1 (.tup [.int 18, .int 4, .int 3060])) b2 (.tup [.int 28, .int 3, .int 3276])) (a := l2) (o := .lst [.ref b1, .ref b2])
      have hl1' := same_new (o := .lst [.ref b1, .ref b2]) nl2 _ _ (same_new (o := .tup [.int 28, .int 3, .int 3276]) k2 _ _ (same_new (o := .tup [.int 18, .int 4, .int 3060]) k1 _ _ hl1))
      generalize upd (upd (upd HL b1 (.tup [.int 18, .int 4, .int 3060])) b2 (.tup [.int 28, .int 3, .int 3276])) l2 (.lst [.ref b1, .ref b2]) = HN at hl1' hl2 tp9 tA ⊢
      refine ⟨l1, l2, _, _, rfl, rfl, hl1', hl2, by show 6 + 2 ≤ sizeLine; omega, fun W nW => ?_⟩
      have tB := tA.kt (KT.new (o := .lst ([.ref a1, .ref a2, .ref a3, .ref a4, .ref a5, .ref a6] ++ [.ref b1, .ref b2])) nW)
      have tpB := tp9.new (o := .lst ([.ref a1, .ref a2, .ref a3, .ref a4, .ref a5, .ref a6] ++ [.ref b1, .ref b2])) nW
      have hW := upd_same (H := HN) (a := W) (o := .lst ([.ref a1, .ref a2, .ref a3, .ref a4, .ref a5, .ref a6] ++ [.ref b1, .ref b2]))
      generalize upd HN W (.lst ([.ref a1, .ref a2, .ref a3, .ref a4, .ref a5, .ref a6] ++ [.ref b1, .ref b2])) = HO1 at hW tpB tB ⊢
      refine ⟨t, c, W, _, _, rfl, tpB, by omega, fun H' kp => .inl (SqL.of (tpB.sq hW kp)), by show 0 < 8; decide, by show 8 ≤ 1000000; decide, fun HP j v gv tpP kpP => ?_⟩
      have j8 : j < cases8.length := (List.getElem?_eq_some_iff.mp gv).1
      obtain ⟨p, gp, hp⟩ := row_of (rows := cases8) (tB.kt (KT.kp tpB kpP)) (List.getElem?_eq_getElem j8)
      have ev := gv.symm.trans gp
      obtain rfl := Option.some.inj ev
      obtain ⟨n, TT, dd, ec, O⟩ := cases_ok _ (List.getElem_mem j8)
      rw [ec] at hp
      refine ⟨p, _, rfl, SqT.of hp, rfl, _, _, rfl, _, _, rfl, _, _, rfl, rfl, ?_⟩
      have n0 := O.n0
      have n1 := O.n1
      refine ⟨by show 1 ≤ sizeLine; decide, fun d5 nd5 => ⟨_, rfl, d5, n, _, rfl, rfl, upd_same, by omega, by omega, by show 1 * n.toNat ≤ sizeLine; omega, fun p5 m5 => ?_⟩⟩
      have hp5 := upd_same (H := upd HP d5 (.lst [.int 1])) (a := p5) (o := .lst (List.replicate n.toNat [V.int 1]).flatten)
      generalize upd (upd HP d5 (.lst [.int 1])) p5 (.lst (List.replicate n.toNat [V.int 1]).flatten) = HQ at hp5 ⊢
      rw [rep_flat] at hp5
      have t1 := O.t1
      refine ⟨_, rfl, p5, List.replicate n.toNat 1, TT, rfl, hp5, ⟨fun l hl => by rw [List.eq_of_mem_replicate hl]; decide, by rw [List.length_replicate]; omega⟩, O.t0, by omega, O.lt, O.fine, fun HR sR => ?_⟩
      rw [O.w]
      refine ⟨_, rfl, .int dd, .int dd, .int dd, .int dd, rfl, rfl, ?_⟩
      rw [SeqAt.eqv_refl _ (by rfl)]
      exact k HR
theorem at_law {f : Addr} {fd : FuncData} (F : Fun K "law" "law" s_law f fd) (T : Top K mg cs) : RunAt P w K mg base f fd ["_law_script"] (spLaw K) :=
  have d := has_draw T
  have p := has_pick T d
  have ch := has_choices T (hc_TooMany T) (has_how T (has_ways T (has_one T)))
  (ok_law F T (has_begun T) d p ch (has_lchs T) (has_shuf T d) (has_many T ch)).at_ ⟨rfl, by decide, by decide⟩
end

theorem all_mk {l : PySem.W.OpenLaw} {w : World} {K : PySem.W.Frag} {h : Heap} {mg : Str → Option Value} {fa : Addr} (X : K.In h) (G : h.Ns mainGlobals mg) (hfa : mg "law" = some (.ref fa))
    {f0 : Addr} {od0 an0 : Option Addr} {sl0 : Array (Option Value)} {oc0 kV0 dc0 pm0 cd0 ct0 : Value}
    (a0 : PySem.W.nsIn K mainGlobals "ways" = some (some (.ref f0))) (l0 : K.lookup f0 = some ⟨oc0, od0, .func (PySem.W.fnOf "ways" "ways" (defArgs s_ways) (defBody s_ways) (defScope s_ways) .none kV0 dc0 pm0 an0 cd0 ct0), sl0⟩) (cc0 : PySem.W.codeIn K cd0 "ways" = true) (k0 : PySem.W.keepIn K (.ref f0) = true)
    {f1 : Addr} {od1 an1 : Option Addr} {sl1 : Array (Option Value)} {oc1 kV1 dc1 pm1 cd1 ct1 : Value}
    (a1 : PySem.W.nsIn K mainGlobals "how_many" = some (some (.ref f1))) (l1 : K.lookup f1 = some ⟨oc1, od1, .func (PySem.W.fnOf "how_many" "how_many" (defArgs s_how_many) (defBody s_how_many) (defScope s_how_many) .none kV1 dc1 pm1 an1 cd1 ct1), sl1⟩) (cc1 : PySem.W.codeIn K cd1 "how_many" = true) (k1 : PySem.W.keepIn K (.ref f1) = true)
    {f2 : Addr} {od2 an2 : Option Addr} {sl2 : Array (Option Value)} {oc2 kV2 dc2 pm2 cd2 ct2 : Value}
    (a2 : PySem.W.nsIn K mainGlobals "choices" = some (some (.ref f2))) (l2 : K.lookup f2 = some ⟨oc2, od2, .func (PySem.W.fnOf "choices" "choices" (defArgs s_choices) (defBody s_choices) (defScope s_choices) .none kV2 dc2 pm2 an2 cd2 ct2), sl2⟩) (cc2 : PySem.W.codeIn K cd2 "choices" = true) (k2 : PySem.W.keepIn K (.ref f2) = true)
    {f3 : Addr} {od3 an3 : Option Addr} {sl3 : Array (Option Value)} {oc3 kV3 dc3 pm3 cd3 ct3 : Value}
    (a3 : PySem.W.nsIn K mainGlobals "_with_one_more" = some (some (.ref f3))) (l3 : K.lookup f3 = some ⟨oc3, od3, .func (PySem.W.fnOf "_with_one_more" "_with_one_more" (defArgs s__with_one_more) (defBody s__with_one_more) (defScope s__with_one_more) .none kV3 dc3 pm3 an3 cd3 ct3), sl3⟩) (cc3 : PySem.W.codeIn K cd3 "_with_one_more" = true) (k3 : PySem.W.keepIn K (.ref f3) = true)
    {f4 : Addr} {od4 an4 : Option Addr} {sl4 : Array (Option Value)} {oc4 kV4 dc4 pm4 cd4 ct4 : Value}
    (a4 : PySem.W.nsIn K mainGlobals "_law_begun" = some (some (.ref f4))) (l4 : K.lookup f4 = some ⟨oc4, od4, .func (PySem.W.fnOf "_law_begun" "_law_begun" (defArgs s__law_begun) (defBody s__law_begun) (defScope s__law_begun) .none kV4 dc4 pm4 an4 cd4 ct4), sl4⟩) (cc4 : PySem.W.codeIn K cd4 "_law_begun" = true) (k4 : PySem.W.keepIn K (.ref f4) = true)
    {f5 : Addr} {od5 an5 : Option Addr} {sl5 : Array (Option Value)} {oc5 kV5 dc5 pm5 cd5 ct5 : Value}
    (a5 : PySem.W.nsIn K mainGlobals "_law_draw" = some (some (.ref f5))) (l5 : K.lookup f5 = some ⟨oc5, od5, .func (PySem.W.fnOf "_law_draw" "_law_draw" (defArgs s__law_draw) (defBody s__law_draw) (defScope s__law_draw) .none kV5 dc5 pm5 an5 cd5 ct5), sl5⟩) (cc5 : PySem.W.codeIn K cd5 "_law_draw" = true) (k5 : PySem.W.keepIn K (.ref f5) = true)
    {f6 : Addr} {od6 an6 : Option Addr} {sl6 : Array (Option Value)} {oc6 kV6 dc6 pm6 cd6 ct6 : Value}
    (a6 : PySem.W.nsIn K mainGlobals "_law_pick" = some (some (.ref f6))) (l6 : K.lookup f6 = some ⟨oc6, od6, .func (PySem.W.fnOf "_law_pick" "_law_pick" (defArgs s__law_pick) (defBody s__law_pick) (defScope s__law_pick) .none kV6 dc6 pm6 an6 cd6 ct6), sl6⟩) (cc6 : PySem.W.codeIn K cd6 "_law_pick" = true) (k6 : PySem.W.keepIn K (.ref f6) = true)
    {f7 : Addr} {od7 an7 : Option Addr} {sl7 : Array (Option Value)} {oc7 kV7 dc7 pm7 cd7 ct7 : Value}
    (a7 : PySem.W.nsIn K mainGlobals "_law_due" = some (some (.ref f7))) (l7 : K.lookup f7 = some ⟨oc7, od7, .func (PySem.W.fnOf "_law_due" "_law_due" (defArgs s__law_due) (defBody s__law_due) (defScope s__law_due) .none kV7 dc7 pm7 an7 cd7 ct7), sl7⟩) (cc7 : PySem.W.codeIn K cd7 "_law_due" = true) (k7 : PySem.W.keepIn K (.ref f7) = true)
    {f8 : Addr} {od8 an8 : Option Addr} {sl8 : Array (Option Value)} {oc8 kV8 dc8 pm8 cd8 ct8 : Value}
    (a8 : PySem.W.nsIn K mainGlobals "_law_shuffled" = some (some (.ref f8))) (l8 : K.lookup f8 = some ⟨oc8, od8, .func (PySem.W.fnOf "_law_shuffled" "_law_shuffled" (defArgs s__law_shuffled) (defBody s__law_shuffled) (defScope s__law_shuffled) .none kV8 dc8 pm8 an8 cd8 ct8), sl8⟩) (cc8 : PySem.W.codeIn K cd8 "_law_shuffled" = true) (k8 : PySem.W.keepIn K (.ref f8) = true)
    {f9 : Addr} {od9 an9 : Option Addr} {sl9 : Array (Option Value)} {oc9 kV9 dc9 pm9 cd9 ct9 : Value}
    (a9 : PySem.W.nsIn K mainGlobals "_law_many" = some (some (.ref f9))) (l9 : K.lookup f9 = some ⟨oc9, od9, .func (PySem.W.fnOf "_law_many" "_law_many" (defArgs s__law_many) (defBody s__law_many) (defScope s__law_many) .none kV9 dc9 pm9 an9 cd9 ct9), sl9⟩) (cc9 : PySem.W.codeIn K cd9 "_law_many" = true) (k9 : PySem.W.keepIn K (.ref f9) = true)
    {f10 : Addr} {od10 an10 : Option Addr} {sl10 : Array (Option Value)} {oc10 kV10 dc10 pm10 cd10 ct10 : Value}
    (a10 : PySem.W.nsIn K mainGlobals "law" = some (some (.ref f10))) (l10 : K.lookup f10 = some ⟨oc10, od10, .func (PySem.W.fnOf "law" "law" (defArgs s_law) (defBody s_law) (defScope s_law) .none kV10 dc10 pm10 an10 cd10 ct10), sl10⟩) (cc10 : PySem.W.codeIn K cd10 "law" = true) (k10 : PySem.W.keepIn K (.ref f10) = true)
    {C0 G0 : Addr} {nm0 q0 : Str} {N0 : Addr} {bs0 : List Value} {sn0 : List Str} {sub0 : List Value} {ab0 : Bool} {col0 : Option Bool} {dd0 : Option Addr} {ka0 kb0 kc0 kd0 ke0 : Option Value}
    {mod0 man0 : Option Addr} {msl0 : Array (Option Value)} {moc0 mkV0 mdc0 mpm0 mcd0 mct0 : Value}
    (m0 : PySem.W.nsIn K mainGlobals "TooMany" = some (some (.ref C0))) (o0 : K.lookup C0 = some (excClassObj nm0 q0 C0 N0 bs0 bmI true sn0 sub0 ab0 col0 dd0 ka0 kb0 kc0 kd0 ke0 "IndexError.__new__"))
    (i0 : PySem.W.findIn K (.ref C0) "__init__" = some (some (.ref G0))) (t0 : PySem.W.typeIn K (.ref G0) = some (.type "function"))
    (ml0 : K.lookup G0 = some ⟨moc0, mod0, .func (PySem.W.fnOf "__init__" "TooMany.__init__" (defArgs s_TooMany___init__) (defBody s_TooMany___init__) (defScope s_TooMany___init__) .none mkV0 mdc0 mpm0 man0 mcd0 mct0), msl0⟩) (mc0 : PySem.W.codeIn K mcd0 "TooMany.__init__" = true) (mk0 : PySem.W.keepIn K (.ref G0) = true)
    (sa0 : PySem.W.findIn K (.ref C0) "__setattr__" = some (some (.builtin "object.__setattr__")))
    (sb0 : PySem.W.subIn K (.ref C0) (.type "BaseException") = some true)
    (sc0 : PySem.W.typeIn K (.ref C0) = some (.type "type"))
    (sd0 : PySem.W.keepIn K (.ref C0) = true)
    (se0 : PySem.W.findIn K (.ref C0) "__getattribute__" = some (some (.builtin "BaseException.__getattribute__")))
    (sf0 : PySem.W.findIn K (.ref C0) "__getattr__" = some none)
    (sg0 : PySem.W.hasDictIn K C0 = true)
    (sh0 : PySem.W.findIn K (.ref C0) "__class__" = some (some (.builtin "object.__class__")))
    (si0 : PySem.W.mroIn K C0 (.type "object") = some true)
    (fn0_0 : PySem.W.findIn K (.ref C0) "many" = some none)
    {C1 G1 : Addr} {nm1 q1 : Str} {N1 : Addr} {bs1 : List Value} {sn1 : List Str} {sub1 : List Value} {ab1 : Bool} {col1 : Option Bool} {dd1 : Option Addr} {ka1 kb1 kc1 kd1 ke1 : Option Value}
    {mod1 man1 : Option Addr} {msl1 : Array (Option Value)} {moc1 mkV1 mdc1 mpm1 mcd1 mct1 : Value}
    (m1 : PySem.W.nsIn K mainGlobals "NoPut" = some (some (.ref C1))) (o1 : K.lookup C1 = some (excClassObj nm1 q1 C1 N1 bs1 bmI true sn1 sub1 ab1 col1 dd1 ka1 kb1 kc1 kd1 ke1 "IndexError.__new__"))
    (i1 : PySem.W.findIn K (.ref C1) "__init__" = some (some (.ref G1))) (t1 : PySem.W.typeIn K (.ref G1) = some (.type "function"))
    (ml1 : K.lookup G1 = some ⟨moc1, mod1, .func (PySem.W.fnOf "__init__" "NoPut.__init__" (defArgs s_NoPut___init__) (defBody s_NoPut___init__) (defScope s_NoPut___init__) .none mkV1 mdc1 mpm1 man1 mcd1 mct1), msl1⟩) (mc1 : PySem.W.codeIn K mcd1 "NoPut.__init__" = true) (mk1 : PySem.W.keepIn K (.ref G1) = true)
    (sa1 : PySem.W.findIn K (.ref C1) "__setattr__" = some (some (.builtin "object.__setattr__")))
    (sb1 : PySem.W.subIn K (.ref C1) (.type "BaseException") = some true)
    (sc1 : PySem.W.typeIn K (.ref C1) = some (.type "type"))
    (sd1 : PySem.W.keepIn K (.ref C1) = true)
    (se1 : PySem.W.findIn K (.ref C1) "__getattribute__" = some (some (.builtin "BaseException.__getattribute__")))
    (sf1 : PySem.W.findIn K (.ref C1) "__getattr__" = some none)
    (sg1 : PySem.W.hasDictIn K C1 = true)
    (sh1 : PySem.W.findIn K (.ref C1) "__class__" = some (some (.builtin "object.__class__")))
    (si1 : PySem.W.mroIn K C1 (.type "object") = some true)
    {C2 G2 : Addr} {nm2 q2 : Str} {N2 : Addr} {bs2 : List Value} {sn2 : List Str} {sub2 : List Value} {ab2 : Bool} {col2 : Option Bool} {dd2 : Option Addr} {ka2 kb2 kc2 kd2 ke2 : Option Value}
    {mod2 man2 : Option Addr} {msl2 : Array (Option Value)} {moc2 mkV2 mdc2 mpm2 mcd2 mct2 : Value}
    (m2 : PySem.W.nsIn K mainGlobals "NoDeed" = some (some (.ref C2))) (o2 : K.lookup C2 = some (excClassObj nm2 q2 C2 N2 bs2 bmI true sn2 sub2 ab2 col2 dd2 ka2 kb2 kc2 kd2 ke2 "IndexError.__new__"))
    (i2 : PySem.W.findIn K (.ref C2) "__init__" = some (some (.ref G2))) (t2 : PySem.W.typeIn K (.ref G2) = some (.type "function"))
    (ml2 : K.lookup G2 = some ⟨moc2, mod2, .func (PySem.W.fnOf "__init__" "NoDeed.__init__" (defArgs s_NoDeed___init__) (defBody s_NoDeed___init__) (defScope s_NoDeed___init__) .none mkV2 mdc2 mpm2 man2 mcd2 mct2), msl2⟩) (mc2 : PySem.W.codeIn K mcd2 "NoDeed.__init__" = true) (mk2 : PySem.W.keepIn K (.ref G2) = true)
    (sa2 : PySem.W.findIn K (.ref C2) "__setattr__" = some (some (.builtin "object.__setattr__")))
    (sb2 : PySem.W.subIn K (.ref C2) (.type "BaseException") = some true)
    (sc2 : PySem.W.typeIn K (.ref C2) = some (.type "type"))
    (sd2 : PySem.W.keepIn K (.ref C2) = true)
    (se2 : PySem.W.findIn K (.ref C2) "__getattribute__" = some (some (.builtin "BaseException.__getattribute__")))
    (sf2 : PySem.W.findIn K (.ref C2) "__getattr__" = some none)
    (sg2 : PySem.W.hasDictIn K C2 = true)
    (sh2 : PySem.W.findIn K (.ref C2) "__class__" = some (some (.builtin "object.__class__")))
    (si2 : PySem.W.mroIn K C2 (.type "object") = some true)
    (nd : [C0, C1, C2].Nodup)
    (ea : PySem.W.specialIn K (.builtin "object.__class__") "__get__" = some (some (.builtin "getset_descriptor.__get__"))) (eb : PySem.W.takesIn K (.builtin "object.__class__") = some true)
    (u0 : PySem.W.findCls K (.type "ValueError") (.type "type") "__init__" = some (.val (.builtin "ValueError.__init__")))
    (u1 : PySem.W.findCls K (.type "IndexError") (.type "type") "__init__" = some (.val (.builtin "IndexError.__init__")))
    (u2 : PySem.W.findCls K (.type "KeyError") (.type "type") "__init__" = some (.val (.builtin "KeyError.__init__")))
    (u3 : PySem.W.findCls K (.type "LookupError") (.type "type") "__init__" = some (.val (.builtin "LookupError.__init__")))
    {tk0 : Tok} (v0 : PySem.W.nsIn K mainGlobals "MOST_CHOICES" = some (some (.int 3003 tk0)))
    (z0 : PySem.W.nsIn K mainGlobals "len" = some none)
    (z1 : PySem.W.nsIn K mainGlobals "sum" = some none)
    (z2 : PySem.W.nsIn K mainGlobals "range" = some none)
    (z3 : PySem.W.nsIn K mainGlobals "min" = some none)
    (z4 : PySem.W.nsIn K mainGlobals "max" = some none)
    (z5 : PySem.W.nsIn K mainGlobals "list" = some none)
    (z6 : PySem.W.nsIn K mainGlobals "isinstance" = some none)
    (z7 : PySem.W.nsIn K mainGlobals "IndexError" = some none)
    (z8 : PySem.W.nsIn K mainGlobals "repr" = some none)
    (z9 : PySem.W.nsIn K mainGlobals "tuple" = some none)
    : ∃ fd : FuncData, (∀ (s : Shared) (v : Value), BindsTo s fd ⟨[v], []⟩ [("_law_script", v)]) ∧ ∀ base : Heap, K.In base → base.Ns mainGlobals mg → RunAt l.prog w K mg base fa fd ["_law_script"] (spLaw K) := by
  have e := hfa.symm.trans (PySem.W.mg_of X G a10)
  cases e
  have T : Top K mg (fun i => [C0, C1, C2].getD i 0) := ⟨⟨⟨_, _, PySem.W.mg_of X G a0, fun_mk (st := s_ways) l0 cc0 k0⟩⟩, ⟨⟨_, _, PySem.W.mg_of X G a1, fun_mk (st := s_how_many) l1 cc1 k1⟩⟩, ⟨⟨_, _, PySem.W.mg_of X G a2, fun_mk (st := s_choices) l2 cc2 k2⟩⟩, ⟨⟨_, _, PySem.W.mg_of X G a3, fun_mk (st := s__with_one_more) l3 cc3 k3⟩⟩, ⟨⟨_, _, PySem.W.mg_of X G a4, fun_mk (st := s__law_begun) l4 cc4 k4⟩⟩, ⟨⟨_, _, PySem.W.mg_of X G a5, fun_mk (st := s__law_draw) l5 cc5 k5⟩⟩, ⟨⟨_, _, PySem.W.mg_of X G a6, fun_mk (st := s__law_pick) l6 cc6 k6⟩⟩, ⟨⟨_, _, PySem.W.mg_of X G a7, fun_mk (st := s__law_due) l7 cc7 k7⟩⟩, ⟨⟨_, _, PySem.W.mg_of X G a8, fun_mk (st := s__law_shuffled) l8 cc8 k8⟩⟩, ⟨⟨_, _, PySem.W.mg_of X G a9, fun_mk (st := s__law_many) l9 cc9 k9⟩⟩, ⟨⟨_, _, PySem.W.mg_of X G a10, fun_mk (st := s_law) l10 cc10 k10⟩⟩, cls_mk base_I (PySem.W.mg_of X G m0) o0 i0 t0 (fun_mk (st := s_TooMany___init__) ml0 mc0 mk0) sa0 sb0 sc0 sd0 se0 sf0 sg0 sh0 si0 ea eb (no1 fn0_0), cls_mk base_I (PySem.W.mg_of X G m1) o1 i1 t1 (fun_mk (st := s_NoPut___init__) ml1 mc1 mk1) sa1 sb1 sc1 sd1 se1 sf1 sg1 sh1 si1 ea eb (no0), cls_mk base_I (PySem.W.mg_of X G m2) o2 i2 t2 (fun_mk (st := s_NoDeed___init__) ml2 mc2 mk2) sa2 sb2 sc2 sd2 se2 sf2 sg2 sh2 si2 ea eb (no0), getD_inj nd, u0, u1, u2, u3, ⟨_, PySem.W.mg_of X G v0⟩, PySem.W.mg_none_of X G z0, PySem.W.mg_none_of X G z1, PySem.W.mg_none_of X G z2, PySem.W.mg_none_of X G z3, PySem.W.mg_none_of X G z4, PySem.W.mg_none_of X G z5, PySem.W.mg_none_of X G z6, PySem.W.mg_none_of X G z7, PySem.W.mg_none_of X G z8, PySem.W.mg_none_of X G z9⟩
  exact ⟨_, fun s v => .of_eq rfl, fun base _ _ => at_law (fun_mk (st := s_law) l10 cc10 k10) T⟩
end Mc
open PySem PySem.W PyProof.Rows
set_option maxRecDepth 100000 in
set_option maxHeartbeats 0 in
theorem PySem.Challenge.cw_mostclauses_k11_choices_in_order_holds : PySem.Challenge.rw_mostclauses_k11_choices_in_order.Holds := by
  w_on; o_law; k_head; (case hw => w_witness2)
  k_fill
  refine Mc.walk_at (l := PySem.Challenge.rw_mostclauses_k11_choices_in_order) (n := 63) (x := "_law_script") (sp := fun w => Mc.spLaw _) rfl (by decide) rfl (fun w h Y => PySem.W.kIn_of Y) ?F (fun _ _ a ns hl _ hS => ⟨a, ns, rfl, hS, hl, fun _ => rfl⟩)
  case F =>
    intro w mg fa h KX G hmg
    refine' Mc.all_mk KX G hmg ?a0 ?l0 ?cc0 ?k0 ?a1 ?l1 ?cc1 ?k1 ?a2 ?l2 ?cc2 ?k2 ?a3 ?l3 ?cc3 ?k3 ?a4 ?l4 ?cc4 ?k4 ?a5 ?l5 ?cc5 ?k5 ?a6 ?l6 ?cc6 ?k6 ?a7 ?l7 ?cc7 ?k7 ?a8 ?l8 ?cc8 ?k8 ?a9 ?l9 ?cc9 ?k9 ?a10 ?l10 ?cc10 ?k10 ?m0 ?o0 ?i0 ?t0 ?ml0 ?mc0 ?mk0 ?sa0 ?sb0 ?sc0 ?sd0 ?se0 ?sf0 ?sg0 ?sh0 ?si0 ?fn0_0 ?m1 ?o1 ?i1 ?t1 ?ml1 ?mc1 ?mk1 ?sa1 ?sb1 ?sc1 ?sd1 ?se1 ?sf1 ?sg1 ?sh1 ?si1 ?m2 ?o2 ?i2 ?t2 ?ml2 ?mc2 ?mk2 ?sa2 ?sb2 ?sc2 ?sd2 ?se2 ?sf2 ?sg2 ?sh2 ?si2 ?nd ?ea ?eb ?u0 ?u1 ?u2 ?u3 ?v0 ?z0 ?z1 ?z2 ?z3 ?z4 ?z5 ?z6 ?z7 ?z8 ?z9
    (case a0 => k_is)
    (case l0 => k_is)
    (case cc0 => k_is)
    (case k0 => k_is)
    (case a1 => k_is)
    (case l1 => k_is)
    (case cc1 => k_is)
    (case k1 => k_is)
    (case a2 => k_is)
    (case l2 => k_is)
    (case cc2 => k_is)
    (case k2 => k_is)
    (case a3 => k_is)
    (case l3 => k_is)
    (case cc3 => k_is)
    (case k3 => k_is)
    (case a4 => k_is)
    (case l4 => k_is)
    (case cc4 => k_is)
    (case k4 => k_is)
    (case a5 => k_is)
    (case l5 => k_is)
    (case cc5 => k_is)
    (case k5 => k_is)
    (case a6 => k_is)
    (case l6 => k_is)
    (case cc6 => k_is)
    (case k6 => k_is)
    (case a7 => k_is)
    (case l7 => k_is)
    (case cc7 => k_is)
    (case k7 => k_is)
    (case a8 => k_is)
    (case l8 => k_is)
    (case cc8 => k_is)
    (case k8 => k_is)
    (case a9 => k_is)
    (case l9 => k_is)
    (case cc9 => k_is)
    (case k9 => k_is)
    (case a10 => k_is)
    (case l10 => k_is)
    (case cc10 => k_is)
    (case k10 => k_is)
    (case m0 => k_is)
    (case o0 => k_is)
    (case i0 => k_is)
    (case t0 => k_is)
    (case ml0 => k_is)
    (case mc0 => k_is)
    (case mk0 => k_is)
    (case sa0 => k_is)
    (case sb0 => k_is)
    (case sc0 => k_is)
    (case sd0 => k_is)
    (case se0 => k_is)
    (case sf0 => k_is)
    (case sg0 => k_is)
    (case sh0 => k_is)
    (case si0 => k_is)
    (case fn0_0 => k_is)
    (case m1 => k_is)
    (case o1 => k_is)
    (case i1 => k_is)
    (case t1 => k_is)
    (case ml1 => k_is)
    (case mc1 => k_is)
    (case mk1 => k_is)
    (case sa1 => k_is)
    (case sb1 => k_is)
    (case sc1 => k_is)
    (case sd1 => k_is)
    (case se1 => k_is)
    (case sf1 => k_is)
    (case sg1 => k_is)
    (case sh1 => k_is)
    (case si1 => k_is)
    (case m2 => k_is)
    (case o2 => k_is)
    (case i2 => k_is)
    (case t2 => k_is)
    (case ml2 => k_is)
    (case mc2 => k_is)
    (case mk2 => k_is)
    (case sa2 => k_is)
    (case sb2 => k_is)
    (case sc2 => k_is)
    (case sd2 => k_is)
    (case se2 => k_is)
    (case sf2 => k_is)
    (case sg2 => k_is)
    (case sh2 => k_is)
    (case si2 => k_is)
    (case nd => decide)
    (case ea => k_is)
    (case eb => k_is)
    (case u0 => k_is)
    (case u1 => k_is)
    (case u2 => k_is)
    (case u3 => k_is)
    (case v0 => k_is)
    (case z0 => k_is)
    (case z1 => k_is)
    (case z2 => k_is)
    (case z3 => k_is)
    (case z4 => k_is)
    (case z5 => k_is)
    (case z6 => k_is)
    (case z7 => k_is)
    (case z8 => k_is)
    (case z9 => k_is)
