import PyProof.Rows.All
import Wide.All
import OpenK.AllK
import Wide.FinOn
import HandS.ForMost
import HandS.Flow
import HandS.Wide
import HandS.Small
import HandS.Style
import HandS.IsInst
import HandS.RaiseMore
import HandS.Codes
import HandS.ExcInit
import HandS.ExcIs
import HandS.ExcField
import HandS.FStr
import KE.KExcInit
import PyProof.ReprRoads
import PyProof.Rows.ReprShort
import PyProof.Rows.RegFStrParts
import PyProof.FString2
import PyProof.ExcBaseAll.ValueError
import PyProof.ExcBaseAll.IndexError
import PyProof.ExcBaseAll.LookupError
import PyProof.Rows.FactsExc_KeyError
import PyProof.Rows.FactsExc_ValueError
import PyProof.Rows.FactsExc_IndexError
import PyProof.Rows.FactsExc_LookupError
import HandS.WordsExc
import HandS.ExcOwn
import HandS.TryMany
import HandS.Star
import HandS.TupMul
import HandS.Iter
import HandS.Text
import PySem.Challenge.RW_mostclauses_k16_plans_by_words
set_option Elab.async false
set_option linter.all false
set_option maxRecDepth 100000
set_option maxHeartbeats 4000000
namespace Mc
open PySem PySem.Spec PyProof.Rows L2
/-! ### the text by places -/
def top (i : Nat) : Stmt := PySem.Challenge.pw_mostclauses_k16_plans_by_words.main.body.getD i (.Pass ⟨0, 0, 0, 0⟩)

abbrev s_part_for : Stmt := top 5
abbrev nm_part_for : List Str := ["word", "many"]
theorem sc_part_for : FnScope nm_part_for ["word", "many"] (defScope s_part_for) := ⟨rfl, rfl, rfl, by decide +kernel, rfl, by decide +kernel, by decide +kernel⟩
abbrev s_plan_for : Stmt := top 6
abbrev nm_plan_for : List Str := ["word", "many"]
theorem sc_plan_for : FnScope nm_plan_for ["word", "many"] (defScope s_plan_for) := ⟨rfl, rfl, rfl, by decide +kernel, rfl, by decide +kernel, by decide +kernel⟩
abbrev s__ones : Stmt := top 7
abbrev nm__ones : List Str := ["many"]
theorem sc__ones : FnScope nm__ones ["many"] (defScope s__ones) := ⟨rfl, rfl, rfl, by decide +kernel, rfl, by decide +kernel, by decide +kernel⟩
abbrev s__flat : Stmt := top 8
abbrev nm__flat : List Str := ["many"]
theorem sc__flat : FnScope nm__flat ["many"] (defScope s__flat) := ⟨rfl, rfl, rfl, by decide +kernel, rfl, by decide +kernel, by decide +kernel⟩
abbrev s__row : Stmt := top 9
abbrev nm__row : List Str := ["many", "part", "_"]
theorem sc__row : FnScope nm__row ["many"] (defScope s__row) := ⟨rfl, rfl, rfl, by decide +kernel, rfl, by decide +kernel, by decide +kernel⟩
abbrev s__halves : Stmt := top 10
abbrev nm__halves : List Str := ["word", "many"]
theorem sc__halves : FnScope nm__halves ["word", "many"] (defScope s__halves) := ⟨rfl, rfl, rfl, by decide +kernel, rfl, by decide +kernel, by decide +kernel⟩
abbrev s__groups : Stmt := top 11
abbrev nm__groups : List Str := ["many", "size", "parts", "start"]
theorem sc__groups : FnScope nm__groups ["many"] (defScope s__groups) := ⟨rfl, rfl, rfl, by decide +kernel, rfl, by decide +kernel, by decide +kernel⟩
abbrev s_is_whole : Stmt := top 13
abbrev nm_is_whole : List Str := ["thing"]
theorem sc_is_whole : FnScope nm_is_whole ["thing"] (defScope s_is_whole) := ⟨rfl, rfl, rfl, by decide +kernel, rfl, by decide +kernel, by decide +kernel⟩
abbrev s_is_part : Stmt := top 17
abbrev nm_is_part : List Str := ["thing"]
theorem sc_is_part : FnScope nm_is_part ["thing"] (defScope s_is_part) := ⟨rfl, rfl, rfl, by decide +kernel, rfl, by decide +kernel, by decide +kernel⟩
abbrev s_is_plan : Stmt := top 18
abbrev nm_is_plan : List Str := ["thing"]
theorem sc_is_plan : FnScope nm_is_plan ["thing"] (defScope s_is_plan) := ⟨rfl, rfl, rfl, by decide +kernel, rfl, by decide +kernel, by decide +kernel⟩
abbrev s_size_of : Stmt := top 19
abbrev nm_size_of : List Str := ["part", "ones", "waiting", "thing"]
theorem sc_size_of : FnScope nm_size_of ["part"] (defScope s_size_of) := ⟨rfl, rfl, rfl, by decide +kernel, rfl, by decide +kernel, by decide +kernel⟩
abbrev s__are_parts : Stmt := top 20
abbrev nm__are_parts : List Str := ["things", "around", "ones", "thing", "waiting", "outer", "part"]
theorem sc__are_parts : FnScope nm__are_parts ["things", "around"] (defScope s__are_parts) := ⟨rfl, rfl, rfl, by decide +kernel, rfl, by decide +kernel, by decide +kernel⟩
abbrev s__is_joined : Stmt := top 21
abbrev nm__is_joined : List Str := ["thing"]
theorem sc__is_joined : FnScope nm__is_joined ["thing"] (defScope s__is_joined) := ⟨rfl, rfl, rfl, by decide +kernel, rfl, by decide +kernel, by decide +kernel⟩
abbrev s__law_begun : Stmt := top 23
abbrev nm__law_begun : List Str := ["_law_script"]
theorem sc__law_begun : FnScope nm__law_begun ["_law_script"] (defScope s__law_begun) := ⟨rfl, rfl, rfl, by decide +kernel, rfl, by decide +kernel, by decide +kernel⟩
abbrev s__law_draw : Stmt := top 24
abbrev nm__law_draw : List Str := ["_law_tape", "_law_many", "_law_spot", "_law_most", "_law_cell", "_law_found"]
theorem sc__law_draw : FnScope nm__law_draw ["_law_tape", "_law_many"] (defScope s__law_draw) := ⟨rfl, rfl, rfl, by decide +kernel, rfl, by decide +kernel, by decide +kernel⟩
abbrev s__law_pick : Stmt := top 25
abbrev nm__law_pick : List Str := ["_law_tape", "_law_some"]
theorem sc__law_pick : FnScope nm__law_pick ["_law_tape", "_law_some"] (defScope s__law_pick) := ⟨rfl, rfl, rfl, by decide +kernel, rfl, by decide +kernel, by decide +kernel⟩
abbrev s_law : Stmt := top 26
abbrev nm_law : List Str := ["_law_script", "_law_tape", "_law_turn", "_law_words", "_law_many", "_law_word", "_law_plan", "_law_due", "_law_part", "_law_letter", "_law_odd", "_law_is_refused", "e"]
theorem sc_law : FnScope nm_law ["_law_script"] (defScope s_law) := ⟨rfl, rfl, rfl, by decide +kernel, rfl, by decide +kernel, by decide +kernel⟩
/-- an inner statement of a class -/
def inner (s : Stmt) (j : Nat) : Stmt := match s with
  | .ClassDef _ _ _ b _ _ _ _ _ _ _ => b.getD j (.Pass ⟨0, 0, 0, 0⟩)
  | z => z
abbrev s_NoPlan___init__ : Stmt := inner (top 1) 0
abbrev nm_NoPlan___init__ : List Str := ["self"]
theorem sc_NoPlan___init__ : FnScope nm_NoPlan___init__ ["self"] (defScope s_NoPlan___init__) := ⟨rfl, rfl, rfl, by decide +kernel, rfl, by decide +kernel, by decide +kernel⟩
/-! ### a def that stands in the top and keeps a promise -/
structure At (K : PySem.W.Frag) (mg : Str → Option Value) (x : Str) (st : Stmt) : Prop where
  ex : ∃ f fd, mg x = some (.ref f) ∧ Fun K x x st f fd
structure Has (P : Program) (w : World) (K : PySem.W.Frag) (mg : Str → Option Value) (base : Heap) (k : Nat) (x : Str) (ps : List Str) (sp : Sp) : Prop where
  ex : ∃ f fd, mg x = some (.ref f) ∧ PySem.W.keepIn K (.ref f) = true ∧ Binds K fd ps [] ∧ FnOk P w K mg base CX0 k f fd ps sp
theorem pe_has {X : Cx} {k : Nat} {x : Str} {ps : List Str} {sp : Sp} {e : Expr} {es : List Expr} {t : TA} {p pos : Pos} (h : Has X.prog X.w X.K X.mg X.base k x ps sp) (hr : Room k X.A) (hg : Gl X x) (ha : PA X (e :: es) t)
    (hdb : (x == ("__debug__" : Str)) = false := by decide) (he : starEach (e :: es) X.env = (false, eval e X.env) :: starEach es X.env := by rfl) (hpl : (backTo pos (starEach es X.env)).any (·.1) = false := by rfl) :
    PE X (.Call (.Name x p) (e :: es) [] pos) (tCall sp [] E0 t) := by
  obtain ⟨f, fd, hm, hk, hb, F⟩ := h.ex
  exact pe_call F hr hg hm hk hb .nil pass0 ha hdb he hpl
abbrev BindsAll (x : Str) (st : Stmt) (ps : List Str) : Prop :=
  ∀ (kV doc pm : Value) (an : Option Addr) (cdv ct : Value) (us : List Value), us.length = ps.length → bindArgs (PySem.W.fnOf x x (defArgs st) (defBody st) (defScope st) .none kV doc pm an cdv ct) ⟨us, []⟩ = pure (ps.zip us)
section
variable {P : Program} {w : World} {K : PySem.W.Frag} {mg : Str → Option Value} {base : Heap}
theorem has_of {x : Str} {st : Stmt} {N ps : List Str} {k : Nat} {sp : Sp} (A : At K mg x st) (S : FnScope N ps (defScope st)) (B : BindsAll x st ps) (len : ∀ vs H Q E, sp vs H Q E → vs.length = ps.length)
    (hbody : ∀ (f : Addr) (cdv : Value) (A : Around) (outer : List Env) (s : Shared) (H : Hp) (vs : List V) (Q : VK) (E : XK), Room k (A.deeper (envOfC x (defScope st) s.heap.objs.size f cdv)) → sp vs H Q E →
      ∃ t, PSs (cxOf CX0 P w K mg base N x (defScope st) f cdv A outer s H E).nox (defBody st) t ∧ t { nx := fun _ H' => Q .non H', rt := Q } (start N vs) H) : Has P w K mg base (k + 1) x ps sp := by
  obtain ⟨f, fd, hm, F⟩ := A.ex
  exact ⟨f, fd, hm, F.kp, F.binds B, F.ok S len fun cdv A outer s H vs Q E hr h => hbody f cdv A outer s H vs Q E hr h⟩
end
theorem pe_const {X : Cx} {x : Str} {i : Int} {pos : Pos} (hm : ∃ t, X.mg x = some (.int i t)) (hg : Gl X x) (hd : (x == ("__debug__" : Str)) = false := by decide) : PE X (.Name x pos) (tC (.int i)) := by
  obtain ⟨t, hm⟩ := hm
  exact pe_glob hg hm ⟨t, rfl⟩ hd
/-! ### repr of a truth -/
def boolText (b : Bool) : Str := if b then "True" else "False"
theorem boolText_inj {a b : Bool} (h : boolText a = boolText b) : a = b := by
  cases a <;> cases b <;> first | rfl | exact absurd h (by decide +kernel)
theorem call_repr_bool {X : Cx} : CallR X (.builtin "repr") (fun xs H Q => ∃ b, xs = [.bl b] ∧ Q (.str (boolText b)) H) := by
  intro pins s σ H xs us Q I r h
  obtain ⟨b, rfl, q⟩ := h
  obtain ⟨u, rfl, ru⟩ := vals1 r
  cases ru
  cases b with
  | true => exact PySem.P.repr_of_bool ⟨.str (boolText true), H, I.tok _, ⟨_, rfl⟩, q⟩
  | false => exact PySem.P.repr_of_bool ⟨.str (boolText false), H, I.tok _, ⟨_, rfl⟩, q⟩
/-! ### heaps -/
/-- all that is known stays, but for what stands at t -/
def Kp (t : Addr) (H H' : Hp) : Prop := ∀ b o, H b = some o → b ≠ t → H' b = some o
theorem Kp.refl {t : Addr} (H : Hp) : Kp t H H := fun _ _ h _ => h
theorem Kp.trans {t : Addr} {H H1 H2 : Hp} (a : Kp t H H1) (b : Kp t H1 H2) : Kp t H H2 := fun c o h n => b c o (a c o h n) n
theorem Kp.new {t p : Addr} {H : Hp} {o : HO} (h : H p = none) : Kp t H (upd H p o) := fun b u e _ => by
  rw [upd_ne (ne_of_none e h)]
  exact e
theorem Kp.at {t : Addr} {H : Hp} {o : HO} : Kp t H (upd H t o) := fun b u e n => by
  rw [upd_ne n]
  exact e
theorem Kp.same {t : Addr} {H H' : Hp} (s : Same H H') : Kp t H H' := fun b o e _ => s b o e
theorem same_new {H : Hp} {p : Addr} {o : HO} (h : H p = none) : Same H (upd H p o) := fun b u e => by
  rw [upd_ne (ne_of_none e h)]
  exact e
/-! ### the tape -/
def tk (c : Addr) (spot left : Int) : List (Key × V) := [(.inr "cells", .ref c), (.inr "spot", .int spot), (.inr "left", .int left)]
structure TapeC (H : Hp) (t c : Addr) (ns : List Int) (spot left : Int) : Prop where
  d : H t = some (.dK (tk c spot left))
  l : H c = some (.lst (ns.map V.int))
  ne : 0 < ns.length
  lt : ns.length ≤ 63
  s0 : 0 ≤ spot
  l0 : 0 ≤ left
/-- a tape at t, its cells at c, of which at most n draws are taken -/
def Tape (H : Hp) (t c : Addr) (n : Nat) : Prop := ∃ ns spot left, TapeC H t c ns spot left ∧ spot ≤ n
theorem Tape.ne {H : Hp} {t c : Addr} {n : Nat} (h : Tape H t c n) : t ≠ c := by
  obtain ⟨ns, spot, left, h, _⟩ := h
  exact ne_of h.d h.l (by intro z; cases z)
theorem Tape.le {H : Hp} {t c : Addr} {n m : Nat} (h : Tape H t c n) (l : n ≤ m) : Tape H t c m := by
  obtain ⟨ns, spot, left, h, e⟩ := h
  exact ⟨ns, spot, left, h, by omega⟩
theorem Tape.stay {H H' : Hp} {t c : Addr} {n : Nat} (h : Tape H t c n) (k : ∀ b o, H b = some o → b = t ∨ b = c → H' b = some o) : Tape H' t c n := by
  obtain ⟨ns, spot, left, h, e⟩ := h
  exact ⟨ns, spot, left, ⟨k _ _ h.d (.inl rfl), k _ _ h.l (.inr rfl), h.ne, h.lt, h.s0, h.l0⟩, e⟩
theorem Tape.same {H H' : Hp} {t c : Addr} {n : Nat} (h : Tape H t c n) (s : Same H H') : Tape H' t c n := h.stay fun b o e _ => s b o e
theorem Tape.new {H : Hp} {t c p : Addr} {n : Nat} {o : HO} (h : Tape H t c n) (hp : H p = none) : Tape (upd H p o) t c n := h.same (same_new hp)
theorem Tape.at_t {H : Hp} {t c : Addr} {n : Nat} (h : Tape H t c n) : ∃ o, H t = some o := by
  obtain ⟨ns, spot, left, h, _⟩ := h
  exact ⟨_, h.d⟩
theorem Tape.at_c {H : Hp} {t c : Addr} {n : Nat} (h : Tape H t c n) : ∃ o, H c = some o := by
  obtain ⟨ns, spot, left, h, _⟩ := h
  exact ⟨_, h.l⟩
theorem k_cells : ¬ (("cells" : Str) = "spot") := by decide +kernel
theorem k_cells2 : ¬ (("cells" : Str) = "left") := by decide +kernel
theorem k_spot : ¬ (("spot" : Str) = "left") := by decide +kernel
theorem tk_cells (c : Addr) (a b : Int) : valV (tk c a b) (Sum.inr "cells" : Key) = some (.ref c) := valV_pos rfl
theorem tk_spot (c : Addr) (a b : Int) : valV (tk c a b) (Sum.inr "spot" : Key) = some (.int a) := by
  unfold tk
  rw [valV_neg (fun e => k_cells (Sum.inr.inj e)), valV_pos rfl]
theorem tk_left (c : Addr) (a b : Int) : valV (tk c a b) (Sum.inr "left" : Key) = some (.int b) := by
  unfold tk
  rw [valV_neg (fun e => k_cells2 (Sum.inr.inj e)), valV_neg (fun e => k_spot (Sum.inr.inj e)), valV_pos rfl]
theorem tk_put_spot (c : Addr) (a b x : Int) : putK (tk c a b) (Sum.inr "spot" : Key) (.int x) = tk c x b := by
  rfl
theorem tk_put_left (c : Addr) (a b x : Int) : putK (tk c a b) (Sum.inr "left" : Key) (.int x) = tk c a x := by
  rfl
theorem dg_cells {H : Hp} {t c : Addr} {a b : Int} (h : H t = some (.dK (tk c a b))) : DGet H t (.str "cells") (some (.ref c)) := by
  have g := DGet.k (k := (Sum.inr "cells" : Key)) h
  rw [tk_cells] at g
  exact g
theorem dg_spot {H : Hp} {t c : Addr} {a b : Int} (h : H t = some (.dK (tk c a b))) : DGet H t (.str "spot") (some (.int a)) := by
  have g := DGet.k (k := (Sum.inr "spot" : Key)) h
  rw [tk_spot] at g
  exact g
theorem dg_left {H : Hp} {t c : Addr} {a b : Int} (h : H t = some (.dK (tk c a b))) : DGet H t (.str "left") (some (.int b)) := by
  have g := DGet.k (k := (Sum.inr "left" : Key)) h
  rw [tk_left] at g
  exact g
theorem dp_spot {H : Hp} {t c : Addr} {a b : Int} (x : Int) (h : H t = some (.dK (tk c a b))) : DPut H t (.str "spot") (.int x) (upd H t (.dK (tk c x b))) := by
  have g := DPut.k (k := (Sum.inr "spot" : Key)) (v := .int x) h (small1000 (by show 3 ≤ 1000; decide))
  rw [tk_put_spot] at g
  exact g
theorem dp_left {H : Hp} {t c : Addr} {a b : Int} (x : Int) (h : H t = some (.dK (tk c a b))) : DPut H t (.str "left") (.int x) (upd H t (.dK (tk c a x))) := by
  have g := DPut.k (k := (Sum.inr "left" : Key)) (v := .int x) h (small1000 (by show 3 ≤ 1000; decide))
  rw [tk_put_left] at g
  exact g
theorem Tape.fresh {H : Hp} {t c p : Addr} {n : Nat} (h : Tape H t c n) (hp : H p = none) : p ≠ t := by
  obtain ⟨o, e⟩ := h.at_t
  exact (ne_of_none e hp).symm
theorem Tape.fresh_c {H : Hp} {t c p : Addr} {n : Nat} (h : Tape H t c n) (hp : H p = none) : p ≠ c := by
  obtain ⟨o, e⟩ := h.at_c
  exact (ne_of_none e hp).symm
/-! ### a list beside the empty list -/
section
variable {X : Cx}
def rEqNil (K : PySem.W.Frag) (neg : Bool) : R2 := fun x y H Q => ∃ a b xs, x = .ref a ∧ y = .ref b ∧ SqL K H a xs ∧ SqL K H b [] ∧ Q (.bl (if neg = true then !xs.isEmpty else xs.isEmpty)) H
theorem op_eqNil (hu : X.A.units + 1 < cLine) : OpR X (compareOp .Eq) (rEqNil X.K false) := by
  intro pins s σ H x y v u Q I rx ry h
  obtain ⟨a, b, xs, rfl, rfl, ha, hb, q⟩ := h
  cases rx
  cases ry
  obtain ⟨us, vs, pl, _⟩ := I.list ha
  obtain ⟨ws, vs2, pl2, _⟩ := I.list hb
  cases vs2
  have l := vs.length
  cases xs with
  | nil =>
    cases vs
    exact SeqAt.RcAt.lists (e := fun _ => true) pl.isList pl2.isList rfl (by omega) (fun j h1 => absurd h1 (Nat.not_lt_zero _)) _ _ _ _ ⟨.bl true, H, I, rfl, q⟩
  | cons z zs => exact SeqAt.RcAt.lists_lengths pl.isList pl2.isList (by rw [List.size_toArray, ← l]; rfl) (by omega) _ _ _ _ ⟨.bl false, H, I, rfl, q⟩
theorem op_neNil (hu : X.A.units + 1 < cLine) : OpR X (compareOp .NotEq) (rEqNil X.K true) := by
  intro pins s σ H x y v u Q I rx ry h
  obtain ⟨a, b, xs, rfl, rfl, ha, hb, q⟩ := h
  cases rx
  cases ry
  obtain ⟨us, vs, pl, _⟩ := I.list ha
  obtain ⟨ws, vs2, pl2, _⟩ := I.list hb
  cases vs2
  have l := vs.length
  cases xs with
  | nil =>
    cases vs
    exact SeqAt.RcNeAt.lists (e := fun _ => true) pl.isList pl2.isList rfl (by omega) (fun j h1 => absurd h1 (Nat.not_lt_zero _)) _ _ _ _ ⟨.bl false, H, I, rfl, q⟩
  | cons z zs => exact SeqAt.RcNeAt.lists_lengths pl.isList pl2.isList (by rw [List.size_toArray, ← l]; rfl) (by omega) _ _ _ _ ⟨.bl true, H, I, rfl, q⟩
end
/-! ### comprehensions that leave what is known as it is -/
theorem take_sel {α β : Type} (t : α → Bool) (f : α → β) {xs : List α} {i : Nat} {x : α} (h : xs[i]? = some x) :
    ((xs.take (i + 1)).filter t).map f = ((xs.take i).filter t).map f ++ (if t x = true then [f x] else []) := by
  rw [List.take_add_one, h, List.filter_append, List.map_append]
  by_cases ht : t x = true
  · rw [if_pos ht]
    simp [ht]
  · rw [if_neg ht]
    simp [ht]
section
variable {K : PySem.W.Frag} {a : Addr} {xs : List V} {tt : TT} {te : TE} {vs : List Nat} {σ : L2.St} {H : Hp} {D : Addr} {Qd : Hp → Prop} {j : Nat}
/-- what a turn asks: the test, the item -/
structure SelT (H : Hp) (σ : L2.St) (vs : List Nat) (j : Nat) (tt : TT) (te : TE) (x : V) (b : Bool) (y : V) : Prop where
  wip : wipe ((wipe σ vs).set j (some x)) vs = wipe σ vs
  tst : ∀ H', Same H H' → ∀ R : Bool → Hp → Prop, (∀ H'', Same H' H'' → R b H'') → tt ((wipe σ vs).set j (some x)) H' R
  elt : b = true → ∀ H', Same H H' → ∀ R : VK, (∀ H'', Same H' H'' → R y H'') → te ((wipe σ vs).set j (some x)) H' R
theorem sel_turn {x y : V} {b : Bool} {acc : List V} {H' : Hp} {P : Hp → Prop} (hD : H D = none) (s : SelT H σ vs j tt te x b y) (hs : Same H H') (ha : H' D = some (.lst acc)) (hz : acc.length < sizeLine)
    (k : ∀ H'', Same H H'' → H'' D = some (.lst (acc ++ (if b = true then [y] else []))) → P H'') :
    gName j x (wipe σ vs) H' fun σ2 H2 => wipe σ2 vs = wipe σ vs ∧ tt σ2 H2 fun c H3 => if c = true then te σ2 H3 fun y H4 => ∃ acc, H4 D = some (.lst acc) ∧ acc.length < sizeLine ∧ P (upd H4 D (.lst (acc ++ [y]))) else P H3 := by
  refine ⟨s.wip, s.tst H' hs _ fun H3 s3 => ?_⟩
  have h3 := s3 D _ ha
  cases b with
  | false =>
    refine iteF (k H3 (hs.trans s3) ?_)
    rw [h3, if_neg Bool.false_ne_true, List.append_nil]
  | true =>
    refine iteT (s.elt rfl H3 (hs.trans s3) _ fun H4 s4 => ⟨acc, s4 D _ h3, hz, k _ (fun c o e => ?_) ?_⟩)
    · rw [upd_ne (ne_of_none e hD)]
      exact s4 c o (s3 c o (hs c o e))
    · rw [upd_same, if_pos rfl]
theorem lc_sel_list (t : V → Bool) (f : V → V) (hx : SqL K H a xs) (hD : H D = none) (hz : xs.length ≤ 1000000) (hs : ∀ x ∈ xs, SelT H σ vs j tt te x (t x) (f x)) (k : ∀ H', Same H H' → H' D = some (.lst ((xs.filter t).map f)) → Qd H') :
    ∃ W : Nat → Nat → Hp → Prop, (∃ m, W 0 m (upd H D (.lst []))) ∧ ∀ i m H, W i m H →
      ((Itl K a).stop i H ∧ Qd H) ∨ ((Itl K a).go i H ∧ ∃ Nx : Hp → Prop, (∀ H', Nx H' → ∃ m', m' < m ∧ W (i + 1) m' H') ∧ ∀ x H', (Itl K a).yld i H x H' → gName j x (wipe σ vs) H' fun σ2 H2 => wipe σ2 vs = wipe σ vs ∧ tt σ2 H2 fun b H3 =>
        if b = true then te σ2 H3 fun y H4 => ∃ acc, H4 D = some (.lst acc) ∧ acc.length < sizeLine ∧ Nx (upd H4 D (.lst (acc ++ [y]))) else Nx H3) := by
  have line : 1000000 < sizeLine := by decide
  refine lc_list (xs := xs) (fun i H' => Same H H' ∧ H' D = some (.lst (((xs.take i).filter t).map f))) ⟨same_new hD, upd_same⟩ (fun i H' _ p => p.1.seq hx) (fun i x H' hi p => ?_) fun H' p => k H' p.1 (by rw [p.2, List.take_length])
  refine sel_turn hD (hs x (List.mem_of_getElem? hi)) p.1 p.2 ?_ fun H'' s'' e => ⟨s'', by rw [e, take_sel t f hi]⟩
  have l1 := List.length_filter_le t (xs.take i)
  have l2 := List.length_take_le i xs
  have l3 : (xs.take i).length ≤ xs.length := by rw [List.length_take]; omega
  rw [List.length_map]
  omega
theorem Same.seqT {H H' : Hp} (e : Same H H') (h : SqT K H a xs) : SqT K H' a xs := by
  rcases h with (h | ⟨o, h⟩) | h
  · exact .inl (.inl (e _ _ h))
  · exact .inl (.inr ⟨o, e _ _ h⟩)
  · exact .inr h
theorem lc_sel_tup (t : V → Bool) (f : V → V) (hx : SqT K H a xs) (hD : H D = none) (hz : xs.length ≤ 1000000) (hs : ∀ x ∈ xs, SelT H σ vs j tt te x (t x) (f x)) (k : ∀ H', Same H H' → H' D = some (.lst ((xs.filter t).map f)) → Qd H') :
    ∃ W : Nat → Nat → Hp → Prop, (∃ m, W 0 m (upd H D (.lst []))) ∧ ∀ i m H, W i m H →
      ((Itt K a).stop i H ∧ Qd H) ∨ ((Itt K a).go i H ∧ ∃ Nx : Hp → Prop, (∀ H', Nx H' → ∃ m', m' < m ∧ W (i + 1) m' H') ∧ ∀ x H', (Itt K a).yld i H x H' → gName j x (wipe σ vs) H' fun σ2 H2 => wipe σ2 vs = wipe σ vs ∧ tt σ2 H2 fun b H3 =>
        if b = true then te σ2 H3 fun y H4 => ∃ acc, H4 D = some (.lst acc) ∧ acc.length < sizeLine ∧ Nx (upd H4 D (.lst (acc ++ [y]))) else Nx H3) := by
  have line : 1000000 < sizeLine := by decide
  refine lc_tup (xs := xs) (fun i H' => Same H H' ∧ H' D = some (.lst (((xs.take i).filter t).map f))) ⟨same_new hD, upd_same⟩ (fun i H' _ p => Same.seqT p.1 hx) (fun i x H' hi p => ?_) fun H' p => k H' p.1 (by rw [p.2, List.take_length])
  refine sel_turn hD (hs x (List.mem_of_getElem? hi)) p.1 p.2 ?_ fun H'' s'' e => ⟨s'', by rw [e, take_sel t f hi]⟩
  have l1 := List.length_filter_le t (xs.take i)
  have l3 : (xs.take i).length ≤ xs.length := by rw [List.length_take]; omega
  rw [List.length_map]
  omega
theorem take_range {n i : Nat} (h : i < n) : (List.range n)[i]? = some i := by
  rw [List.getElem?_range h]
theorem lc_sel_range {lo : Int} {n : Nat} (t : Nat → Bool) (f : Nat → V) (hD : H D = none) (hz : n ≤ 1000000) (hs : ∀ i, i < n → SelT H σ vs j tt te (.int (lo + i)) (t i) (f i)) (k : ∀ H', Same H H' → H' D = some (.lst (((List.range n).filter t).map f)) → Qd H') :
    ∃ W : Nat → Nat → Hp → Prop, (∃ m, W 0 m (upd H D (.lst []))) ∧ ∀ i m H, W i m H →
      ((Itr lo n).stop i H ∧ Qd H) ∨ ((Itr lo n).go i H ∧ ∃ Nx : Hp → Prop, (∀ H', Nx H' → ∃ m', m' < m ∧ W (i + 1) m' H') ∧ ∀ x H', (Itr lo n).yld i H x H' → gName j x (wipe σ vs) H' fun σ2 H2 => wipe σ2 vs = wipe σ vs ∧ tt σ2 H2 fun b H3 =>
        if b = true then te σ2 H3 fun y H4 => ∃ acc, H4 D = some (.lst acc) ∧ acc.length < sizeLine ∧ Nx (upd H4 D (.lst (acc ++ [y]))) else Nx H3) := by
  have line : 1000000 < sizeLine := by decide
  refine lc_range (fun i H' => Same H H' ∧ H' D = some (.lst ((((List.range n).take i).filter t).map f))) ⟨same_new hD, upd_same⟩ (fun i H' hi p => ?_) fun H' p => k H' p.1 (by rw [p.2, List.take_of_length_le (by rw [List.length_range]; omega)])
  refine sel_turn hD (hs i hi) p.1 p.2 ?_ fun H'' s'' e => ⟨s'', by rw [e, take_sel t f (take_range hi)]⟩
  have l1 := List.length_filter_le t ((List.range n).take i)
  have l3 : ((List.range n).take i).length ≤ n := by rw [List.length_take, List.length_range]; omega
  rw [List.length_map]
  omega
end
theorem filter_all {α : Type} (xs : List α) : xs.filter (fun _ => true) = xs := List.filter_eq_self.mpr fun _ _ => rfl
theorem Kp.free {t D : Addr} {H H' : Hp} (k : Kp t H H') (h : H' D = none) (n : D ≠ t) : H D = none := by
  cases e : H D with
  | none => rfl
  | some o =>
    rw [k D o e n] at h
    cases h
theorem Kp.mut {t p : Addr} {H H' : Hp} {o : HO} (k : Kp t H H') (h : H p = none) : Kp t H (upd H' p o) := fun b u e n => by
  rw [upd_ne (ne_of_none e h)]
  exact k b u e n
theorem Tape.mut {H : Hp} {t c p : Addr} {n : Nat} {o : HO} (h : Tape H t c n) (n1 : p ≠ t) (n2 : p ≠ c) : Tape (upd H p o) t c n := h.stay fun b u e z => by
  rw [upd_ne]
  · exact e
  · rcases z with rfl | rfl
    · exact n1.symm
    · exact n2.symm
theorem yes_go {σ : L2.St} {H : Hp} {A B : Hp → Prop} (h : A H) : tYes σ H (fun b H' => if b = true then A H' else B H') := by
  show (if true = true then A H else B H)
  rw [if_pos rfl]
  exact h
/-! ### d.update(e) of two dicts -/
theorem mt_update {X : Cx} : MtR X "dict.update" (fun x xs H Q => ∃ (a b : Addr) (ks ms : List (Key × V)), x = .ref a ∧ xs = [.ref b] ∧ H a = some (.dK ks) ∧ H b = some (.dK ms) ∧ a ≠ b ∧ ks.length + ms.length ≤ sizeLine ∧
    Q .non (upd H a (.dK (mergeK ks ms)))) := by
  intro pins s σ H x xs v us Q I rx rxs h
  obtain ⟨a, b, ks, ms, rfl, rfl, ha, hb, ne, few, q⟩ := h
  cases rx
  obtain ⟨u, rfl, ru⟩ := vals1 rxs
  cases ru
  obtain ⟨za, da, va, ra, dda⟩ := dk_of I.hok ha
  obtain ⟨zb, db, vb, rb, ddb⟩ := dk_of I.hok hb
  refine call_meetsIn PySem.F.slot_dict_update dda.typeIs PySem.F.entry_dict_update (PySem.F.args_dict_update_2 _ _) (meets_dict_update (mixKind X.prog X.w) a b ne db) ⟨va, vb, dda, ddb, by rw [← ra.length, ← rb.length]; exact few, fun h' d1 d2 same => ?_⟩
  have there : ∃ o, h'.get? a = some o := by
    obtain ⟨o, _, _, ho, _⟩ := id d1
    exact ⟨o, ho⟩
  have small : (mergeK ks ms).length ≤ sizeLine := Nat.le_trans (length_mergeK ms ks) few
  exact ⟨.non, _, d_write (t' := s.toks) I (by rw [ha]; exact True.intro) same there (dk_new small da (rb.merge ra) d1), rfl, q⟩
/-! ### rules whose reading names the written part, for use within a comprehension -/
section
variable {X : Cx} {K : PySem.W.Frag}
theorem op_inK (h : X.K = K) : OpR X (compareOp .In) (rIn K false) := h ▸ op_in_seq
theorem op_notInK (h : X.K = K) : OpR X (compareOp .NotIn) (rIn K true) := h ▸ op_notIn_seq
theorem op_eqNilK (h : X.K = K) (hu : X.A.units + 1 < cLine) : OpR X (compareOp .Eq) (rEqNil K false) := h ▸ op_eqNil hu
theorem op_neNilK (h : X.K = K) (hu : X.A.units + 1 < cLine) : OpR X (compareOp .NotEq) (rEqNil K true) := h ▸ op_neNil hu
theorem ix_listK (h : X.K = K) : IxR X (rIxL K) := h ▸ ix_list
theorem ix_tupK (h : X.K = K) : IxR X (rIxT K) := h ▸ ix_tup
theorem ix_seqK (h : X.K = K) : IxR X (rIx K) := h ▸ ix_seq
theorem len_seqK (h : X.K = K) : CallR X (.builtin "len") (fun xs H Q => ∃ p ys, xs = [.ref p] ∧ (SqL K H p ys ∨ SqT K H p ys) ∧ Q (.int (ys.length : Nat)) H) := h ▸ call_len_seq
theorem pi_listK {tg l : Expr} {tl : TE} (h : X.K = K) (hl : PE X l tl) : PI X tg l (iList K tl) := h ▸ pi_list hl
theorem pi_tupK {tg l : Expr} {tl : TE} (h : X.K = K) (hl : PE X l tl) : PI X tg l (iTup K tl) := h ▸ pi_tup hl
theorem sl_listK (h : X.K = K) : SlR X (rSlL K) := h ▸ sl_list
theorem sl_tupK (h : X.K = K) : SlR X (rSlT K) := h ▸ sl_tup
theorem cr_sumK (h : X.K = K) (hc : X.calm = true) : CallR X (.builtin "sum") (rSum K) := h ▸ cr_sum hc
theorem cr_maxL (h : X.K = K) (hc : X.calm = true) : CallR X (.builtin "max") (rMax K) := h ▸ cr_max hc
theorem cr_minL (h : X.K = K) (hc : X.calm = true) : CallR X (.builtin "min") (rMin K) := h ▸ cr_min hc
theorem cr_allK (h : X.K = K) (hc : X.calm = true) : CallR X (.builtin "all") (rAll K) := h ▸ cr_all hc
theorem cr_anyK (h : X.K = K) (hc : X.calm = true) : CallR X (.builtin "any") (rAny K) := h ▸ cr_any hc
theorem call_list_ofK (h : X.K = K) : CallR X (.type "list") (fun xs H Q => ∃ p ys, xs = [.ref p] ∧ (SqL K H p ys ∨ SqT K H p ys) ∧ ∀ l, H l = none → Q (.ref l) (upd H l (.lst ys))) := h ▸ call_list_of
theorem call_tuple_ofK (h : X.K = K) : CallR X (.type "tuple") (fun xs H Q => ∃ p ys, xs = [.ref p] ∧ ((SqL K H p ys ∧ ∀ l, H l = none → Q (.ref l) (upd H l (.tup ys))) ∨ (SqT K H p ys ∧ Q (.ref p) H))) := h ▸ call_tuple_of
theorem op_catTK (h : X.K = K) : OpR X (binaryOp .Add) (rCatT K) := h ▸ op_catT
end
theorem bd_part_for : BindsAll "part_for" s_part_for ["word", "many"] := fun _ _ _ _ _ _ us hl => match us, hl with | [_, _], _ => rfl
theorem bd_plan_for : BindsAll "plan_for" s_plan_for ["word", "many"] := fun _ _ _ _ _ _ us hl => match us, hl with | [_, _], _ => rfl
theorem bd__ones : BindsAll "_ones" s__ones ["many"] := fun _ _ _ _ _ _ us hl => match us, hl with | [_], _ => rfl
theorem bd__flat : BindsAll "_flat" s__flat ["many"] := fun _ _ _ _ _ _ us hl => match us, hl with | [_], _ => rfl
theorem bd__row : BindsAll "_row" s__row ["many"] := fun _ _ _ _ _ _ us hl => match us, hl with | [_], _ => rfl
theorem bd__halves : BindsAll "_halves" s__halves ["word", "many"] := fun _ _ _ _ _ _ us hl => match us, hl with | [_, _], _ => rfl
theorem bd__groups : BindsAll "_groups" s__groups ["many"] := fun _ _ _ _ _ _ us hl => match us, hl with | [_], _ => rfl
theorem bd_is_whole : BindsAll "is_whole" s_is_whole ["thing"] := fun _ _ _ _ _ _ us hl => match us, hl with | [_], _ => rfl
theorem bd_is_part : BindsAll "is_part" s_is_part ["thing"] := fun _ _ _ _ _ _ us hl => match us, hl with | [_], _ => rfl
theorem bd_is_plan : BindsAll "is_plan" s_is_plan ["thing"] := fun _ _ _ _ _ _ us hl => match us, hl with | [_], _ => rfl
theorem bd_size_of : BindsAll "size_of" s_size_of ["part"] := fun _ _ _ _ _ _ us hl => match us, hl with | [_], _ => rfl
theorem bd__are_parts : BindsAll "_are_parts" s__are_parts ["things", "around"] := fun _ _ _ _ _ _ us hl => match us, hl with | [_, _], _ => rfl
theorem bd__is_joined : BindsAll "_is_joined" s__is_joined ["thing"] := fun _ _ _ _ _ _ us hl => match us, hl with | [_], _ => rfl
theorem bd__law_begun : BindsAll "_law_begun" s__law_begun ["_law_script"] := fun _ _ _ _ _ _ us hl => match us, hl with | [_], _ => rfl
theorem bd__law_draw : BindsAll "_law_draw" s__law_draw ["_law_tape", "_law_many"] := fun _ _ _ _ _ _ us hl => match us, hl with | [_, _], _ => rfl
theorem bd__law_pick : BindsAll "_law_pick" s__law_pick ["_law_tape", "_law_some"] := fun _ _ _ _ _ _ us hl => match us, hl with | [_, _], _ => rfl
theorem bd_law : BindsAll "law" s_law ["_law_script"] := fun _ _ _ _ _ _ us hl => match us, hl with | [_], _ => rfl
/-! ### making an exception of an own class, over any of the builtin ones -/
/-- by which __new__ an own class is made, and what its mro must tell -/
structure NewBy (bm : List Value) (nB newId : String) : Prop where
  f : ∃ i l, ExcBaseFacts nB newId i l
  b : bm.contains (.type nB) = true
  a : bm.contains (.type "AttributeError") = false
  n : bm.contains (.type "NameError") = false
section
variable {M : Model} {A : Around} {E : Value → Shared → Prop} {h : Heap} {g : Array GenState} {d : Drawn} {t : Nat} {os : OsState}
variable {nm q : Str} {C N : Addr} {bs bm : List Value} {hdct : Bool} {sn : List Str} {sub : List Value} {ab : Bool} {col : Option Bool} {dd : Option Addr} {k0 k1 k2 k3 k5 : Option Value} {nB newId iB initId : String}
theorem new_checked (Y : NewBy bm nB newId) {rest : List Value} {Q : Unit → Shared → Prop} (o : h.get? C = some (excClassObj nm q C N bs bm hdct sn sub ab col dd k0 k1 k2 k3 k5 newId))
    (k : Q () ⟨h, g, d, t, os⟩) : wpAny M A (checkBuiltinCall newId ⟨.ref C :: rest, []⟩) Q E ⟨h, g, d, t, os⟩ := by
  obtain ⟨⟨i, l, F⟩, yb, _, _⟩ := Y
  have own : (Value.ref C :: bm).contains (.type nB) = true := by
    rw [List.contains_cons, yb]
    exact Bool.or_true _
  have star := F.noStar
  simp only [F.newRow, F.newSplit, F.newKind, checkBuiltinCall]
  repeat (first
    | refine wpAny_loadPart_at o ?_
    | (refine wpAny_isSubtype_exc o ?_; rw [own])
    | refine wpAny_staticBase_exc o ?_
    | refine wpAny_madeBy_exc o ?_
    | simp only [Bool.false_eq_true, if_false, bne_self_eq_false]
    | wp_step)
  exact k
end
section
variable {prog : Program} {w : World} {A : Around} {E : Value → Shared → Prop} {R : Result → Shared → Prop} {h : Heap} {g : Array GenState} {d : Drawn} {t : Nat} {os : OsState}
variable {nm q : Str} {C N : Addr} {bs bm : List Value} {hdct : Bool} {sn : List Str} {sub : List Value} {ab : Bool} {col : Option Bool} {dd : Option Addr} {k0 k1 k2 k3 k5 : Option Value} {nB newId iB initId : String}
/-- the new object, its args aside -/
abbrev bare (C t : Addr) : Obj := { cls := .ref C, data := .fields #[.ref t, .none, .none, .none, .bool false, .none] }
theorem new_made (Y : NewBy bm nB newId) {rest : List Value} (o : h.get? C = some (excClassObj nm q C N bs bm hdct sn sub ab col dd k0 k1 k2 k3 k5 newId))
    (k : R (.ok (.ret (.ref (h.objs.size + 1)))) ⟨(h.push (PySem.W.kdv_tup rest)).push (bare C h.objs.size), g, d, t, os⟩) (few : rest.length ≤ sizeLine) :
    codeAny (model prog w) A (.builtin newId ⟨.ref C :: rest, []⟩) R ⟨h, g, d, t, os⟩ := by
  obtain ⟨⟨i, l, F⟩, yb, ya, yn⟩ := Y
  have e1 := F.ends
  have m1 : (Value.ref C :: bm).contains (.type nB) = true := by
    rw [List.contains_cons, yb]
    exact Bool.or_true _
  have m2 : (Value.ref C :: bm).contains (.type "AttributeError") = false := by
    rw [List.contains_cons, ya]
    rfl
  have m3 : (Value.ref C :: bm).contains (.type "NameError") = false := by
    rw [List.contains_cons, yn]
    rfl
  refine codeAny_builtinAt F.entry ?_
  unfold Builtin.«BaseException.__new__»
  refine PySem.wpAt_bind ?_
  show PySem.wpAt _ _ _ (stack >>= _) _ _ _
  refine PySem.wpAt_bind (PySem.wpAt_stack fun p1 p2 => PySem.wpAt_of_wpAny ?_)
  wp_walk
  refine PySem.wpAt_of_wpAny ?_
  rw [F.owner]
  repeat (first
    | with_reducible refine wpAny_madeHere_exc F.canon o ?_
    | with_reducible refine wpAny_loadPart_at o ?_
    | (with_reducible refine wpAny_isSubtype_exc o ?_; first | rw [m1] | rw [m2] | rw [m3])
    | wp_step)
  show R _ _
  rw [Heap.size_push]
  exact k
theorem type_made (Y : NewBy bm nB newId) {rest : List Value} {fI : Addr} {Q : Fin → Shared → Prop} (o : h.get? C = some (excClassObj nm q C N bs bm hdct sn sub ab col dd k0 k1 k2 k3 k5 newId))
    (hi : PySem.W.Looks (model prog w) h (typeLookup (.ref C) "__init__") (some (.ref fI))) (hb : ∀ x, PySem.W.Looks (model prog w) h (bindSpecial (.ref fI) x) (.ref fI, [x])) (few : rest.length ≤ sizeLine)
    (k : codeAny (model prog w) A (.call (.ref fI) ⟨.ref (h.objs.size + 1) :: rest, []⟩) (fun r s' => match r with | .ok (.ret v) => v = .none ∧ Q (.done (.ret (.ref (h.objs.size + 1)))) s' | .ok _ => False | .error e => E e s')
      ⟨(h.push (PySem.W.kdv_tup rest)).push (bare C h.objs.size), g, d, t, os⟩) :
    wpAny (model prog w) A (Builtin.«type.__call__» ⟨.ref C :: rest, []⟩) Q E ⟨h, g, d, t, os⟩ := by
  obtain ⟨i, l, F⟩ := Y.f
  repeat (first
    | with_reducible refine wpAny_loadPart_at o ?_
    | with_reducible refine wpAny_madeBy_exc o ?_
    | wp_step)
  refine codeAny_call_builtin_code (Code.quiet_builtin _ F.quiet) (new_checked Y o ?_)
  refine new_made Y o ?_ few
  show wpAny _ _ _ _ _ _
  have up : ∀ b u, h.get? b = some u → ((h.push (PySem.W.kdv_tup rest)).push (bare C h.objs.size)).get? b = some u := fun b u e => Heap.get?_push_of_some _ (Heap.get?_push_of_some _ e)
  have o2 := up _ _ o
  have at2 : ((h.push (PySem.W.kdv_tup rest)).push (bare C h.objs.size)).get? (h.objs.size + 1) = some (bare C h.objs.size) := by heap_get
  have self : (Value.ref C :: bm).contains (.ref C) = true := by simp
  have i2 := hi.keeps up
  have b2 := (hb (.ref (h.objs.size + 1))).keeps up
  unfold isInstance
  repeat (first
    | with_reducible refine wpAny_loadPart_at at2 ?_
    | (with_reducible refine wpAny_isSubtype_exc o2 ?_; rw [self])
    | wp_step)
  show wpAny _ _ (typeLookup (.ref C) _) _ _ _
  refine i2.at ?_
  refine wpAny_holding (wpAny_bind (b2.at ?_))
  refine wpAny_bind (wpAny_call (codeAny_mono k fun r s2 z => ?_))
  rcases r with e | (v | _ | _ | _)
  all_goals first
    | exact z
    | exact z.elim
    | skip
  obtain ⟨rfl, z⟩ := z
  first
    | exact wpAny_pure (wpAny_pure z)
    | (wp_walk; done)
    | (wp_walk; exact z)
theorem call_made (Y : NewBy bm nB newId) {rest : List Value} {fI : Addr} (o : h.get? C = some (excClassObj nm q C N bs bm hdct sn sub ab col dd k0 k1 k2 k3 k5 newId))
    (hi : PySem.W.Looks (model prog w) h (typeLookup (.ref C) "__init__") (some (.ref fI))) (hb : ∀ x, PySem.W.Looks (model prog w) h (bindSpecial (.ref fI) x) (.ref fI, [x])) (few : rest.length ≤ sizeLine)
    (k : codeAny (model prog w) (A.under (.builtin "type.__call__" ⟨.ref C :: rest, []⟩)) (.call (.ref fI) ⟨.ref (h.objs.size + 1) :: rest, []⟩) (PySem.W.InitBack (h.objs.size + 1) R)
      ⟨(h.push (PySem.W.kdv_tup rest)).push (bare C h.objs.size), g, d, t, os⟩) :
    codeAny (model prog w) A (.call (.ref C) ⟨rest, []⟩) R ⟨h, g, d, t, os⟩ := by
  have t1 := tc_lookup
  have t2 := tc_bind (.ref C)
  have ty : (⟨h, g, d, t, os⟩ : Shared).TypeIs (.ref C) "type" := ⟨_, o, rfl⟩
  refine codeAny_of_tree ?_
  show wpAny _ _ (callAny (.ref C) _) _ _ _
  repeat (any_goals (first
    | assumption
    | with_reducible refine wpAny_loadPart_at o ?_
    | wp_step))
  refine ⟨rfl, ?_⟩
  refine codeAny_call_builtin_at (Code.quiet_builtin _ (by decide +kernel)) entry_typeCall (wpAny_check_type_call_sub o (type_made Y o hi hb few ?_))
  refine codeAny_mono k fun r s2 z => ?_
  rcases r with e | (v | _ | _ | _)
  all_goals exact z
end

/-! ### the builtin __init__ that an own one calls -/
structure InitBy (bm : List Value) (iB initId : String) : Prop where
  c : ∃ n, ExcClass iB n initId
  b : bm.contains (.type iB) = true
section
variable {prog : Program} {w : World} {A : Around} {E : Value → Shared → Prop} {R : Result → Shared → Prop} {h : Heap} {g : Array GenState} {d : Drawn} {t : Nat} {os : OsState}
variable {nm q : Str} {C N : Addr} {bs bm : List Value} {hdct : Bool} {sn : List Str} {sub : List Value} {ab : Bool} {col : Option Bool} {dd : Option Addr} {k0 k1 k2 k3 k5 : Option Value} {newId iB initId : String}
theorem init_checked {M : Model} (Y : InitBy bm iB initId) {e : Addr} {oe : Obj} {rest : List Value} {Q : Unit → Shared → Prop} (o : h.get? C = some (excClassObj nm q C N bs bm hdct sn sub ab col dd k0 k1 k2 k3 k5 newId)) (he : h.get? e = some oe) (hc : oe.cls = .ref C)
    (k : Q () ⟨h, g, d, t, os⟩) : wpAny M A (checkBuiltinCall initId ⟨.ref e :: rest, []⟩) Q E ⟨h, g, d, t, os⟩ := by
  obtain ⟨⟨n, F⟩, yb⟩ := Y
  have own : (Value.ref C :: bm).contains (.type iB) = true := by
    rw [List.contains_cons, yb]
    exact Bool.or_true _
  have star := F.notStar
  simp only [F.initSig, F.initSplit, F.initKind, checkBuiltinCall]
  repeat (first
    | (with_reducible refine wpAny_loadPart_at he ?_; rw [hc])
    | with_reducible refine wpAny_loadPart_at o ?_
    | (with_reducible refine wpAny_isSubtype_exc o ?_; rw [own])
    | wp_step)
  refine wpAny_onRaise ?_
  rw [show ∀ (x y : String) (n : Nat), Bind.check ⟨.positional, "*", iB, .self, [⟨"args", .varPos, false⟩]⟩ x y n (List.map (fun z => z.fst) ({ pos := Value.ref e :: rest } : Args).kw) = pure () from
    fun x y n => check_star_args _ _ _ _ _ _]
  exact wpAny_pure k
theorem init_done (Y : InitBy bm iB initId) {e t0 : Addr} {rest : List Value} (o : h.get? C = some (excClassObj nm q C N bs bm hdct sn sub ab col dd k0 k1 k2 k3 k5 newId)) (he : h.get? e = some (bare C t0)) (few : rest.length ≤ sizeLine)
    (k : ∀ h2 t1, (∀ b u, b ≠ e → h.get? b = some u → h2.get? b = some u) → h2.get? e = some (bare C t1) → R (.ok (.ret .none)) ⟨h2, g, d, t, os⟩) :
    codeAny (model prog w) A (.call (.builtin initId) ⟨.ref e :: rest, []⟩) R ⟨h, g, d, t, os⟩ := by
  obtain ⟨n, F⟩ := Y.c
  refine codeAny_call_builtin F.init.plain F.initEntry (init_checked Y o he rfl ?_)
  wp_walk
  refine k _ h.objs.size (fun b u hb hu => ?_) ?_
  · rw [Heap.get?_update_other _ _ (Ne.symm hb)]
    exact Heap.get?_push_of_some _ hu
  · rw [Heap.get?_update_self _ (Heap.get?_push_of_some _ he) rfl]
    rfl
end
/-! ### an own class, as the written part tells it -/
structure OwnC (K : PySem.W.Frag) (C : Addr) (B newId initId : String) (bm : List Value) : Prop where
  cls : ∃ nm q N bs sn sub ab col dd k0 k1 k2 k3 k5, K.lookup C = some (excClassObj nm q C N bs bm true sn sub ab col dd k0 k1 k2 k3 k5 newId)
  new : ∃ nB, NewBy bm nB newId
  ini : InitBy bm B initId
  sto : ∃ S, StoreFacts S bm "object.__setattr__" "object"
  sa : PySem.W.findIn K (.ref C) "__setattr__" = some (some (.builtin "object.__setattr__"))
  tl : PySem.W.excTail bm bm = true
  ob : bm.contains (.type "object") = true
  exC : PySem.W.subIn K (.ref C) (.type "BaseException") = some true
  tyC : PySem.W.typeIn K (.ref C) = some (.type "type")
  kC : PySem.W.keepIn K (.ref C) = true
section
variable {X : Cx} {pins : List (Addr × Obj)} {σ : L2.St} {H : Hp} {s : Shared} {a C dx : Addr} {f : Str} {y : V} {u : Value} {fs : List (Str × V)} {A : Around} {B newId initId : String} {bm : List Value}
/-- B.__init__(self, ..) tells nothing -/
theorem own_init {us : List Value} {E : Value → Shared → Prop} {Q : Value → Shared → Prop} (T : OwnC X.K C B newId initId bm) (I : Inv X pins σ H s) (e : H a = some (exo a C none)) (few : us.length ≤ sizeLine) (k : ∀ s', Inv X pins σ H s' → Q .none s') :
    wpAny (model X.prog X.w) A (call (.builtin initId) (.ref a :: us)) Q E s := by
  obtain ⟨nm, q, N, bs, sn, sub, ab, col, dd, k0, k1, k2, k3, k5, o⟩ := T.cls
  obtain ⟨t1, at1⟩ := exo_at I.hok e
  obtain ⟨hp, g, d, t, os⟩ := s
  refine wpAny_call (init_done T.ini (I.kIn _ _ o) at1 few fun h2 t2 stay at2 => ?_)
  have J := I.write (t' := t) (x := a) (e := a) (o := exo a C none) (by rw [e]; exact True.intro) (.inl rfl) stay ⟨_, at2⟩ (exo_ok at2)
  have same : upd H a (exo a C none) = H := funext fun b => by
    by_cases hb : b = a
    · subst hb
      rw [upd_same, e]
    · rw [upd_ne hb]
  rw [same] at J
  exact k _ J
end
def tOwnI (K : PySem.W.Frag) (B newId initId : String) (bm : List Value) (ta : TA) : TE := fun σ H Q => ta σ H fun vs H1 => ∃ (a C : Addr) (ws : List V), vs = .ref a :: ws ∧ ws.length ≤ 1000 ∧ OwnC K C B newId initId bm ∧ H1 a = some (exo a C none) ∧ Q .non H1
section
variable {X : Cx} {o e : Expr} {es : List Expr} {to te : TE} {ta : TA} {f : Str} {p p' p1 p2 pos : Pos} {B newId initId : String} {bm : List Value}
/-- B.__init__(self, ..), B builtin -/
theorem pe_ownInit {x : Str} {pl : Sem Bool} (hg : Gl X x) (hm : X.mg x = none) (hb : bootBuiltins x = some (.type B)) (ty : typeOf (.type B) = pure (.type "type")) (st : Manifest.isStub B = false)
    (vV : PySem.W.findCls X.K (.type B) (.type "type") "__init__" = some (.val (.builtin initId))) (kb : PySem.W.handedIn (.builtin initId) = true) (ha : PA X (e :: es) ta) (n1 : x ≠ "__name__" := by decide) (n2 : (x == ("__debug__" : Str)) = false := by decide)
    (hc : eval (.Call (.Attribute (.Name x p1) "__init__" p2) (e :: es) [] pos) X.env = (do
      let ov ← eval (.Name x p1) X.env
      standAt p2.atName
      let (f, first) ← holding [ov] (getMethod ov "__init__" pl)
      callWith pos f first (backTo pos (starEach (e :: es) X.env)) (backToKw pos (keywordEach [] X.env))) := by rfl)
    (he : starEach (e :: es) X.env = (false, eval e X.env) :: starEach es X.env := by rfl) (hpl : (backTo pos (starEach es X.env)).any (·.1) = false := by rfl) :
    PE X (.Call (.Attribute (.Name x p1) "__init__" p2) (e :: es) [] pos) (tOwnI X.K B newId initId bm ta) := by
  refine ⟨fun pins s σ H Q I h => ?_⟩
  refine PySem.W.methodCall_KW (ld_blt I hg hm hb ?_ n1 n2) hc
  obtain ⟨m, fr⟩ := I.fr
  refine PySem.W.method_type fr I.ok.mod.kin ty st vV kb ?_
  show wpAny _ _ (callWith pos (Value.builtin initId) [] (backTo pos (starEach (e :: es) X.env)) []) _ _ _
  refine PyProof.Rows.callWith_method1 (thn (ha.run pos pins _ σ H _ (I.tok _) h) fun us s1 ⟨vs, H1, I1, r1, a, C, ws, ev, few, T, ea, k⟩ => ?_) he hpl
  subst ev
  cases r1 with
  | @cons _ u0 _ ur ra rw' =>
    obtain rfl : u0 = Value.ref a := ra
    have fit : ur.length ≤ sizeLine := by
      rw [← Paired.length rw', sizeLine_eq]
      omega
    exact own_init T I1 ea fit fun s2 J => ⟨.non, H1, J, rfl, k⟩
/-- C(e, ..) as a value: a new exception -/
def tOwnV (C : Addr) (sp : Sp) (ta : TA) : TE := fun σ H Q => ta σ H fun vs H1 => vs.length ≤ 1000 ∧ ∀ a, H1 a = none → sp (.ref a :: vs) (upd H1 a (exo a C none)) (fun v H2 => v = .non ∧ Q (.ref a) H2) (fun _ _ _ => False)
theorem own_call {CX : CXT} {C fI : Addr} {k : Nat} {fd : FuncData} {ps : List Str} {sp : Sp} (T : OwnC X.K C B newId initId bm) (iC : PySem.W.findIn X.K (.ref C) "__init__" = some (some (.ref fI))) (tI : PySem.W.typeIn X.K (.ref fI) = some (.type "function"))
    (F1 : FnOk X.prog X.w X.K X.mg X.base CX k fI fd ps sp) (hr : Room (k + 1) X.A) (hb : Binds X.K fd ps []) (hx : Passes CX X (fun _ _ _ => False)) {pins : List (Addr × Obj)} {σ : L2.St} {H : Hp} {s : Shared} {Q : VK} {us : List Value} {vs : List V}
    (I : Inv X pins σ H s) (r : Vals vs us) (few : vs.length ≤ 1000) (h : ∀ a, H a = none → sp (.ref a :: vs) (upd H a (exo a C none)) (fun v H2 => v = .non ∧ Q (.ref a) H2) (fun _ _ _ => False)) :
    wpAny (model X.prog X.w) X.A (call (.ref C) us) (EP X pins σ Q) X.xe s := by
  obtain ⟨nm, q, N, bs, sn, sub, ab, col, dd, k0, k1, k2, k3, k5, o⟩ := T.cls
  obtain ⟨nB, Y⟩ := T.new
  obtain ⟨hp, g, dr, tk, os⟩ := s
  have lt : hp.objs.size ≤ hp.objs.size + 1 := Nat.le_succ _
  have no : H (hp.objs.size + 1) = none := I.hok.fresh lt
  have hq := h (hp.objs.size + 1) no
  have up : ∀ b u, hp.get? b = some u → ((hp.push (PySem.W.kdv_tup us)).push (bare C hp.objs.size)).get? b = some u := fun b u e => Heap.get?_push_of_some _ (Heap.get?_push_of_some _ e)
  have at2 : ((hp.push (PySem.W.kdv_tup us)).push (bare C hp.objs.size)).get? (hp.objs.size + 1) = some (bare C hp.objs.size) := by heap_get
  have I2 : Inv X pins σ (upd H (hp.objs.size + 1) (exo (hp.objs.size + 1) C none)) ⟨(hp.push (PySem.W.kdv_tup us)).push (bare C hp.objs.size), g, dr, tk, os⟩ :=
    I.laid (t' := tk) (a := hp.objs.size + 1) (o := exo (hp.objs.size + 1) C none) (h' := (hp.push (PySem.W.kdv_tup us)).push (bare C hp.objs.size)) up lt (exo_ok at2)
  have r2 : Vals (V.ref (hp.objs.size + 1) :: vs) (Value.ref (hp.objs.size + 1) :: us) := .cons rfl r
  have hl : (Value.ref (hp.objs.size + 1) :: us).length = ps.length := by
    rw [← r2.length]
    exact F1.len _ _ _ _ hq
  have fit : us.length ≤ sizeLine := by
    rw [← Paired.length r, sizeLine_eq]
    omega
  have hbd := hb ⟨(hp.push (PySem.W.kdv_tup us)).push (bare C hp.objs.size), g, dr, tk, os⟩ (Value.ref (hp.objs.size + 1) :: us) I2.kIn (by rw [List.append_nil]; exact hl)
  rw [List.append_nil] at hbd
  refine wpAny_call (call_made Y (I.kIn _ _ o) (PySem.W.looks_findIn I.kIn iC) (fun x => PySem.W.bind_fn I.kIn x tI) fit
    (codeAny_mono (F1.run _ X.stack _ _ ⟨Value.ref (hp.objs.size + 1) :: us, []⟩ (Value.ref (hp.objs.size + 1) :: us) _ _ (fun _ _ _ => False) (hr.make C us []) (I2.env0.make C us []) hbd r2 hq) fun r s2 z => ?_))
  cases r with
  | error er => exact hx pins σ _ _ er s2 I2 z
  | ok fl =>
    cases fl with
    | ret u =>
      obtain ⟨v, H2, J, rv, ev, k⟩ := I2.after z
      subst ev
      exact ⟨rv, .ref (hp.objs.size + 1), H2, J, rfl, k⟩
    | next => exact False.elim z
    | brk => exact False.elim z
    | cont => exact False.elim z
theorem pe_own {CX : CXT} {x : Str} {C fI : Addr} {k : Nat} {fd : FuncData} {ps : List Str} {sp : Sp} (T : OwnC X.K C B newId initId bm) (iC : PySem.W.findIn X.K (.ref C) "__init__" = some (some (.ref fI))) (tI : PySem.W.typeIn X.K (.ref fI) = some (.type "function"))
    (F1 : FnOk X.prog X.w X.K X.mg X.base CX k fI fd ps sp) (hr : Room (k + 1) X.A) (hb : Binds X.K fd ps []) (hx : Passes CX X (fun _ _ _ => False)) (hg : Gl X x) (hm : X.mg x = some (.ref C)) (ha : PA X (e :: es) ta)
    (hdb : (x == ("__debug__" : Str)) = false := by decide) (he : starEach (e :: es) X.env = (false, eval e X.env) :: starEach es X.env := by rfl) (hpl : (backTo pos (starEach es X.env)).any (·.1) = false := by rfl) :
    PE X (.Call (.Name x p) (e :: es) [] pos) (tOwnV C sp ta) := by
  refine ⟨fun pins s σ H Q I h => ?_⟩
  refine wpAny_Call_Name_kw (ld_glob I hg hm ?_ hdb)
  refine PySem.W.callWith_K (h₀ := X.base) I.ok.mod.kin T.kC (thn (ha.run pos pins s σ H _ I h) fun us s1 ⟨vs, H1, I1, r1, hz, q1⟩ => ⟨I1.kIn, ?_⟩) he hpl
  exact own_call T iC tI F1 hr hb hx I1 r1 hz q1
theorem pe_own0 {CX : CXT} {x : Str} {C fI : Addr} {k : Nat} {fd : FuncData} {ps : List Str} {sp : Sp} (T : OwnC X.K C B newId initId bm) (iC : PySem.W.findIn X.K (.ref C) "__init__" = some (some (.ref fI))) (tI : PySem.W.typeIn X.K (.ref fI) = some (.type "function"))
    (F1 : FnOk X.prog X.w X.K X.mg X.base CX k fI fd ps sp) (hr : Room (k + 1) X.A) (hb : Binds X.K fd ps []) (hx : Passes CX X (fun _ _ _ => False)) (hg : Gl X x) (hm : X.mg x = some (.ref C)) (hdb : (x == ("__debug__" : Str)) = false := by decide) :
    PE X (.Call (.Name x p) [] [] pos) (tOwnV C sp tNil) := by
  refine ⟨fun pins s σ H Q I h => ?_⟩
  refine wpAny_Call_Name_kw (ld_glob I hg hm ?_ hdb)
  exact PySem.W.callWith_K0 I.kIn T.kC (own_call (us := []) T iC tI F1 hr hb hx I .nil h.1 h.2)
end

/-! ### self.f = e on such -/
section
open PySem.Builtin PySem.Builtin.ObjectAttr
variable {prog : Program} {w : World} {A : Around} {R : Result → Shared → Prop} {hp : Heap} {g : Array GenState} {d : Drawn} {t : Nat} {os : OsState} {K : PySem.W.Frag} {C x dx : Addr} {B newId initId : String} {bm : List Value} {name : Str} {tk : Tok} {v : Value} {fv : Array Value}
theorem OwnC.clsIn (T : OwnC K C B newId initId bm) : ∃ cd : ClassData, PySem.W.clsIn K C = some cd ∧ cd.mro = .ref C :: bm ∧ cd.hasDict = true := by
  obtain ⟨nm, q, N, bs, sn, sub, ab, col, dd, k0, k1, k2, k3, k5, o⟩ := T.cls
  refine ⟨{ name := nm, bases := bs, mro := .ref C :: bm, ns := N, qualname := q, hasDict := true, slotNames := sn, subclasses := sub, abstract := ab, collection := col, hasDel := false }, ?_, rfl, rfl⟩
  unfold PySem.W.clsIn
  rw [o] <;> rfl
theorem OwnC.over (T : OwnC K C B newId initId bm) : PySem.W.excOver K C bm = true := by
  obtain ⟨cd, hc, hm, _⟩ := T.clsIn
  unfold PySem.W.excOver
  rw [hc]
  show (match cd.mro with | .ref C' :: l => C' == C && PySem.W.excTail bm l | _ => false) = true
  rw [hm]
  show (C == C && PySem.W.excTail bm bm) = true
  rw [T.tl, Bool.and_true]
  exact beq_self_eq_true C
theorem taker_none (h : PySem.W.findIn K (.ref C) name = some none) : PySem.W.takerIn K C name = some none := by
  unfold PySem.W.takerIn
  rw [h]
  rfl
theorem own_sa0 (T : OwnC K C B newId initId bm) (X : K.In hp) (hx : hp.get? x = some { cls := .ref C, data := .fields fv }) (no : PySem.W.findIn K (.ref C) name = some none)
    (k : ∀ h2 t2 dx, (∀ b u, b ≠ x → hp.get? b = some u → h2.get? b = some u) → hp.objs.size ≤ dx → dx ≠ x → h2.get? x = some { cls := .ref C, dict := some dx, data := .fields fv } →
      h2.Ns1 dx (fun y => if y = name then some v else none) → R (.ok (.ret .none)) ⟨h2, g, d, t2, os⟩) :
    codeAny (model prog w) A (.call (.builtin "object.__setattr__") ⟨[.ref x, .str name tk, v], []⟩) R ⟨hp, g, d, t, os⟩ := by
  obtain ⟨S, SF⟩ := T.sto
  obtain ⟨cd, hc, hm, hh⟩ := T.clsIn
  have far : x ≠ hp.objs.size := Nat.ne_of_lt (Heap.lt_size hx)
  have lk : PySem.W.Looks (model prog w) hp (classData C) cd := PySem.W.looks_clsIn X hc
  refine PySem.W.osa_openX (s := ⟨hp, g, d, t, os⟩) (ox := { cls := .ref C, data := .fields fv }) (od := none) SF X ⟨hx, rfl, rfl, trivial⟩ T.over (taker_none no) fun b => ?_
  show wpAny _ _ (storeInOwnDict (.ref x) (.ref C) (.str name tk) name v b) _ _ _
  obtain ⟨c1, c2, c3, c4, c5, hd, c7, c8, c9, c10, c11⟩ := cd
  dsimp only at hh
  subst hh
  unfold storeInOwnDict ownDictForStores
  repeat (first
    | with_reducible refine PySem.HandSPX.store_in_new ?_ ?_
    | with_reducible refine wpAny_loadPart_at hx ?_
    | with_reducible refine lk.at ?_
    | wp_step)
  · exact ⟨_, #[], _, (Heap.get?_update_ne _ _ _ _ far.symm).trans (Heap.get?_push_at rfl rfl), rfl, fun e he => absurd he (by simp), fun _ => rfl⟩
  · intro h2 t2 hn hs
    have hx1 : (hp.push { cls := .type "dict", data := .dict #[] }).get? x = some { cls := .ref C, data := .fields fv } := Heap.get?_push_of_some _ hx
    refine k h2 t2 hp.objs.size (fun b u hb hu => ?_) (Nat.le_refl _) far.symm ?_ hn
    · exact (hs.2 b (Nat.ne_of_lt (Heap.lt_size hu))).trans ((Heap.get?_update_ne _ _ _ _ hb).trans (Heap.get?_push_of_some _ hu))
    · exact (hs.2 x far).trans (Heap.get?_update_self _ hx1 rfl)
theorem own_sa1 {m0 : Str → Option Value} {nl : List Str} (T : OwnC K C B newId initId bm) (X : K.In hp) (hx : hp.get? x = some { cls := .ref C, dict := some dx, data := .fields fv }) (hns : hp.Ns1 dx m0) (hw : Within m0 nl) (hz : nl.length ≤ 1000)
    (no : PySem.W.findIn K (.ref C) name = some none)
    (k : ∀ h2 t2, (∀ b u, b ≠ dx → hp.get? b = some u → h2.get? b = some u) → h2.Ns1 dx (fun y => if y = name then some v else m0 y) → R (.ok (.ret .none)) ⟨h2, g, d, t2, os⟩) :
    codeAny (model prog w) A (.call (.builtin "object.__setattr__") ⟨[.ref x, .str name tk, v], []⟩) R ⟨hp, g, d, t, os⟩ := by
  obtain ⟨S, SF⟩ := T.sto
  obtain ⟨cd, hc, hm, hh⟩ := T.clsIn
  obtain ⟨oD, _, _, hoD, _, _⟩ := hns.count hw
  have lk : PySem.W.Looks (model prog w) hp (classData C) cd := PySem.W.looks_clsIn X hc
  refine PySem.W.osa_openX (s := ⟨hp, g, d, t, os⟩) (ox := { cls := .ref C, dict := some dx, data := .fields fv }) (od := some oD) SF X ⟨hx, rfl, rfl, hoD⟩ T.over (taker_none no) fun b => ?_
  show wpAny _ _ (storeInOwnDict (.ref x) (.ref C) (.str name tk) name v b) _ _ _
  obtain ⟨c1, c2, c3, c4, c5, hd, c7, c8, c9, c10, c11⟩ := cd
  dsimp only at hh
  subst hh
  unfold storeInOwnDict ownDictForStores
  repeat (first
    | with_reducible refine PySem.OEX.store_in_old hns hw hz ?_
    | with_reducible refine wpAny_loadPart_at hx ?_
    | with_reducible refine lk.at ?_
    | wp_step)
  intro h2 t2 hn hs
  exact k h2 t2 (fun b u hb hu => (hs.2 b hb).trans hu) hn
end
section
variable {X : Cx} {pins : List (Addr × Obj)} {σ : L2.St} {H : Hp} {s : Shared} {a C dx : Addr} {f : Str} {y : V} {u : Value} {fs : List (Str × V)} {Q : Unit → Shared → Prop} {E : Value → Shared → Prop} {A : Around} {B newId initId : String} {bm : List Value}
theorem own_st0 (T : OwnC X.K C B newId initId bm) (I : Inv X pins σ H s) (e : H a = some (exo a C none)) (no : PySem.W.findIn X.K (.ref C) f = some none) (ry : RelV y u)
    (k : ∀ dx s', H dx = none → dx ≠ a → Inv X pins σ (upd (upd H dx (exd dx [(f, y)])) a (exo a C (some dx))) s' → Q () s') : wpAny (model X.prog X.w) A (setAttr (.ref a) f u) Q E s := by
  obtain ⟨t1, ho⟩ := exo_at I.hok e
  obtain ⟨hp, g, d, t, os⟩ := s
  refine PySem.W.set_plain I.kIn (ox := { cls := .ref C, dict := none, data := .fields #[.ref t1, .none, .none, .none, .bool false, .none] }) (od := none) ⟨ho, rfl, rfl, trivial⟩ T.sa ?_
  refine own_sa0 T I.kIn ho no fun h2 t2 dx stay dn dne hx hn => ?_
  have nodx : H dx = none := I.hok.fresh dn
  have ndx : ∀ {b : Addr} {o : Obj}, hp.get? b = some o → b ≠ dx := fun {b o} z => Nat.ne_of_lt (Nat.lt_of_lt_of_le (Heap.lt_size z) dn)
  have na : ∀ {b : Addr}, H b = none → b ≠ a := fun {b} n z => by
    rw [z, e] at n
    cases n
  have un : Un X.fs [] H (upd (upd H dx (exd dx [(f, y)])) a (exo a C (some dx))) hp h2 := {
    keep := fun b o z n _ _ => stay b o (na n) z
    slot := fun b o z n _ _ => ⟨o.slots, stay b o (na n) z⟩
    free := fun b o z n _ => by
      rw [upd_ne (na n), upd_ne (ndx z)]
      exact n
    there := fun b o z _ => by
      by_cases hb : b = a
      · subst hb
        exact ⟨_, hx⟩
      · exact ⟨o, stay b o hb z⟩
    tups := fun b xs z => by
      rw [upd_ne (L2.at_ne e z exo_tup), upd_ne (ne_of_none z nodx)]
      exact z
    frzs := fun b o v z => by
      rw [upd_ne (L2.at_ne e z exo_frz), upd_ne (ne_of_none z nodx)]
      exact z
    tbls := fun b ps z => ⟨#[], by
      rw [upd_ne (L2.at_ne e z exo_tbl), upd_ne (ne_of_none z nodx), z]
      simp⟩ }
  refine k dx _ nodx dne (I.un (t' := t2) un fun b o z => ?_)
  by_cases hb : b = a
  · subst hb
    rw [upd_same] at z
    cases z
    exact exo_ok hx
  · rw [upd_ne hb] at z
    by_cases hd : b = dx
    · subst hd
      rw [upd_same] at z
      cases z
      exact exd_ok hn (relO_put (fs := []) ry fun g => True.intro)
    · rw [upd_ne hd] at z
      refine (I.hok b o z).stay (fun c v hc q => stay c v ?_ q) (fun c hc => ?_) fun c xs hc => ?_
      · rcases hc with hc | hc
        · subst hc
          exact hb
        · exact L2.at_ne e hc exo_own
      · rw [upd_ne (L2.at_ne e hc exo_own), upd_ne (ne_of_none hc nodx)]
        exact hc
      · rw [upd_ne (L2.at_ne e hc exo_tup), upd_ne (ne_of_none hc nodx)]
        exact hc
theorem own_st1 (T : OwnC X.K C B newId initId bm) (I : Inv X pins σ H s) (e : H a = some (exo a C (some dx))) (ed : H dx = some (exd dx fs)) (hl : fs.length ≤ 900) (no : PySem.W.findIn X.K (.ref C) f = some none) (ry : RelV y u)
    (k : ∀ s', Inv X pins σ (upd H dx (exd dx ((f, y) :: fs))) s' → Q () s') : wpAny (model X.prog X.w) A (setAttr (.ref a) f u) Q E s := by
  obtain ⟨t1, ho⟩ := exo_at I.hok e
  obtain ⟨mA, hns, rel⟩ := exd_at I.hok ed
  have hw := within_of rel
  obtain ⟨hp, g, d, t, os⟩ := s
  obtain ⟨oD, _, _, hoD, _, _⟩ := hns.count hw
  refine PySem.W.set_plain I.kIn (ox := { cls := .ref C, dict := some dx, data := .fields #[.ref t1, .none, .none, .none, .bool false, .none] }) (od := some oD) ⟨ho, rfl, rfl, hoD⟩ T.sa ?_
  refine own_sa1 T I.kIn ho hns hw (by rw [List.length_map]; omega) no fun h2 t2 stay hn => ?_
  have there : ∃ o, h2.get? dx = some o := by
    obtain ⟨o, _, _, z, _⟩ := id hn
    exact ⟨o, z⟩
  exact k _ (I.write (t' := t2) (x := dx) (e := dx) (o := exd dx ((f, y) :: fs)) (by rw [ed]; exact True.intro) (.inl rfl) stay there (exd_ok hn (relO_put ry rel)))
end
def tOwnS (K : PySem.W.Frag) (B newId initId : String) (bm : List Value) (f : Str) (to te : TE) : TS := fun D σ H => te σ H fun y H1 => to σ H1 fun x H2 => ∃ a C : Addr, x = .ref a ∧ OwnC K C B newId initId bm ∧ PySem.W.findIn K (.ref C) f = some none ∧
  ((H2 a = some (exo a C none) ∧ ∀ dx, H2 dx = none → dx ≠ a → D.nx σ (upd (upd H2 dx (exd dx [(f, y)])) a (exo a C (some dx)))) ∨
    ∃ (dx : Addr) (fs : List (Str × V)), H2 a = some (exo a C (some dx)) ∧ H2 dx = some (exd dx fs) ∧ fs.length ≤ 900 ∧ D.nx σ (upd H2 dx (exd dx ((f, y) :: fs))))
theorem ps_ownS {X : Cx} {o e : Expr} {to te : TE} {f : Str} {p' pos : Pos} {B newId initId : String} {bm : List Value} (ho : PE X o to) (he : PE X e te) (hs : swapsWith e (some (.Attribute o f p')) pos.line X.env = pure false := by rfl) :
    PS X (.Assign [.Attribute o f p'] e pos) (tOwnS X.K B newId initId bm f to te) := by
  refine ⟨fun pins s σ H D I h => ?_⟩
  refine plainObj_wpAny_Assign_Attribute (thn (he.run pins s σ H _ I h) fun v s1 ⟨y, H1, I1, r1, q1⟩ => thn (ho.run pins s1 σ H1 _ I1 q1) fun u s2 ⟨x, H2, I2, r2, a, C, ex, T, no, z⟩ => ?_) hs
  subst ex
  obtain rfl : u = Value.ref a := r2
  rcases z with ⟨ea, z⟩ | ⟨dx, fs, ea, ed, hl, z⟩
  · exact own_st0 T I2 ea no r1 fun dx s2 n ne J => ⟨σ, _, J, z dx n ne⟩
  · exact own_st1 T I2 ea ed hl no r1 fun s2 J => ⟨σ, _, J, z⟩

/-! ### isinstance of an exception that is held as a value -/
section
open PySem.W
variable {prog : Program} {w : World} {A : Around} {E : Value → Shared → Prop} {s : Shared} {K : Frag} {x D : Addr} {ox : Obj} {od : Option Obj}
theorem found_data {n : Str} {a g : Value} (hc : (clsIn K D).isSome = true) (h1 : findIn K (.ref D) n = some (some a)) (h2 : specialIn K a "__get__" = some (some g)) (h3 : takesIn K a = some true) :
    findObj K D od n = some (.bind g a) := by
  obtain ⟨cd, z⟩ := Option.isSome_iff_exists.mp hc
  unfold findObj
  rw [z, Option.bind_some, h1, Option.bind_some]
  simp [h2, h3]
theorem class_told {Q : Option Value → Shared → Prop} (T : ExcC K D) (X : K.In s.heap) (I : InstAt s.heap x ox D od) (k : Q (some (.ref D)) { s with toks := s.toks + 1 }) : wpAny (model prog w) A (getAttr? (.ref x) "__class__") Q E s := by
  have there : (clsIn K D).isSome = true := by
    obtain ⟨cd, z, _⟩ := any_some T.hd
    rw [z]
    rfl
  have fo : findObj K D od "__class__" = some (.bind (.builtin "getset_descriptor.__get__") (.builtin "object.__class__")) := found_data there T.ha T.hn T.ht
  obtain ⟨hp, g, d, t, os⟩ := s
  have l0 := I.type (M := model prog w)
  have l1 := looks_findIn (M := model prog w) X T.hg
  have l2 := looks_findIn (M := model prog w) X T.hk
  have l3 := looks_find (M := model prog w) X I fo
  have under : Looks (model prog w) hp (isInstance (.ref x) (.type "BaseException")) true := l0.andThen (looks_subIn X T.hs)
  have z0 : (false && onTheHeap (Value.builtin "BaseException.__getattribute__")) = false := rfl
  have z2 : (Value.builtin "BaseException.__getattribute__" == Value.builtin "object.__getattribute__") = false := by decide +kernel
  have z1 : (onTheHeap (Value.ref D) && Value.builtin "BaseException.__getattribute__" == Value.builtin "object.__getattribute__") = false := by
    rw [z2]
    rfl
  unfold getAttr?
  unfold getAttrBy?
  unfold getAttrBy
  refine wpAny_bind (wpAny_mkText (wpAny_bind (wpAny_attempt (wpAny_holding (wpAny_bind (l0.at (wpAny_bind (l1.at ?_))))))))
  show wpAny _ _ (if (onTheHeap (Value.ref D) && Value.builtin "BaseException.__getattribute__" == Value.builtin "object.__getattribute__") = true
    then _ else _) _ _ _
  rw [z1, if_neg Bool.false_ne_true]
  unfold getAttrByItsOwn
  unfold hookBefore
  refine wpAny_bind ?_
  rw [if_pos (show onTheHeap (Value.ref D) = true by rfl)]
  refine l2.at ?_
  refine wpAny_bind ?_
  refine wpAny_attempt (wpAny_holding ?_)
  unfold callGetattribute
  rw [z0, if_neg Bool.false_ne_true]
  unfold boundAndCalled
  rw [PySem.F.excAttr_ValueError.ga.bind (.ref x)]
  refine wpAny_bind ?_
  refine wpAny_pure ?_
  show wpAny (model prog w) _ (call (.builtin "BaseException.__getattribute__") [.ref x, .str "__class__" t]) _ _ _
  refine wpAny_call ?_
  refine codeAny_call_builtin PySem.F.excAttr_ValueError.ga.plain PySem.F.entry_bexc_ga ?_
  refine @check_slot (model prog w) _ _ ⟨hp, g, d, t + 1, os⟩ "BaseException.__getattribute__" "BaseException" "__getattribute__" (.ref x) [.str "__class__" t] [] _ (by decide +kernel) (by decide +kernel) under (PySem.F.args_bexc_ga (.ref x) (.str "__class__" t)) ?_
  unfold PySem.Builtin.«object.__getattribute__»
  refine wpAny_bind ?_
  refine wpAny_of_eq (a := ((Value.ref x : Value), [Value.str "__class__" t])) (by first | rfl | (simp only [PySem.Builtin.slotArgs]; done)) ?_
  refine wpAny_bind ?_
  refine wpAny_pure (wpAny_bind (l0.at (wpAny_bind (l3.at ?_))))
  show wpAny (model prog w) _ (holding [Value.builtin "object.__class__"] (call (.builtin "getset_descriptor.__get__") [.builtin "object.__class__", .ref x, .ref D]) >>= ret) _ _ _
  refine wpAny_bind ?_
  refine wpAny_holding (wpAny_call (class_get (s := ⟨hp, g, d, t + 1, os⟩) (ox := ox) (od := od) X I T.hm ?_))
  refine wpAny_pure ?_
  show wpAny (model prog w) _ (handedOut (.ref D)) _ _ _
  rw [handedOut_of (v := .ref D) rfl]
  first
    | exact wpAny_pure (wpAny_pure k)
    | exact wpAny_pure k
    | exact wpAny_pure (wpAny_bind (wpAny_pure (wpAny_pure k)))
theorem exo_kit (T : ExcC K D) : KitX K (.ref x) (.ref D) (fun h => InstAt h x ox D od) where
  ty := fun _ _ _ I => I.type
  it := fun M h X _ => by
    obtain ⟨cd, z, _⟩ := any_some T.hd
    unfold clsIn at z
    split at z
    · rename_i o
      intro _ _ _ s' k q
      unfold isType
      unfold loadHead
      exact wpAny_bind (wpAny_loadPart (k _ _ (X _ _ o)) (wpAny_pure q))
    · cases z
  ne := fun h tp _ _ _ _ X htp => by
    obtain ⟨cd, z, _⟩ := any_some T.hd
    refine Bool.eq_false_iff.mpr fun q => ?_
    have e : D = tp := Value.ref.inj (beq_iff_eq.mp q)
    subst e
    unfold clsIn at z
    split at z
    · rename_i o
      cases (X _ _ o).symm.trans htp
    · cases z
  ca := fun X I k => class_told T X I k
theorem kit_own {C C' : Addr} (T' : PySem.W.hasDictIn K C' = true) (ty : typeIn K (.ref C') = some (.type "type")) (ex : subIn K (.ref C) (.ref C') = some (decide (C = C'))) :
    kitOne K (.ref C) (.ref C') = some (decide (C = C')) := by
  unfold kitOne
  by_cases h : C = C'
  · subst h
    rw [if_pos (beq_self_eq_true _), decide_eq_true rfl]
  · rw [if_neg (fun z => h (Value.ref.inj (beq_iff_eq.mp z)))]
    unfold kitCls
    obtain ⟨cd, z, _⟩ := any_some T'
    have yes : ((clsIn K C').isSome && typeIn K (.ref C') == some (.type "type")) = true := by
      rw [z, ty]
      rfl
    show (if ((clsIn K C').isSome && typeIn K (.ref C') == some (.type "type")) = true then subIn K (.ref C) (.ref C') else none) = _
    rw [if_pos yes]
    exact ex
end
/-- isinstance(e, c), e an exception of an own class that is held as a value -/
def rIsO (K : PySem.W.Frag) : List V → Hp → VK → Prop := fun xs H Q => ∃ (a C : Addr) (d : Option Addr) (c : V) (cv : Value) (b : Bool), xs = [.ref a, c] ∧ ClsV c cv ∧ ExcC K C ∧ H a = some (exo a C d) ∧ (∀ dx, d = some dx → ∃ fs, H dx = some (exd dx fs)) ∧ PySem.W.kitOne K (.ref C) cv = some b ∧ Q (.bl b) H
theorem call_isO {X : Cx} : CallR X (.builtin "isinstance") (rIsO X.K) := by
  intro pins s σ H xs us Q I r h
  obtain ⟨a, C, d, c, cv, b, rfl, kc, T, ea, ed, e, q⟩ := h
  obtain ⟨u1, u2, rfl, r1, r2⟩ := vals2 r
  have e2 := kc.eq r2
  subst e2
  cases r1
  obtain ⟨t1, ho⟩ := exo_at I.hok ea
  have J : ∃ od, PySem.W.InstAt s.heap a { cls := .ref C, dict := d, data := .fields #[.ref t1, .none, .none, .none, .bool false, .none] } C od := by
    cases d with
    | none => exact ⟨none, ho, rfl, rfl, trivial⟩
    | some dx =>
      obtain ⟨fs, hd⟩ := ed dx rfl
      obtain ⟨mA, hns, rel⟩ := exd_at I.hok hd
      obtain ⟨oD, _, _, hoD, _, _⟩ := hns.count (within_of rel)
      exact ⟨some oD, ho, rfl, rfl, hoD⟩
  obtain ⟨od, J⟩ := J
  exact PySem.W.kia_one (exo_kit T) I.kIn J e (fun z => nomatch z) fun tk => ⟨.bl b, H, I.tok tk, rfl, q⟩
/-- e.f of such -/
def tOwnF (K : PySem.W.Frag) (f : Str) (te : TE) : TE := fun σ H Q => te σ H fun x H1 => ∃ (a C d : Addr) (fs : List (Str × V)) (v : V), x = .ref a ∧ XfC K C ∧ PySem.W.findIn K (.ref C) f = some none ∧ H1 a = some (exo a C (some d)) ∧ H1 d = some (exd d fs) ∧ fs.lookup f = some v ∧ Q v H1
theorem pe_ownF {X : Cx} {e : Expr} {te : TE} {pos : Pos} {n : Str} (he : PE X e te) (hb : attributeBase e n X.env (eval e X.env) = eval e X.env := by rfl) : PE X (.Attribute e n pos) (tOwnF X.K n te) := by
  refine ⟨fun pins s σ H Q I h => ?_⟩
  refine attr_of hb (thn (he.run pins s σ H _ I h) fun u s1 hh => ?_)
  obtain ⟨x, H1, I1, rx, a, C, d, fs, v, ex, T, no, ea, ed, l, q⟩ := hh
  subst ex
  obtain rfl : u = Value.ref a := rx
  obtain ⟨t1, ho⟩ := exo_at I1.hok ea
  obtain ⟨mA, hns, rel⟩ := exd_at I1.hok ed
  obtain ⟨od, hoD, hl⟩ := lookIn_ns hns
  obtain ⟨u, hu, ru⟩ := RelO.some_of (v := v) (o := mA n) (by rw [← l]; exact rel n)
  have J : PySem.W.InstAt s1.heap a { cls := .ref C, dict := some d, data := .fields #[.ref t1, .none, .none, .none, .bool false, .none] } C (some od) := ⟨ho, rfl, rfl, hoD⟩
  exact HandSPX.exc_get I1.kIn J T.ga T.gg T.exC (PySem.W.findObj_own T.hdC no rfl (by rw [hl, hu])) (handed_of ru) ⟨v, H1, I1.tok _, ru, q⟩

/-! ### the law's own def, run where the law is asked: nothing is being shown there -/
def RunAt (P : Program) (w : World) (K : PySem.W.Frag) (mg : Str → Option Value) (base : Heap) (f : Addr) (fd : FuncData) (ps : List Str) (sp : Sp) : Prop :=
  ∀ (s : Shared) (H : Hp) (us : List Value) (vs : List V) (Q : VK) (E : XK), Env0 P w K mg base callerA [] s H → BindsTo s fd ⟨us, []⟩ (ps.zip us) → Vals vs us → sp vs H Q E → codeAny (model P w) callerA (.call (.ref f) ⟨us, []⟩) (CR CX0 [] P w H s Q E) s
section
variable {P : Program} {w : World} {K : PySem.W.Frag} {mg : Str → Option Value} {base : Heap}
theorem run_at {x qual : Str} {st : Stmt} {f : Addr} {fd : FuncData} {N ps : List Str} {k : Nat} {sp : Sp} (F : Fun K x qual st f fd) (S : FnScope N ps (defScope st)) (room : Room (k + 1) callerA) (len : ∀ vs H Q E, sp vs H Q E → vs.length = ps.length)
    (body : ∀ (cdv : Value) (s : Shared) (H : Hp) (vs : List V) (Q : VK) (E : XK), Room k (callerA.deeper (envOfC qual (defScope st) s.heap.objs.size f cdv)) → sp vs H Q E →
      ∃ t, PSs (cxOf CX0 P w K mg base N qual (defScope st) f cdv callerA [] s H E).nox (defBody st) t ∧ t { nx := fun _ H' => Q .non H', rt := Q } (start N vs) H) : RunAt P w K mg base f fd ps sp := by
  obtain ⟨oc, od, kV, doc, pm, an, cdv, ct, osl, rfl, lk, hcd⟩ := F.ex
  intro s H us vs Q E e0 hb r hsp
  have few := len _ _ _ _ hsp
  have kin : K.In s.heap := e0.mod.kin.keeps fun b o z => (e0.bs b o z).1
  have lim : s.heap.NoLimit := e0.mod.nolimit.keeps fun b o z => (e0.bs b o z).1
  have kinds : ∀ z ∈ ps.zip us, (defScope st).names.lookup z.1 = some .local ∨ ((defScope st).names.lookup z.1 = some .cell ∧ ((cellsFrom (s.heap.objs.size + 1) (defScope st).names []).lookup z.1).isSome = true) := by
    rintro ⟨n, v⟩ hz
    rcases S.par n (List.of_mem_zip hz).1 with z | z
    · exact .inl z
    · exact .inr ⟨z, PySem.W.cellsFrom_some _ _ _ (.inl z)⟩
  refine codeAny_call_function room.depth (kin _ _ lk) rfl S.co S.gen rfl (PySem.W.codeRec_of kin hcd) (hb _ _ _ _ ?_)
  refine wpAny_newFunctionEnv_cells S.kind kinds fun env he s1 z => ?_
  subst he
  refine ⟨lim.keeps z.toInCall.keep, codeAny_func ?_⟩
  obtain ⟨t, ht, hq⟩ := body cdv s H vs Q E (room.deeper _) hsp
  have I : Inv (cxOf CX0 P w K mg base N qual (defScope st) f cdv callerA [] s H E) [] (start N vs) H s1 := inv_start S room.hd e0 few r z
  refine wpAny_mono (ht.nox.run [] s1 (start N vs) H _ I hq) (fun fl s2 hs => ?_) fun e s2 hs => hs
  cases fl with
  | ret u =>
    obtain ⟨v, σ2, H2, J, rv, q⟩ := hs
    exact ⟨v, H2, J.os, J.bare, J.base, J.hok, rv, q⟩
  | next =>
    obtain ⟨σ2, H2, J, q⟩ := hs
    exact ⟨.non, H2, J.os, J.bare, J.base, J.hok, rfl, q⟩
  | brk =>
    obtain ⟨_, _, _, q⟩ := hs
    exact q.elim
  | cont =>
    obtain ⟨_, _, _, q⟩ := hs
    exact q.elim
theorem law_at {mb : Str → Option Value} {fa p : Addr} {fd : FuncData} {x : Str} {sp : Sp} {s1 : Shared} {vs : List Value} {ns : List Int}
    (kin : K.In s1.heap) (hns : s1.heap.Ns mainGlobals mg) (hb : s1.heap.Ns builtinsNs mb) (hbb : ∀ y : Str, y ≠ "__name__" → mb y = bootBuiltins y) (hlim : s1.heap.NoLimit) (hg : s1.gens = #[])
    (hp : s1.heap.get? p = some { cls := .type "list", data := .seq vs.toArray }) (hi : IntsAre vs ns) (few : ns.length ≤ sizeLine)
    (F : ∀ base : Heap, K.In base → base.Ns mainGlobals mg → RunAt P w K mg base fa fd [x] sp) (binds : ∀ (s : Shared) (u : Value), BindsTo s fd ⟨[u], []⟩ [(x, u)])
    (hsp : ∀ H : Hp, Only H → SqL K H p (ns.map V.int) → sp [.ref p] H (fun v _ => v = .bl true) fun _ _ _ => False) :
    codeAny (model P w) callerA (.call (.ref fa) ⟨[.ref p], []⟩) (fun r s2 => r = .ok (.ret (.bool true)) ∧ OldK s1.heap s2.heap ∧ s2.os = s1.os ∧ AllBare s2.gens) s1 := by
  have rv := vals_ints hi
  have core : ∀ H : Hp, Only H → SqL K H p (ns.map V.int) → HOk P w H s1.heap → (∀ b, H b ≠ none → b = p) → (H p ≠ none → K.lookup p = none) →
      codeAny (model P w) callerA (.call (.ref fa) ⟨[.ref p], []⟩) (fun r s2 => r = .ok (.ret (.bool true)) ∧ OldK s1.heap s2.heap ∧ s2.os = s1.os ∧ AllBare s2.gens) s1 := by
    intro H only seq hok one hK
    have below : ∀ {b : Addr} {o : Obj}, s1.heap.get? b = some o → H b = none → (hidT s1.heap H).get? b = some o := fun e n => hidT_get e n
    have dicts : ∀ {b : Addr} {o : Obj} {es : Array DictEntry} {ep : Nat}, s1.heap.get? b = some o → o.data = .dict es ep → H b = none := by
      intro b o es ep e d
      cases q : H b with
      | none => rfl
      | some u =>
        obtain rfl : b = p := one b (by rw [q]; simp)
        rw [hp] at e
        cases e
        cases (show Data.seq vs.toArray _ = Data.dict es ep from d)
    have spaces : ∀ {b : Addr} {m : Str → Option Value}, s1.heap.Ns b m → (hidT s1.heap H).Ns b m := by
      rintro b m ⟨o, es, ep, e, d, r⟩
      exact ⟨o, es, ep, below e (dicts e d), d, r⟩
    have kin2 : K.In (hidT s1.heap H) := fun b o e => by
      refine below (kin b o e) ?_
      cases q : H b with
      | none => rfl
      | some u =>
        obtain rfl : b = p := one b (by rw [q]; simp)
        rw [hK (by rw [q]; simp)] at e
        cases e
    have mod : Mod K mg (hidT s1.heap H) := by
      obtain ⟨mc, c1, c2⟩ := hlim
      exact ⟨kin2, spaces hns, ⟨mb, spaces hb, hbb⟩, ⟨mc, spaces c1, c2⟩⟩
    have e0 : Env0 P w K mg (hidT s1.heap H) callerA [] s1 H :=
      ⟨rfl, mod, fun b o e => of_hidT e, Nat.le_of_eq (hidT_size _ _), trivial, fun b z => absurd (show b ∈ ([] : List Addr) from z) (by simp), hok, .of_eq hg⟩
    refine codeAny_mono (F _ kin2 (spaces hns) s1 H [.ref p] [.ref p] _ _ e0 (binds s1 (.ref p)) (.cons rfl .nil) (hsp H only seq)) fun r s2 h => ?_
    cases r with
    | error e => exact h.elim
    | ok fl =>
      cases fl with
      | next => exact h.elim
      | brk => exact h.elim
      | cont => exact h.elim
      | ret u =>
        obtain ⟨v, H2, os, bare, un, hok2, rel, q⟩ := h
        obtain rfl : v = .bl true := q
        obtain rfl : u = Value.bool true := rel
        refine ⟨rfl, OldK.of_keep fun b o e => ?_, os, bare⟩
        cases q : H b with
        | none => exact un.keep b o e q (fun z => absurd (show b ∈ ([] : List Addr) from z) (by simp)) (by simp)
        | some u =>
          rcases only b with z | ⟨ob, xs, z⟩
          · rw [q] at z
            cases z
          · obtain ⟨a1, _⟩ := hok b _ z
            obtain ⟨a2, _⟩ := hok2 b _ (un.frzs b ob _ z)
            rw [e] at a1
            cases a1
            exact a2
  cases hk : K.lookup p with
  | some o =>
    have e := kin p o hk
    rw [hp] at e
    cases e
    have lv := hi.length
    refine core (fun _ => none) (fun _ => .inl rfl) (.inr ⟨_, vs.toArray, _, hk, rfl, rfl, rfl, ?_, by simpa using rv⟩) (fun b u z => ?_) (fun b z => absurd rfl z) fun z => absurd rfl z
    · rw [List.size_toArray, lv]
      exact few
    · cases (show (none : Option HO) = some u from z)
  | none =>
    refine core (fun b => if b = p then some (.frz { cls := .type "list", data := .seq vs.toArray } (.lst (ns.map V.int))) else none) (fun b => ?_) (.inl (.inr ⟨{ cls := .type "list", data := .seq vs.toArray }, if_pos rfl⟩)) (fun b u z => ?_) (fun b z => ?_) fun _ => hk
    · by_cases hb : b = p
      · exact .inr ⟨_, _, if_pos hb⟩
      · exact .inl (if_neg hb)
    · by_cases hb : b = p
      · subst hb
        cases (if_pos rfl).symm.trans z
        refine ⟨hp, ?_, vs, _, rv, hp⟩
        rw [List.length_map]
        exact few
      · cases (if_neg hb).symm.trans z
    · by_cases hb : b = p
      · exact hb
      · exact absurd (if_neg hb) z
end
theorem walk_at {l : PySem.W.OpenLaw} {n : Nat} {q : Program} {loose : List Str} {XP : (Str → Option Value) → Heap → Prop} {YP : World → Heap → Prop} {d : DefRec} {K : Params → PySem.W.Frag} {sp : World → Sp} {x : Str}
    (hn : l.most = some n) (hn2 : n ≤ sizeLine) (hdf : d.params.defaults = []) (hY : ∀ (w : World) (h : Heap), YP w h → (K w.params).In h)
    (F : ∀ (w : World) (mg : Str → Option Value) (fa : Addr) (h : Heap), (K w.params).In h → h.Ns mainGlobals mg → mg d.name = some (.ref fa) →
      ∃ fd : FuncData, (∀ (s : Shared) (u : Value), BindsTo s fd ⟨[u], []⟩ [(x, u)]) ∧ ∀ base : Heap, (K w.params).In base → base.Ns mainGlobals mg → RunAt l.prog w (K w.params) mg base fa fd [x] (sp w))
    (hsp : ∀ (w : World) (H : Hp) (a : Addr) (ns : List Int), ns.length ≤ n → Only H → SqL (K w.params) H a (ns.map V.int) → sp w [.ref a] H (fun v _ => v = .bl true) fun _ _ _ => False) :
    PySem.W.WalkO q loose XP YP l.row.toRowW d [] (fun f vs => PySem.call f vs) := by
  refine Att.attach_call hn hdf fun w s0 s1 mg mb fa o pm cd doc a vs ns G Y ho hd hcd hmg hobj hints hlen hg => ?_
  obtain ⟨fd, hb, hF⟩ := F w mg fa _ (hY w _ Y) G.T.g hmg
  exact law_at (hY w _ Y) G.T.g G.T.b G.T.builtins G.T.nolimit hg hobj hints (Nat.le_trans hlen hn2) hF hb fun H only seq => hsp w H a ns hlen only seq

/-! ### repr of a list where nothing is being shown; None in an f-string -/
theorem call_reprD {X : Cx} (hg : X.A.guards = some []) (hu : X.A.units + 64 < cLine) : CallR X (.builtin "repr") (fun xs H Q => ∃ a d, xs = [.ref a] ∧ Dp X.K H (.ref a) d ∧ d.showable = true ∧ d.hasDict = false ∧ d.depth ≤ 60 ∧ d.shown.length ≤ sizeLine ∧ Q (.str d.shown) H) := by
  intro pins s σ H xs us Q I r h
  obtain ⟨a, d, rfl, hd, h1, h2, h3, h4, q⟩ := h
  obtain ⟨u, rfl, ru⟩ := vals1 r
  cases ru
  obtain ⟨as, rd⟩ := Dp.reads I d (.ref a) (.ref a) hd rfl
  exact repr_of_reads' (s := s) rd h1 (fun z => by rw [h2] at z; cases z) hg (by omega) (fun _ _ z => z) (fun h2 u tk k => ⟨.str d.shown, H, I.kept (t' := tk) k, ⟨_, rfl⟩, q⟩) h4
def fmtN (Q : VK) : VK := fun x H1 => (∃ y : Str, x = .str y ∧ y.length ≤ sizeLine ∧ Q (.str y) H1) ∨ (∃ i : Int, x = .int i ∧ i.natAbs.log2 < 1920 ∧ Q (.str (toString i)) H1) ∨ (x = .non ∧ Q (.str "None") H1)
def tFmtN (te : TE) : TE := fun σ H Q => te σ H (fmtN Q)
theorem pe_fmtN {X : Cx} {e : Expr} {te : TE} {pos : Pos} (he : PE X e te) : PE X (.FormattedValue e (-1) none pos) (tFmtN te) := by
  refine ⟨fun pins s σ H Q I h => ?_⟩
  refine wpAny_FormattedValue_plain (thn (he.run pins s σ H _ I h) fun v s1 z => ?_)
  obtain ⟨x, H1, I1, rx, q⟩ := z
  rcases q with ⟨y, rfl, hz, q⟩ | ⟨i, rfl, hz, q⟩ | ⟨rfl, q⟩
  · obtain ⟨t, rfl⟩ := rx
    exact wpAny_formatField_str ⟨.str y, H1, I1, ⟨t, rfl⟩, q⟩ ⟨.str y, H1, I1.tok _, ⟨_, rfl⟩, q⟩ hz
  · obtain ⟨t, rfl⟩ := rx
    exact wpAny_formatField_int hz ⟨.str (toString i), H1, I1.tok _, ⟨_, rfl⟩, q⟩
  · cases rx
    exact wpAny_formatField_none ⟨.str "None", H1, I1.tok _, ⟨_, rfl⟩, q⟩
/-! ### what a field may hold -/
/-- a whole number up to 10 ** 12, a short text, None -/
inductive Fld : V → Prop where
  | int (i : Int) (a : -999999999999 < i) (b : i < 999999999999) : Fld (.int i)
  | str (z : Str) (h : z.length ≤ 100) : Fld (.str z)
  | non : Fld .non
def fldText : V → Str
  | .int i => toString i
  | .str z => z
  | _ => "None"
theorem fld_log {i : Int} (a : -999999999999 < i) (b : i < 999999999999) : i.natAbs.log2 < 1920 := by
  have h : i.natAbs < 2 ^ 41 := by
    have e : (2 : Nat) ^ 41 = 2199023255552 := by decide
    omega
  exact Nat.lt_of_lt_of_le (PySem.Flt.log2_lt_of (by decide) h) (by decide)
theorem fld_short {i : Int} (a : -999999999999 < i) (b : i < 999999999999) : ((toString i : String) : Str).length ≤ 13 := by
  have h := intsShort_of_noneOrIn (lo := -999999999999) (hi := 999999999999) (by decide) (by decide) (.int i) (by
    show (decide (-999999999999 < i) && decide (i < 999999999999)) = true
    rw [decide_eq_true a, decide_eq_true b]
    rfl)
  exact of_decide_eq_true h
theorem fld_fmt {v : V} {H : Hp} {Q : VK} (h : Fld v) (k : ∀ y : Str, y.length ≤ 100 → Q (.str y) H) : fmtN Q v H := by
  cases h with
  | int i a b => exact .inr (.inl ⟨i, rfl, fld_log a b, k _ (Nat.le_trans (fld_short a b) (by decide))⟩)
  | str z h => exact .inl ⟨z, rfl, Nat.le_trans h (by decide), k _ h⟩
  | non => exact .inr (.inr ⟨rfl, k _ (by decide)⟩)

/-! ### the four builtin classes -/
abbrev bmV : List Value := [.type "ValueError", .type "Exception", .type "BaseException", .type "object"]
abbrev bmI : List Value := [.type "IndexError", .type "LookupError", .type "Exception", .type "BaseException", .type "object"]
abbrev bmK : List Value := [.type "KeyError", .type "LookupError", .type "Exception", .type "BaseException", .type "object"]
abbrev bmL : List Value := [.type "LookupError", .type "Exception", .type "BaseException", .type "object"]
theorem store_K : StoreFacts "KeyError" bmK "object.__setattr__" "object" where
  mro := by kernel_rfl
  slot := .of (n := "__setattr__")
    (owner := "object")
    (by
      rw [typeLookup_type]
      rw [builtinLookup_eq_fast]
      kernel_rfl)
    (by decide +kernel)
    (by decide +kernel)
    (by decide +kernel)
    (by
      first
        | exact .inl (by decide +kernel)
        | exact .inr (by decide +kernel))
    (by
      rw [isSubtype_type]
      kernel_rfl)
  entry := PySem.F.entry_object_sa
  kind := by decide +kernel
  split := by decide +kernel
  hasOwner := by decide +kernel
  args := PySem.F.store_ValueError.args
  passes := fun self => by kernel_rfl
structure BaseOf (B newId initId : String) (bm : List Value) : Prop where
  new : ∃ nB, NewBy bm nB newId
  ini : InitBy bm B initId
  sto : ∃ S, StoreFacts S bm "object.__setattr__" "object"
  tl : PySem.W.excTail bm bm = true
  ob : bm.contains (.type "object") = true
  flat : ∀ C : Addr, bm.contains (.ref C) = false
theorem base_V : BaseOf "ValueError" "ValueError.__new__" "ValueError.__init__" bmV :=
  ⟨⟨"ValueError", ⟨_, _, PySem.F.excBase_ValueError⟩, by decide +kernel, by decide +kernel, by decide +kernel⟩, ⟨⟨_, excClass_ValueError⟩, by decide +kernel⟩, ⟨_, PySem.F.store_ValueError⟩, by decide +kernel, by decide +kernel, fun _ => rfl⟩
theorem base_I : BaseOf "IndexError" "IndexError.__new__" "IndexError.__init__" bmI :=
  ⟨⟨"IndexError", ⟨_, _, PySem.F.excBase_IndexError⟩, by decide +kernel, by decide +kernel, by decide +kernel⟩, ⟨⟨_, excClass_IndexError⟩, by decide +kernel⟩, ⟨_, PySem.F.store_IndexError⟩, by decide +kernel, by decide +kernel, fun _ => rfl⟩
theorem base_L : BaseOf "LookupError" "LookupError.__new__" "LookupError.__init__" bmL :=
  ⟨⟨"LookupError", ⟨_, _, PySem.F.excBase_LookupError⟩, by decide +kernel, by decide +kernel, by decide +kernel⟩, ⟨⟨_, excClass_LookupError⟩, by decide +kernel⟩, ⟨_, PySem.F.store_LookupError⟩, by decide +kernel, by decide +kernel, fun _ => rfl⟩
/-- KeyError's own new is LookupError's -/
theorem base_K : BaseOf "KeyError" "LookupError.__new__" "KeyError.__init__" bmK :=
  ⟨⟨"LookupError", ⟨_, _, PySem.F.excBase_LookupError⟩, by decide +kernel, by decide +kernel, by decide +kernel⟩, ⟨⟨_, excClass_KeyError⟩, by decide +kernel⟩, ⟨_, store_K⟩, by decide +kernel, by decide +kernel, fun _ => rfl⟩
theorem meta_V : typeOf (.type "ValueError") = pure (.type "type") := by kernel_rfl
theorem meta_K : typeOf (.type "KeyError") = pure (.type "type") := by kernel_rfl
theorem meta_I : typeOf (.type "IndexError") = pure (.type "type") := by kernel_rfl
theorem meta_L : typeOf (.type "LookupError") = pure (.type "type") := by kernel_rfl
/-! ### an own class of the top -/
section
open PySem.W
structure ClsAt (K : Frag) (mg : Str → Option Value) (C : Addr) (x qual : Str) (B newId initId : String) (bm : List Value) (st : Stmt) (fs : List Str) : Prop where
  mg : mg x = some (.ref C)
  own : OwnC K C B newId initId bm
  xf : XfC K C
  ex : ExcC K C
  no : ∀ f ∈ fs, findIn K (.ref C) f = some none
  ini : ∃ F fd, findIn K (.ref C) "__init__" = some (some (.ref F)) ∧ typeIn K (.ref F) = some (.type "function") ∧ Fun K "__init__" qual st F fd
theorem cls_mk {K : Frag} {mg : Str → Option Value} {C F : Addr} {x qual : Str} {B newId initId : String} {bm : List Value} {st : Stmt} {fs : List Str} {nm q : Str} {N : Addr} {bs : List Value} {sn : List Str} {sub : List Value} {ab : Bool} {col : Option Bool} {dd : Option Addr} {k0 k1 k2 k3 k5 : Option Value} {fd : FuncData}
    (Y : BaseOf B newId initId bm) (m : mg x = some (.ref C)) (o : K.lookup C = some (excClassObj nm q C N bs bm true sn sub ab col dd k0 k1 k2 k3 k5 newId)) (i : findIn K (.ref C) "__init__" = some (some (.ref F))) (t : typeIn K (.ref F) = some (.type "function")) (f : Fun K "__init__" qual st F fd)
    (h1 : findIn K (.ref C) "__setattr__" = some (some (.builtin "object.__setattr__"))) (h2 : subIn K (.ref C) (.type "BaseException") = some true) (h3 : typeIn K (.ref C) = some (.type "type")) (h4 : keepIn K (.ref C) = true)
    (h5 : findIn K (.ref C) "__getattribute__" = some (some (.builtin "BaseException.__getattribute__"))) (h6 : findIn K (.ref C) "__getattr__" = some none) (h7 : hasDictIn K C = true) (h8 : findIn K (.ref C) "__class__" = some (some (.builtin "object.__class__")))
    (h9 : mroIn K C (.type "object") = some true) (e1 : specialIn K (.builtin "object.__class__") "__get__" = some (some (.builtin "getset_descriptor.__get__"))) (e2 : takesIn K (.builtin "object.__class__") = some true)
    (no : ∀ f ∈ fs, findIn K (.ref C) f = some none) : ClsAt K mg C x qual B newId initId bm st fs :=
  ⟨m, ⟨⟨nm, q, N, bs, sn, sub, ab, col, dd, k0, k1, k2, k3, k5, o⟩, Y.new, Y.ini, Y.sto, h1, Y.tl, Y.ob, h2, h3, h4⟩, ⟨h5, h6, h2, h7⟩, ⟨h5, h6, h2, h7, h8, e1, e2, h9⟩, no, F, fd, i, t, f⟩
theorem no0 {p : Str → Prop} : ∀ f ∈ ([] : List Str), p f := fun f h => by cases h
theorem no1 {p : Str → Prop} {a : Str} (h : p a) : ∀ f ∈ [a], p f := fun f hf => by
  rw [List.mem_singleton.mp hf]
  exact h
theorem no2 {p : Str → Prop} {a b : Str} (h : p a) (k : p b) : ∀ f ∈ [a, b], p f := fun f hf => by
  rcases List.mem_cons.mp hf with e | e
  · rw [e]
    exact h
  · rw [List.mem_singleton.mp e]
    exact k
/-- whether one stands under another -/
theorem kit_two {K : Frag} {mg mg' : Str → Option Value} {C C' : Addr} {x qual x' qual' : Str} {B newId initId B' newId' initId' : String} {bm bm' : List Value} {st st' : Stmt} {fs fs' : List Str} (T : ClsAt K mg C x qual B newId initId bm st fs) (T' : ClsAt K mg' C' x' qual' B' newId' initId' bm' st' fs')
    (flat : bm.contains (.ref C') = false) : kitOne K (.ref C) (.ref C') = some (decide (C = C')) := by
  refine kit_own T'.ex.hd T'.own.tyC ?_
  obtain ⟨cd, hc, hm, _⟩ := T.own.clsIn
  show mroIn K C (.ref C') = _
  unfold mroIn
  rw [hc, Option.bind_some, hm]
  show some ((Value.ref C :: bm).contains (.ref C')) = _
  rw [List.contains_cons, flat, Bool.or_false]
  congr 1
  by_cases h : C = C'
  · subst h
    rw [decide_eq_true rfl]
    exact beq_self_eq_true _
  · rw [decide_eq_false h]
    exact Bool.eq_false_iff.mpr fun z => h (Value.ref.inj (beq_iff_eq.mp z)).symm
theorem kit_base {K : Frag} {mg : Str → Option Value} {C : Addr} {x qual : Str} {B newId initId : String} {bm : List Value} {st : Stmt} {fs : List Str} {T : String} {b : Bool} (Y : ClsAt K mg C x qual B newId initId bm st fs) (km : kitMeta T = true) (h : bm.contains (.type T) = b) :
    kitOne K (.ref C) (.type T) = some b := by
  obtain ⟨cd, hc, hm, _⟩ := Y.own.clsIn
  show (if (Value.ref C == Value.type T) = true then some true else kitCls K (.ref C) (.type T)) = _
  have ne : (Value.ref C == Value.type T) = false := Bool.eq_false_iff.mpr fun z => by
    have e := beq_iff_eq.mp z
    cases e
  rw [ne, if_neg Bool.false_ne_true]
  show (if kitMeta T = true then subIn K (.ref C) (.type T) else none) = _
  rw [if_pos km]
  show mroIn K C (.type T) = _
  unfold mroIn
  rw [hc, Option.bind_some, hm]
  show some ((Value.ref C :: bm).contains (.type T)) = _
  rw [List.contains_cons, h]
  rfl
end
/-- its __init__ keeps sp -/
structure HasC (P : Program) (w : World) (K : PySem.W.Frag) (mg : Str → Option Value) (base : Heap) (C : Addr) (x : Str) (ps : List Str) (sp : Sp) : Prop where
  ex : ∃ (B newId initId : String) (bm : List Value) (F : Addr) (fd : FuncData), mg x = some (.ref C) ∧ OwnC K C B newId initId bm ∧ PySem.W.findIn K (.ref C) "__init__" = some (some (.ref F)) ∧ PySem.W.typeIn K (.ref F) = some (.type "function") ∧ FnOk P w K mg base CX0 1 F fd ps sp ∧ Binds K fd ps []
theorem pe_hasC {X : Cx} {C : Addr} {x : Str} {ps : List Str} {sp : Sp} {e : Expr} {es : List Expr} {t : TA} {p pos : Pos} (h : HasC X.prog X.w X.K X.mg X.base C x ps sp) (hr : Room 2 X.A) (hg : Gl X x) (ha : PA X (e :: es) t)
    (hdb : (x == ("__debug__" : Str)) = false := by decide) (he : starEach (e :: es) X.env = (false, eval e X.env) :: starEach es X.env := by rfl) (hpl : (backTo pos (starEach es X.env)).any (·.1) = false := by rfl) :
    PE X (.Call (.Name x p) (e :: es) [] pos) (tOwnV C sp t) := by
  obtain ⟨B, newId, initId, bm, F, fd, hm, T, iC, tI, f, b⟩ := h.ex
  exact pe_own T iC tI f hr b pass0 hg hm ha hdb he hpl
theorem pe_hasC0 {X : Cx} {C : Addr} {x : Str} {ps : List Str} {sp : Sp} {p pos : Pos} (h : HasC X.prog X.w X.K X.mg X.base C x ps sp) (hr : Room 2 X.A) (hg : Gl X x) (hdb : (x == ("__debug__" : Str)) = false := by decide) :
    PE X (.Call (.Name x p) [] [] pos) (tOwnV C sp tNil) := by
  obtain ⟨B, newId, initId, bm, F, fd, hm, T, iC, tI, f, b⟩ := h.ex
  exact pe_own0 T iC tI f hr b pass0 hg hm hdb
/-! ### what such an __init__ promises: no field, one, two -/
section
variable (C : Addr) (f g : Str)
def spI0 : Sp := fun vs H Q _ => ∃ a, vs = [.ref a] ∧ H a = some (exo a C none) ∧ Q .non H
def spI1 : Sp := fun vs H Q _ => ∃ a v, vs = [.ref a, v] ∧ Fld v ∧ H a = some (exo a C none) ∧ ∀ dx, H dx = none → dx ≠ a → Q .non (upd (upd H dx (exd dx [(f, v)])) a (exo a C (some dx)))
def spI2 : Sp := fun vs H Q _ => ∃ a u v, vs = [.ref a, u, v] ∧ Fld u ∧ Fld v ∧ H a = some (exo a C none) ∧ ∀ dx, H dx = none → dx ≠ a → Q .non (upd (upd (upd H dx (exd dx [(f, u)])) a (exo a C (some dx))) dx (exd dx [(g, v), (f, u)]))
end
/-! ### texts of parts -/
theorem part2 {a y : Str} {n m : Nat} (h1 : a.length ≤ n) (h2 : y.length ≤ m) : (a ++ y).length ≤ n + m := by
  rw [PySem.Str.length_append]
  exact Nat.add_le_add h1 h2
theorem part {a y : Str} {n m : Nat} (h1 : a.length ≤ n) (h2 : y.length ≤ m) (h3 : n + m ≤ 10000) : (a ++ y).length ≤ sizeLine :=
  Nat.le_trans (part2 h1 h2) (Nat.le_trans h3 (by decide))
/-- an own class by its name -/
theorem pe_cls {X : Cx} {x : Str} {C : Addr} {pos : Pos} (m : X.mg x = some (.ref C)) (hg : Gl X x) (hd : (x == ("__debug__" : Str)) = false := by decide) : PE X (.Name x pos) (tC (.ref C)) := pe_glob (v := .ref C) hg m rfl hd
theorem getD_inj {l : List Addr} (nd : l.Nodup) (i j : Nat) (hi : i < l.length) (hj : j < l.length) (h : l.getD i 0 = l.getD j 0) : i = j := by
  rw [List.getD_eq_getElem?_getD, List.getD_eq_getElem?_getD, List.getElem?_eq_getElem hi, List.getElem?_eq_getElem hj, Option.getD_some, Option.getD_some] at h
  have z := List.pairwise_iff_getElem.mp nd
  rcases Nat.lt_trichotomy i j with c | c | c
  · exact absurd h (z i j hi hj c)
  · exact c
  · exact absurd h.symm (z j i hj hi c)

/-! ### a tuple of texts of the top -/
structure CTup (K : PySem.W.Frag) (mg : Str → Option Value) (x : Str) (ws : List Str) : Prop where
  ex : ∃ p, mg x = some (.ref p) ∧ ∃ (o : Obj) (its : Array Value) (n : Nat), K.lookup p = some o ∧ o.cls = .type "tuple" ∧ o.data = .seq its n ∧ its.size ≤ sizeLine ∧ Vals (ws.map V.str) its.toList
theorem pe_ctup {X : Cx} {x : Str} {ws : List Str} {pos : Pos} (h : CTup X.K X.mg x ws) (hg : Gl X x) (hd : (x == ("__debug__" : Str)) = false := by decide) :
    PE X (.Name x pos) (fun _ H Q => ∀ p, (∀ H', SqT X.K H' p (ws.map V.str)) → Q (.ref p) H) := by
  obtain ⟨p, hm, e⟩ := h.ex
  exact ⟨fun _ _ _ H _ I h => ld_glob I hg hm ⟨.ref p, H, I, rfl, h p fun H' => .inr e⟩ hd⟩
theorem ctup_mk {K : PySem.W.Frag} {mg : Str → Option Value} {x : Str} {ws : List Str} {p : Addr} {pd : Option Addr} {its : Array Value} {n : Nat} {sl : Array (Option Value)} (hm : mg x = some (.ref p)) (l : K.lookup p = some ⟨.type "tuple", pd, .seq its n, sl⟩)
    (few : its.size ≤ 1000) (v : Vals (ws.map V.str) its.toList) : CTup K mg x ws :=
  ⟨p, hm, _, its, n, l, rfl, rfl, Nat.le_trans few (by decide), v⟩

structure Top (K : PySem.W.Frag) (mg : Str → Option Value) (cs : Nat → Addr) : Prop where
  d_part_for : At K mg "part_for" s_part_for
  d_plan_for : At K mg "plan_for" s_plan_for
  d__ones : At K mg "_ones" s__ones
  d__flat : At K mg "_flat" s__flat
  d__row : At K mg "_row" s__row
  d__halves : At K mg "_halves" s__halves
  d__groups : At K mg "_groups" s__groups
  d_is_whole : At K mg "is_whole" s_is_whole
  d_is_part : At K mg "is_part" s_is_part
  d_is_plan : At K mg "is_plan" s_is_plan
  d_size_of : At K mg "size_of" s_size_of
  d__are_parts : At K mg "_are_parts" s__are_parts
  d__is_joined : At K mg "_is_joined" s__is_joined
  d__law_begun : At K mg "_law_begun" s__law_begun
  d__law_draw : At K mg "_law_draw" s__law_draw
  d__law_pick : At K mg "_law_pick" s__law_pick
  d_law : At K mg "law" s_law
  k_NoPlan : ClsAt K mg (cs 0) "NoPlan" "NoPlan.__init__" "ValueError" "ValueError.__new__" "ValueError.__init__" bmV s_NoPlan___init__ []
  one : ∀ i j, i < 1 → j < 1 → cs i = cs j → i = j
  i_ValueError : PySem.W.findCls K (.type "ValueError") (.type "type") "__init__" = some (.val (.builtin "ValueError.__init__"))
  i_IndexError : PySem.W.findCls K (.type "IndexError") (.type "type") "__init__" = some (.val (.builtin "IndexError.__init__"))
  i_KeyError : PySem.W.findCls K (.type "KeyError") (.type "type") "__init__" = some (.val (.builtin "KeyError.__init__"))
  i_LookupError : PySem.W.findCls K (.type "LookupError") (.type "type") "__init__" = some (.val (.builtin "LookupError.__init__"))
  c_MOST_ONES : ∃ t, mg "MOST_ONES" = some (.int 60 t)
  c_MOST_TUPLES : ∃ t, mg "MOST_TUPLES" = some (.int 60 t)
  c_PART_WORDS : CTup K mg "PART_WORDS" ["flat", "row", "tree", "nets", "groups"]
  c_PLAN_WORDS : CTup K mg "PLAN_WORDS" ["pairs", "codes", "row", "tree", "nets", "groups"]
  b_range : mg "range" = none
  b_min : mg "min" = none
  b_isinstance : mg "isinstance" = none
  b_bool : mg "bool" = none
  b_int : mg "int" = none
  b_len : mg "len" = none
  b_tuple : mg "tuple" = none
  b_repr : mg "repr" = none
  b_ValueError : mg "ValueError" = none
section
variable {P : Program} {w : World} {K : PySem.W.Frag} {mg : Str → Option Value} {base : Heap} {cs : Nat → Addr}
theorem hc_NoPlan (T : Top K mg cs) : HasC P w K mg base (cs 0) "NoPlan" ["self"] (spI0 (cs 0)) := by
  obtain ⟨F, fd, iC, tI, f⟩ := T.k_NoPlan.ini
  refine ⟨_, _, _, _, F, fd, T.k_NoPlan.mg, T.k_NoPlan.own, iC, tI, ?_, f.binds fun _ _ _ _ _ _ us hl => match us, hl with | [_], _ => rfl⟩
  refine f.ok sc_NoPlan___init__ (fun vs H Q E h => ?_) (fun cdv A outer s H vs Q E hr h => ?_)
  · obtain ⟨a, rfl, _⟩ := h
    rfl
  · have nd := sc_NoPlan___init__.nd
    obtain ⟨a, rfl, ha, k⟩ := h
    refine ⟨_, (pss_one (ps_expr (pe_ownInit (newId := "ValueError.__new__") (initId := "ValueError.__init__") (bm := bmV) (by rfl) T.b_ValueError (by decide +kernel) meta_V (by decide +kernel) T.i_ValueError (by decide +kernel) (pa_cons (pv 0) (pa_cons pe_str pa_nil))))), ?_⟩
    exact ⟨_, rfl, ⟨a, cs 0, [_], rfl, by show 1 ≤ 1000; decide, T.k_NoPlan.own, ha, k⟩⟩
end
/-! ### raising an exception of an own class, and catching it -/
section
variable {X : Cx}
/-- the end of C(..) without a field: the exception is let go -/
theorem mk_endN {pins : List (Addr × Obj)} {σ : L2.St} {H1 H2 : Hp} {Q : XK} {hp hp2 h2 : Heap} {g1 g2 : Array GenState} {d1 d2 : Drawn} {t1 t2 : Nat} {os1 os2 : OsState} {a C : Addr} (T : Raises X (.ref C)) (I1 : Inv X pins σ H1 ⟨hp, g1, d1, t1, os1⟩)
    (ha : hp.objs.size ≤ a) (k : ∀ b o, hp.get? b = some o → hp2.get? b = some o) (un : Un (frs X.stack) [] (upd H1 a (exo a C none)) H2 hp2 h2) (hok : HOk X.prog X.w H2 h2) (ho : os2 = os1) (hb : AllBare g2)
    (ea : H2 a = some (exo a C none)) (q : Q (.ref C) none (del H2 a)) : MkP X pins σ Q (.ref a) ⟨h2, g2, d2, t2, os2⟩ := by
  obtain ⟨t0, hoe⟩ := exo_at hok ea
  have hn : H1 a = none := I1.hok.fresh ha
  obtain ⟨G, g1', g2'⟩ := restrict h2 fun b => decide (b ≠ a)
  have gk : ∀ b, b ≠ a → G.get? b = h2.get? b := fun b hb => g1' b (decide_eq_true hb)
  have ge : G.get? a = none := g2' a (by simp)
  have nha : ∀ {b : Addr} {o : Obj}, hp.get? b = some o → b ≠ a := fun {b o} z => Nat.ne_of_lt (Nat.lt_of_lt_of_le (Heap.lt_size z) ha)
  have up : ∀ {b : Addr}, b ≠ a → H1 b = none → upd H1 a (exo a C none) b = none := fun {b} hb n => by
    rw [upd_ne hb]
    exact n
  have un2 : Un (frs X.stack) [] H1 (del H2 a) hp G := {
    keep := fun b o z n hf hx => by
      rw [gk b (nha z)]
      exact un.keep b o (k b o z) (up (nha z) n) hf hx
    slot := fun b o z n hf hx => by
      rw [gk b (nha z)]
      exact un.slot b o (k b o z) (up (nha z) n) hf hx
    free := fun b o z n hx => by
      rw [del_ne (nha z)]
      exact un.free b o (k b o z) (up (nha z) n) hx
    there := fun b o z hx => by
      rw [gk b (nha z)]
      exact un.there b o (k b o z) hx
    tups := fun b xs z => by
      rw [del_ne (ne_of_none z hn)]
      exact un.tups b xs (by rw [upd_ne (ne_of_none z hn)]; exact z)
    frzs := fun b o v z => by
      rw [del_ne (ne_of_none z hn)]
      exact un.frzs b o v (by rw [upd_ne (ne_of_none z hn)]; exact z)
    tbls := fun b ps z => by
      rw [del_ne (ne_of_none z hn)]
      exact un.tbls b ps (by rw [upd_ne (ne_of_none z hn)]; exact z) }
  have ok2 : HOk X.prog X.w (del H2 a) G := fun b o z => by
    have hba : b ≠ a := fun e => by
      rw [e, del_same] at z
      cases z
    rw [del_ne hba] at z
    have noa : ∀ {c : Addr}, H2 c = some (.own b) → c ≠ a := fun {c} hc => L2.at_ne ea hc exo_own
    exact (hok b o z).stay (fun c v hc y => by
        have hca : c ≠ a := by
          rcases hc with hc | hc
          · rw [hc]
            exact hba
          · exact noa hc
        rw [gk c hca]
        exact y)
      (fun c hc => by rw [del_ne (noa hc)]; exact hc) (fun c xs hc => by rw [del_ne (L2.at_ne ea hc exo_tup)]; exact hc)
  have J : Inv X pins σ (del H2 a) ⟨G, g2, d2, t2, os2⟩ := I1.call' (ch := []) ho un2 ok2 hb (fun b z => absurd z (by simp))
  exact ⟨a, _, _, ⟨G, g2, d2, t2, os2⟩, _, .ref C, none, rfl, J, fun b o z => by
    by_cases hba : b = a
    · rw [hba, ge] at z
      cases z
    · exact (gk b hba).symm.trans z, ge, hoe, ⟨rfl, rfl⟩, rfl, rfl, del_same, rfl, hb, T, q⟩
/-- C(e, ..), to be raised -/
def tMkC (C : Addr) (sp : Sp) (ta : TA) : L2.St → Hp → XK → Prop := fun σ H Q => ta σ H fun vs H1 => vs.length ≤ 1000 ∧ ∀ a, H1 a = none → sp (.ref a :: vs) (upd H1 a (exo a C none))
  (fun v H2 => v = .non ∧ ((H2 a = some (exo a C none) ∧ Q (.ref C) none (del H2 a)) ∨ ∃ (d : Addr) (fs : List (Str × V)), H2 a = some (exo a C (some d)) ∧ H2 d = some (exd d fs) ∧ H1 d = none ∧ Q (.ref C) (some d) (upd (del H2 a) d (.xd fs)))) (fun _ _ _ => False)
theorem mk_call {CX : CXT} {C fI : Addr} {k : Nat} {fd : FuncData} {ps : List Str} {sp : Sp} {B newId initId : String} {bm : List Value} (T : OwnC X.K C B newId initId bm) (iC : PySem.W.findIn X.K (.ref C) "__init__" = some (some (.ref fI))) (tI : PySem.W.typeIn X.K (.ref fI) = some (.type "function"))
    (F1 : FnOk X.prog X.w X.K X.mg X.base CX k fI fd ps sp) (hr : Room (k + 1) X.A) (hb : Binds X.K fd ps []) (hx : Passes CX X (fun _ _ _ => False)) {pins : List (Addr × Obj)} {σ : L2.St} {H : Hp} {s : Shared} {Q : XK} {us : List Value} {vs : List V}
    (I : Inv X pins σ H s) (r : Vals vs us) (few : vs.length ≤ 1000) (h : ∀ a, H a = none → sp (.ref a :: vs) (upd H a (exo a C none))
      (fun v H2 => v = .non ∧ ((H2 a = some (exo a C none) ∧ Q (.ref C) none (del H2 a)) ∨ ∃ (d : Addr) (fs : List (Str × V)), H2 a = some (exo a C (some d)) ∧ H2 d = some (exd d fs) ∧ H d = none ∧ Q (.ref C) (some d) (upd (del H2 a) d (.xd fs)))) (fun _ _ _ => False)) :
    wpAny (model X.prog X.w) X.A (call (.ref C) us) (MkP X pins σ Q) X.xe s := by
  obtain ⟨nm, q, N, bs, sn, sub, ab, col, dd, k0, k1, k2, k3, k5, o⟩ := T.cls
  obtain ⟨nB, Y⟩ := T.new
  obtain ⟨hp, g, dr, tk, os⟩ := s
  have lt : hp.objs.size ≤ hp.objs.size + 1 := Nat.le_succ _
  have no : H (hp.objs.size + 1) = none := I.hok.fresh lt
  have hq := h (hp.objs.size + 1) no
  have up : ∀ b u, hp.get? b = some u → ((hp.push (PySem.W.kdv_tup us)).push (bare C hp.objs.size)).get? b = some u := fun b u e => Heap.get?_push_of_some _ (Heap.get?_push_of_some _ e)
  have at2 : ((hp.push (PySem.W.kdv_tup us)).push (bare C hp.objs.size)).get? (hp.objs.size + 1) = some (bare C hp.objs.size) := by heap_get
  have I2 : Inv X pins σ (upd H (hp.objs.size + 1) (exo (hp.objs.size + 1) C none)) ⟨(hp.push (PySem.W.kdv_tup us)).push (bare C hp.objs.size), g, dr, tk, os⟩ :=
    I.laid (t' := tk) (a := hp.objs.size + 1) (o := exo (hp.objs.size + 1) C none) (h' := (hp.push (PySem.W.kdv_tup us)).push (bare C hp.objs.size)) up lt (exo_ok at2)
  have r2 : Vals (V.ref (hp.objs.size + 1) :: vs) (Value.ref (hp.objs.size + 1) :: us) := .cons rfl r
  have hl : (Value.ref (hp.objs.size + 1) :: us).length = ps.length := by
    rw [← r2.length]
    exact F1.len _ _ _ _ hq
  have fit : us.length ≤ sizeLine := by
    rw [← Paired.length r, sizeLine_eq]
    omega
  have hbd := hb ⟨(hp.push (PySem.W.kdv_tup us)).push (bare C hp.objs.size), g, dr, tk, os⟩ (Value.ref (hp.objs.size + 1) :: us) I2.kIn (by rw [List.append_nil]; exact hl)
  rw [List.append_nil] at hbd
  refine wpAny_call (call_made Y (I.kIn _ _ o) (PySem.W.looks_findIn I.kIn iC) (fun x => PySem.W.bind_fn I.kIn x tI) fit
    (codeAny_mono (F1.run _ X.stack _ _ ⟨Value.ref (hp.objs.size + 1) :: us, []⟩ (Value.ref (hp.objs.size + 1) :: us) _ _ (fun _ _ _ => False) (hr.make C us []) (I2.env0.make C us []) hbd r2 hq) fun r s2 z => ?_))
  cases r with
  | error er => exact hx pins σ _ _ er s2 I2 z
  | ok fl =>
    cases fl with
    | ret u =>
      obtain ⟨v, H2, os2, bare2, un2, hok2, rv, ev, q⟩ := z
      subst ev
      obtain ⟨h2, g2, d2, t2, os'⟩ := s2
      have R : Raises X (.ref C) := raises_own T.exC T.tyC
      rcases q with ⟨ea, q2⟩ | ⟨d, fs, ea, ed, hd1, q2⟩
      · exact ⟨rv, mk_endN R I lt up un2 hok2 os2 bare2 ea q2⟩
      · exact ⟨rv, mk_end R I lt up un2 hok2 os2 bare2 ea ed hd1 q2⟩
    | next => exact False.elim z
    | brk => exact False.elim z
    | cont => exact False.elim z
theorem pmk_hasC {C : Addr} {x : Str} {ps : List Str} {sp : Sp} {e : Expr} {es : List Expr} {t : TA} {p pos : Pos} (h : HasC X.prog X.w X.K X.mg X.base C x ps sp) (hr : Room 2 X.A) (hg : Gl X x) (ha : PA X (e :: es) t)
    (hdb : (x == ("__debug__" : Str)) = false := by decide) (he : starEach (e :: es) X.env = (false, eval e X.env) :: starEach es X.env := by rfl) (hpl : (backTo pos (starEach es X.env)).any (·.1) = false := by rfl) :
    PMk X (.Call (.Name x p) (e :: es) [] pos) (tMkC C sp t) := by
  obtain ⟨B, newId, initId, bm, F, fd, hm, T, iC, tI, f, b⟩ := h.ex
  intro pins s σ H Q I h
  refine wpAny_Call_Name_kw (ld_glob I hg hm ?_ hdb)
  refine PySem.W.callWith_K (h₀ := X.base) I.ok.mod.kin T.kC (thn (ha.run pos pins s σ H _ I h) fun us s1 ⟨vs, H1, I1, r1, hz, q1⟩ => ⟨I1.kIn, ?_⟩) he hpl
  exact mk_call T iC tI f hr b pass0 I1 r1 hz q1
theorem pmk_hasC0 {C : Addr} {x : Str} {ps : List Str} {sp : Sp} {p pos : Pos} (h : HasC X.prog X.w X.K X.mg X.base C x ps sp) (hr : Room 2 X.A) (hg : Gl X x) (hdb : (x == ("__debug__" : Str)) = false := by decide) :
    PMk X (.Call (.Name x p) [] [] pos) (tMkC C sp tNil) := by
  obtain ⟨B, newId, initId, bm, F, fd, hm, T, iC, tI, f, b⟩ := h.ex
  intro pins s σ H Q I h
  refine wpAny_Call_Name_kw (ld_glob I hg hm ?_ hdb)
  exact PySem.W.callWith_K0 I.kIn T.kC (mk_call (us := []) T iC tI f hr b pass0 I .nil h.1 h.2)
theorem del_upd {H : Hp} {a : Addr} {o : HO} (h : H a = none) : del (upd H a o) a = H := funext fun b => by
  by_cases e : b = a
  · rw [e, del_same, h]
  · rw [del_ne e, upd_ne e]
/-- C() without a field -/
theorem pmk_own0 {C : Addr} {x : Str} {p pos : Pos} (h : HasC X.prog X.w X.K X.mg X.base C x ["self"] (spI0 C)) (hr : Room 2 X.A) (hg : Gl X x) (hdb : (x == ("__debug__" : Str)) = false := by decide) :
    PMk X (.Call (.Name x p) [] [] pos) (fun _ H Q => Q (.ref C) none H) := fun pins s σ H Q I q =>
  pmk_hasC0 h hr hg hdb pins s σ H Q I ⟨by show 0 ≤ 1000; decide, fun a na => ⟨a, rfl, upd_same, rfl, .inl ⟨upd_same, by rw [del_upd na]; exact q⟩⟩⟩
/-! ### defs that may raise -/
structure HasX (P : Program) (w : World) (K : PySem.W.Frag) (mg : Str → Option Value) (base : Heap) (k : Nat) (x : Str) (ps : List Str) (sp : Sp) : Prop where
  ex : ∃ f fd, mg x = some (.ref f) ∧ PySem.W.keepIn K (.ref f) = true ∧ Binds K fd ps [] ∧ FnOk P w K mg base (L2.CX P w) k f fd ps sp
theorem has_ofX {P : Program} {w : World} {K : PySem.W.Frag} {mg : Str → Option Value} {base : Heap} {x : Str} {st : Stmt} {N ps : List Str} {k : Nat} {sp : Sp} (A : At K mg x st) (S : FnScope N ps (defScope st)) (B : BindsAll x st ps) (len : ∀ vs H Q E, sp vs H Q E → vs.length = ps.length)
    (hbody : ∀ (f : Addr) (cdv : Value) (A : Around) (outer : List Env) (s : Shared) (H : Hp) (vs : List V) (Q : VK) (E : XK), Room k (A.deeper (envOfC x (defScope st) s.heap.objs.size f cdv)) → sp vs H Q E →
      ∃ t, PSs (cxOf (L2.CX P w) P w K mg base N x (defScope st) f cdv A outer s H E) (defBody st) t ∧ t { nx := fun _ H' => Q .non H', rt := Q } (start N vs) H) : HasX P w K mg base (k + 1) x ps sp := by
  obtain ⟨f, fd, hm, F⟩ := A.ex
  exact ⟨f, fd, hm, F.kp, F.binds B, F.okX S len fun cdv A outer s H vs Q E hr h => hbody f cdv A outer s H vs Q E hr h⟩
theorem pe_hasX {W : WX} {k : Nat} {x : Str} {ps : List Str} {sp : Sp} {e : Expr} {es : List Expr} {t : TA} {p pos : Pos} (tk : Takes X W) (h : HasX X.prog X.w X.K X.mg X.base k x ps sp) (hr : Room k X.A) (hg : Gl X x) (ha : PA X (e :: es) t)
    (hdb : (x == ("__debug__" : Str)) = false := by decide) (he : starEach (e :: es) X.env = (false, eval e X.env) :: starEach es X.env := by rfl) (hpl : (backTo pos (starEach es X.env)).any (·.1) = false := by rfl) :
    PE X (.Call (.Name x p) (e :: es) [] pos) (tCallS sp (WE W) t) := by
  obtain ⟨f, fd, hm, hk, hb, F⟩ := h.ex
  exact pe_callS F hr hg hm hk hb (fun σ => L2.passAt tk σ) ha hdb he hpl
/-- here it lets nothing out -/
theorem pe_hasX0 {k : Nat} {x : Str} {ps : List Str} {sp : Sp} {e : Expr} {es : List Expr} {t : TA} {p pos : Pos} (h : HasX X.prog X.w X.K X.mg X.base k x ps sp) (hr : Room k X.A) (hg : Gl X x) (ha : PA X (e :: es) t)
    (hdb : (x == ("__debug__" : Str)) = false := by decide) (he : starEach (e :: es) X.env = (false, eval e X.env) :: starEach es X.env := by rfl) (hpl : (backTo pos (starEach es X.env)).any (·.1) = false := by rfl) :
    PE X (.Call (.Name x p) (e :: es) [] pos) (tCall sp [] E0 t) := by
  obtain ⟨f, fd, hm, hk, hb, F⟩ := h.ex
  exact pe_call F hr hg hm hk hb .nil L2.passL ha hdb he hpl
end
/-! ### isinstance of a caught one -/
/-- what its dict holds is known, where it has one -/
def XdAt (H : Hp) (d : Option Addr) : Prop := ∀ dx, d = some dx → ∃ fs, H dx = some (.xd fs)
theorem xd_none {H : Hp} : XdAt H none := fun dx z => by cases z
theorem caught_at {X : Cx} {pins pn : List (Addr × Obj)} {σ : L2.St} {H : Hp} {s : Shared} {a D : Addr} {d : Option Addr} {oe : Obj} (hz : Zc (.ref D) d oe) (hf : ∃ vs, oe.data = .fields vs) (I : Inv (X.suite a ((a, oe) :: pn)) pins σ H s) (hd : XdAt H d) :
    ∃ od, PySem.W.InstAt s.heap a oe D od := by
  obtain ⟨hget, _⟩ := I.pin (a, oe) (List.mem_append.mpr (.inl List.mem_cons_self))
  obtain ⟨vs, hv⟩ := hf
  have nc : PySem.W.notCls oe = true := by
    unfold PySem.W.notCls
    rw [hv] <;> rfl
  cases d with
  | none => exact ⟨none, hget, hz.1, nc, by rw [hz.2]; trivial⟩
  | some dx =>
    obtain ⟨fs, e⟩ := hd dx rfl
    have hx : ObjOk X.prog X.w H s.heap dx (.xd fs) := I.hok dx _ e
    obtain ⟨mA, hns, _⟩ := hx
    obtain ⟨od, ho, _⟩ := lookIn_ns hns
    exact ⟨some od, hget, hz.1, nc, by rw [hz.2]; exact ho⟩
def rIsX (K : PySem.W.Frag) (cls : Value) (d : Option Addr) (a : Addr) : List V → Hp → VK → Prop := fun xs H Q => ∃ (c : V) (cv : Value) (D : Addr) (b : Bool), xs = [.ref a, c] ∧ cls = .ref D ∧ ClsV c cv ∧ ExcC K D ∧ XdAt H d ∧ PySem.W.kitOne K (.ref D) cv = some b ∧ Q (.bl b) H
theorem call_isX {X : Cx} {a : Addr} {cls : Value} {d : Option Addr} {oe : Obj} {pn : List (Addr × Obj)} (hz : Zc cls d oe) (hf : ∃ vs, oe.data = .fields vs) : CallR (X.suite a ((a, oe) :: pn)) (.builtin "isinstance") (rIsX X.K cls d a) := by
  intro pins s σ H xs us Q I r h
  obtain ⟨c, cv, D, b, rfl, rfl, kc, T, hd, e, q⟩ := h
  obtain ⟨u1, u2, rfl, r1, r2⟩ := vals2 r
  have e2 := kc.eq r2
  subst e2
  cases r1
  obtain ⟨od, J⟩ := caught_at hz hf I hd
  exact PySem.W.kia_one (exo_kit T) I.kIn J e (fun z => nomatch z) fun tk => ⟨.bl b, H, I.tok tk, rfl, q⟩
def rIsXT (K : PySem.W.Frag) (cls : Value) (d : Option Addr) (a : Addr) : List V → Hp → VK → Prop := fun xs H Q => ∃ (tp : Addr) (cs : List V) (us : List Value) (D : Addr) (b : Bool), xs = [.ref a, .ref tp] ∧ cls = .ref D ∧ H tp = some (.tup cs) ∧ Paired ClsV cs us ∧ ExcC K D ∧ XdAt H d ∧ PySem.W.kitAny K (.ref D) us = some b ∧ Q (.bl b) H
theorem call_isXT {X : Cx} {a : Addr} {cls : Value} {d : Option Addr} {oe : Obj} {pn : List (Addr × Obj)} (hz : Zc cls d oe) (hf : ∃ vs, oe.data = .fields vs) : CallR (X.suite a ((a, oe) :: pn)) (.builtin "isinstance") (rIsXT X.K cls d a) := by
  intro pins s σ H xs us Q I r h
  obtain ⟨tp, cs, ws, D, b, rfl, rfl, ht, kc, T, hd, e, q⟩ := h
  obtain ⟨u1, u2, rfl, r1, r2⟩ := vals2 r
  cases r1
  cases r2
  obtain ⟨od, J⟩ := caught_at hz hf I hd
  have hx : ObjOk X.prog X.w H s.heap tp (.tup cs) := I.hok tp _ ht
  obtain ⟨_, vs, rv, o, ho, h2, n, h3⟩ := hx
  obtain ⟨oc, od', oda, osl⟩ := o
  dsimp only at h2 h3
  subst h2 h3
  have e3 := ClsV.all kc rv
  subst e3
  exact PySem.W.kia_tup (exo_kit T) I.kIn J ho e (fun z => nomatch z) fun tk => ⟨.bl b, H, I.tok tk, rfl, q⟩
/-- the class that a clause names, own -/
theorem names_own {X : Cx} {x : Str} {C : Addr} (m : X.mg x = some (.ref C)) (hg : Gl X x) (hd : (x == ("__debug__" : Str)) = false := by decide) : Names X x (.ref C) := ⟨hg, hd, .inl m⟩
/-- one own class in a clause that names another -/
theorem exm_two {K : PySem.W.Frag} {mg mg' : Str → Option Value} {C C' : Addr} {x qual x' qual' : Str} {B newId initId B' newId' initId' : String} {bm bm' : List Value} {st st' : Stmt} {fs fs' : List Str} (T : ClsAt K mg C x qual B newId initId bm st fs) (T' : ClsAt K mg' C' x' qual' B' newId' initId' bm' st' fs')
    (flat : bm.contains (.ref C') = false) : PySem.W.exmOne K (.ref C) (.ref C') = some (decide (C = C')) := by
  refine PySem.W.exm_ref T'.ex.hs T'.ex.hd T'.own.tyC ?_
  obtain ⟨cd, hc, hm, _⟩ := T.own.clsIn
  show PySem.W.mroIn K C (.ref C') = _
  unfold PySem.W.mroIn
  rw [hc, Option.bind_some, hm]
  show some ((Value.ref C :: bm).contains (.ref C')) = _
  rw [List.contains_cons, flat, Bool.or_false]
  congr 1
  by_cases h : C = C'
  · subst h
    rw [decide_eq_true rfl]
    exact beq_self_eq_true _
  · rw [decide_eq_false h]
    exact Bool.eq_false_iff.mpr fun z => h (Value.ref.inj (beq_iff_eq.mp z)).symm
theorem kit_nil {K : PySem.W.Frag} {t : Value} : PySem.W.kitAny K t [] = some false := rfl
theorem kit_no {K : PySem.W.Frag} {t c : Value} {r : List Value} (h : PySem.W.kitOne K t c = some false) (k : PySem.W.kitAny K t r = some false) : PySem.W.kitAny K t (c :: r) = some false := by
  unfold PySem.W.kitAny
  rw [h]
  exact k
theorem kit_other {K : PySem.W.Frag} {mg mg' : Str → Option Value} {C C' : Addr} {x qual x' qual' : Str} {B newId initId B' newId' initId' : String} {bm bm' : List Value} {st st' : Stmt} {fs fs' : List Str} (T : ClsAt K mg C x qual B newId initId bm st fs) (T' : ClsAt K mg' C' x' qual' B' newId' initId' bm' st' fs')
    (flat : bm.contains (.ref C') = false) (ne : C ≠ C') : PySem.W.kitOne K (.ref C) (.ref C') = some false := by
  rw [kit_two T T' flat, decide_eq_false ne]
theorem exm_self {K : PySem.W.Frag} {mg : Str → Option Value} {C : Addr} {x qual : Str} {B newId initId : String} {bm : List Value} {st : Stmt} {fs : List Str} (T : ClsAt K mg C x qual B newId initId bm st fs) (flat : bm.contains (.ref C) = false) : PySem.W.exmOne K (.ref C) (.ref C) = some true := by
  rw [exm_two T T flat, decide_eq_true rfl]

/-! ### promises that hold where nothing is being shown -/
structure FnG (P : Program) (w : World) (K : PySem.W.Frag) (mg : Str → Option Value) (base : Heap) (k : Nat) (f : Addr) (fd : FuncData) (ps : List Str) (sp : Sp) : Prop where
  len : ∀ vs H Q E, sp vs H Q E → vs.length = ps.length
  run : ∀ (A : Around) (out : List Env) (s : Shared) (H : Hp) (us : List Value) (vs : List V) (Q : VK) (E : XK), Room k A → A.guards = some [] → Env0 P w K mg base A out s H → BindsTo s fd ⟨us, []⟩ (ps.zip us) → Vals vs us → sp vs H Q E →
    codeAny (model P w) A (.call (.ref f) ⟨us, []⟩) (CR CX0 out P w H s Q E) s
structure HasG (P : Program) (w : World) (K : PySem.W.Frag) (mg : Str → Option Value) (base : Heap) (k : Nat) (x : Str) (ps : List Str) (sp : Sp) : Prop where
  ex : ∃ f fd, mg x = some (.ref f) ∧ PySem.W.keepIn K (.ref f) = true ∧ Binds K fd ps [] ∧ FnG P w K mg base k f fd ps sp
section
variable {P : Program} {w : World} {K : PySem.W.Frag} {mg : Str → Option Value} {base : Heap}
theorem fnG {x qual : Str} {st : Stmt} {f : Addr} {fd : FuncData} {N ps : List Str} {k : Nat} {sp : Sp} (F : Fun K x qual st f fd) (S : FnScope N ps (defScope st)) (len : ∀ vs H Q E, sp vs H Q E → vs.length = ps.length)
    (body : ∀ (cdv : Value) (A : Around) (out : List Env) (s : Shared) (H : Hp) (vs : List V) (Q : VK) (E : XK), Room k (A.deeper (envOfC qual (defScope st) s.heap.objs.size f cdv)) → (A.deeper (envOfC qual (defScope st) s.heap.objs.size f cdv)).guards = some [] → sp vs H Q E →
      ∃ t, PSs (cxOf CX0 P w K mg base N qual (defScope st) f cdv A out s H E).nox (defBody st) t ∧ t { nx := fun _ H' => Q .non H', rt := Q } (start N vs) H) : FnG P w K mg base (k + 1) f fd ps sp := by
  obtain ⟨oc, od, kV, doc, pm, an, cdv, ct, osl, rfl, lk, hcd⟩ := F.ex
  refine ⟨len, fun A out s H us vs Q E room calm e0 hb r hsp => ?_⟩
  have few := len _ _ _ _ hsp
  have kin : K.In s.heap := e0.mod.kin.keeps fun b o z => (e0.bs b o z).1
  have lim : s.heap.NoLimit := e0.mod.nolimit.keeps fun b o z => (e0.bs b o z).1
  have kinds : ∀ z ∈ ps.zip us, (defScope st).names.lookup z.1 = some .local ∨ ((defScope st).names.lookup z.1 = some .cell ∧ ((cellsFrom (s.heap.objs.size + 1) (defScope st).names []).lookup z.1).isSome = true) := by
    rintro ⟨n, v⟩ hz
    rcases S.par n (List.of_mem_zip hz).1 with z | z
    · exact .inl z
    · exact .inr ⟨z, PySem.W.cellsFrom_some _ _ _ (.inl z)⟩
  refine codeAny_call_function room.depth (kin _ _ lk) rfl S.co S.gen rfl (PySem.W.codeRec_of kin hcd) (hb _ _ _ _ ?_)
  refine wpAny_newFunctionEnv_cells S.kind kinds fun env he s1 z => ?_
  subst he
  refine ⟨lim.keeps z.toInCall.keep, codeAny_func ?_⟩
  obtain ⟨t, ht, hq⟩ := body cdv A out s H vs Q E (room.deeper _) calm hsp
  have I : Inv (cxOf CX0 P w K mg base N qual (defScope st) f cdv A out s H E) [] (start N vs) H s1 := inv_start S room.hd e0 few r z
  refine wpAny_mono (ht.nox.run [] s1 (start N vs) H _ I hq) (fun fl s2 hs => ?_) fun e s2 hs => hs
  cases fl with
  | ret u =>
    obtain ⟨v, σ2, H2, J, rv, q⟩ := hs
    exact ⟨v, H2, J.os, J.bare, J.base, J.hok, rv, q⟩
  | next =>
    obtain ⟨σ2, H2, J, q⟩ := hs
    exact ⟨.non, H2, J.os, J.bare, J.base, J.hok, rfl, q⟩
  | brk =>
    obtain ⟨_, _, _, q⟩ := hs
    exact q.elim
  | cont =>
    obtain ⟨_, _, _, q⟩ := hs
    exact q.elim
theorem has_ofG {x : Str} {st : Stmt} {N ps : List Str} {k : Nat} {sp : Sp} (A : At K mg x st) (S : FnScope N ps (defScope st)) (B : BindsAll x st ps) (len : ∀ vs H Q E, sp vs H Q E → vs.length = ps.length)
    (body : ∀ (f : Addr) (cdv : Value) (A : Around) (out : List Env) (s : Shared) (H : Hp) (vs : List V) (Q : VK) (E : XK), Room k (A.deeper (envOfC x (defScope st) s.heap.objs.size f cdv)) → (A.deeper (envOfC x (defScope st) s.heap.objs.size f cdv)).guards = some [] → sp vs H Q E →
      ∃ t, PSs (cxOf CX0 P w K mg base N x (defScope st) f cdv A out s H E).nox (defBody st) t ∧ t { nx := fun _ H' => Q .non H', rt := Q } (start N vs) H) : HasG P w K mg base (k + 1) x ps sp := by
  obtain ⟨f, fd, hm, F⟩ := A.ex
  exact ⟨f, fd, hm, F.kp, F.binds B, fnG F S len fun cdv A out s H vs Q E hr hg h => body f cdv A out s H vs Q E hr hg h⟩
theorem FnG.at_ {f : Addr} {fd : FuncData} {ps : List Str} {k : Nat} {sp : Sp} (G : FnG P w K mg base k f fd ps sp) (room : Room k callerA) : RunAt P w K mg base f fd ps sp :=
  fun s H us vs Q E e0 hb r hsp => G.run callerA [] s H us vs Q E room rfl e0 hb r hsp
end
section
variable {X : Cx} {k : Nat} {x : Str} {ps : List Str} {sp : Sp} {e : Expr} {es : List Expr} {t : TA} {p pos : Pos}
theorem pe_hasG (h : HasG X.prog X.w X.K X.mg X.base k x ps sp) (hr : Room k X.A) (hgd : X.A.guards = some []) (hg : Gl X x) (ha : PA X (e :: es) t)
    (hdb : (x == ("__debug__" : Str)) = false := by decide) (he : starEach (e :: es) X.env = (false, eval e X.env) :: starEach es X.env := by rfl) (hpl : (backTo pos (starEach es X.env)).any (·.1) = false := by rfl) :
    PE X (.Call (.Name x p) (e :: es) [] pos) (tCall sp [] E0 t) := by
  obtain ⟨f, fd, hm, hk, hb, F⟩ := h.ex
  refine ⟨fun pins s σ H Q I hw => ?_⟩
  refine wpAny_Call_Name_kw (ld_glob I hg hm ?_ hdb)
  refine PySem.W.callWith_K (h₀ := X.base) I.ok.mod.kin hk (thn (ha.run pos pins s σ H _ I hw) fun us s1 ⟨vs, H1, I1, r1, q⟩ => ⟨I1.kIn, ?_⟩) he hpl
  have q : sp vs H1 Q E0 := by
    have z : sp (vs ++ []) H1 Q E0 := q
    rwa [List.append_nil] at z
  have bd := hb s1 us I1.kIn (by rw [List.append_nil, ← r1.length]; exact F.len _ _ _ _ q)
  rw [List.append_nil] at bd
  refine wpAny_call (codeAny_mono (F.run X.A X.stack s1 H1 us vs Q E0 hr hgd I1.env0 bd r1 q) fun r s2 hq => ?_)
  cases r with
  | error e => exact pass0 pins σ H1 s1 e s2 I1 hq
  | ok fl =>
    cases fl with
    | ret u => exact I1.after hq
    | next => exact hq.elim
    | brk => exact hq.elim
    | cont => exact hq.elim
end
/-! ### repr of None, of a whole number, of a list -/
structure Showy (x : PyData) : Prop where
  s : x.showable = true
  n : x.hasDict = false
  d : x.depth ≤ 60
  l : x.shown.length ≤ sizeLine
theorem call_reprV {X : Cx} (hgd : X.A.guards = some []) (hu : X.A.units + 64 < cLine) : CallR X (.builtin "repr") (fun xs H Q => (xs = [.non] ∧ Q (.str "None") H) ∨ (∃ i, xs = [.int i] ∧ i.natAbs.log2 < 1920 ∧ Q (.str (toString i)) H) ∨
    ∃ a d, xs = [.ref a] ∧ Dp X.K H (.ref a) d ∧ Showy d ∧ Q (.str d.shown) H) := by
  intro pins s σ H xs us Q I r h
  rcases h with ⟨rfl, q⟩ | ⟨i, rfl, hi, q⟩ | ⟨a, d, rfl, hd, sh, q⟩
  · obtain ⟨u, rfl, ru⟩ := vals1 r
    cases ru
    exact PySem.P.repr_of_none ⟨.str "None", H, I.tok _, ⟨_, rfl⟩, q⟩
  · obtain ⟨u, rfl, t, rfl⟩ := vals1 r
    exact PySem.P.repr_of_int hi ⟨.str (toString i), H, I.tok _, ⟨_, rfl⟩, q⟩
  · obtain ⟨u, rfl, ru⟩ := vals1 r
    cases ru
    obtain ⟨as, rd⟩ := Dp.reads I d (.ref a) (.ref a) hd rfl
    have h3 := sh.d
    exact repr_of_reads' (s := s) rd sh.s (fun z => by rw [sh.n] at z; cases z) hgd (by omega) (fun _ _ z => z) (fun h2 u tk k => ⟨.str d.shown, H, I.kept (t' := tk) k, ⟨_, rfl⟩, q⟩) sh.l

/-! ### the draws -/
def spDraw : Sp := fun vs H Q _ => ∃ (t c : Addr) (m : Int) (n : Nat), vs = [.ref t, .int m] ∧ Tape H t c n ∧ n < 2 ^ 40 ∧ 0 < m ∧ m < 2 ^ 8000 ∧
  ∀ (H' : Hp) (r : Int), 0 ≤ r → r < m → Tape H' t c (n + 1) → Kp t H H' → Q (.int r) H'
theorem cell_at {ns : List Int} {spot : Int} (h0 : 0 < ns.length) (hs : 0 ≤ spot) : ∃ x, atI (ns.map V.int) (spot % ((ns.map V.int).length : Int)) = some (.int x) := by
  rw [List.length_map]
  have hp : (0 : Int) < (ns.length : Int) := by omega
  have h1 := Int.emod_nonneg spot (show (ns.length : Int) ≠ 0 by omega)
  have h2 := Int.emod_lt_of_pos spot hp
  have h3 : (spot % (ns.length : Int)).toNat < ns.length := by omega
  refine ⟨ns[(spot % (ns.length : Int)).toNat], at_of (j := (spot % (ns.length : Int)).toNat) (by omega) ?_⟩
  rw [List.getElem?_map, List.getElem?_eq_getElem h3]
  rfl
theorem log2_small {m : Int} (h0 : 0 < m) (h : m < 2 ^ 8000) : m.natAbs.log2 < 9000 := by
  have h2 : m.natAbs < 2 ^ 8000 := by
    have e : ((2 ^ 8000 : Nat) : Int) = (2 : Int) ^ 8000 := by rw [Int.natCast_pow]; rfl
    omega
  exact Nat.lt_of_lt_of_le (PySem.Flt.log2_lt_of (by decide) h2) (by decide)
theorem pow_ok {x spot : Int} {n : Nat} (h0 : 0 ≤ spot) (h1 : spot ≤ n) (h2 : n < 2 ^ 40) : CPow (x % 2147483647 + 69621 * spot + 48271) 17 := by
  have a := Int.emod_nonneg x (show (2147483647 : Int) ≠ 0 by decide)
  have b := Int.emod_lt_of_pos x (show (0 : Int) < 2147483647 by decide)
  refine ⟨by decide, by decide, ?_⟩
  have e : (2 : Nat) ^ 64 = 18446744073709551616 := by decide
  rw [e]
  omega
section
variable {P : Program} {w : World} {K : PySem.W.Frag} {mg : Str → Option Value} {base : Heap}
theorem has_draw {cs : Nat → Addr} (T : Top K mg cs) : Has P w K mg base 1 "_law_draw" ["_law_tape", "_law_many"] spDraw := by
  refine has_of T.d__law_draw sc__law_draw bd__law_draw (fun vs H Q E h => ?_) (fun f cdv A outer s H vs Q E hr h => ?_)
  · obtain ⟨t, c, m, n, rfl, _⟩ := h
    rfl
  · have hu := hu_of hr
    have nd := sc__law_draw.nd
    obtain ⟨t, c, m, n, rfl, ⟨ns, spot, left, tp, hs⟩, hn, hm, hm2, k⟩ := h
    refine ⟨_, (C8.pss_cut (ps_if (pt_cmpR op_lt (pe_dget hu (pv 0) pe_str (fun _ _ => rfl)) (pv 1) (nomark _)) (pss_cons (ps_par (i := 2) (j := 3) (by rfl) nd rfl rfl (by decide) rfl rfl (pa_cons (pe_dget hu (pv 0) pe_str (fun _ _ => rfl)) (pa_cons (pe_callB call_len_seq (by rfl) T.b_len (by decide +kernel) (pa_cons (pe_dget hu (pv 0) pe_str (fun _ _ => rfl)) pa_nil)) pa_nil)) (by rfl))
    (pss_cons (ps_asg (pe_tup (pa_cons (pe_ix ix_list (pe_dget hu (pv 0) pe_str (fun _ _ => rfl)) (pe_op op_mod (pv 2) (pv 3)) (fun _ _ => rfl)) (pa_cons (pe_op op_add (pv 2) pe_int) pa_nil))) (pg_tup (by rfl) (pgs_cons (pg_name (i := 4) nd rfl (.inl rfl)) (pgs_cons (pg_sub (pv 0) pe_str (set_dict hu)) pgs_nil))))
    (pss_cons (ps_dput hu (pv 0) pe_str (pe_op op_mod (pe_op op_pow (pe_op op_add (pe_op op_add (pe_op op_mod (pv 4) pe_int) (pe_op op_mul pe_int (pv 2))) pe_int) pe_int) (pe_op op_add (pe_op op_pow pe_int pe_int) pe_int)) rfl)
    (pss_one (ps_if (PW.pt (pw_and (pt_cmpR op_ge (pv 4) (pe_op op_pow pe_int pe_int) (nomark _)) (pw_and1 (pt_cmpR op_lt (pv 2) (pv 3) (nomark _))))) (pss_one (ps_dput hu (pv 0) pe_str (pe_op op_sub (pv 4) (pe_op op_pow pe_int pe_int)) rfl)) pss_nil))))) pss_nil)
    (pss_cons (ps_asg (pe_tup (pa_cons (pe_op op_mod (pe_dget hu (pv 0) pe_str (fun _ _ => rfl)) (pv 1)) (pa_cons (pe_op op_fdivW (pe_dget hu (pv 0) pe_str (fun _ _ => rfl)) (pv 1)) pa_nil))) (pg_tup (by rfl) (pgs_cons (pg_name (i := 5) nd rfl (.inl rfl)) (pgs_cons (pg_sub (pv 0) pe_str (set_dict hu)) pgs_nil))))
    (pss_one (ps_ret (pv 5))))), ?_⟩
    refine ⟨fun σ' H' => ∃ (v2 v3 v4 v5 : Option V) (spot' left' : Int), σ' = [some (.ref t), some (.int m), v2, v3, v4, v5] ∧ TapeC H' t c ns spot' left' ∧ spot' ≤ ((n + 1 : Nat) : Int) ∧ Kp t H H', ?_, ?_⟩
    · refine ⟨_, rfl, t, _, rfl, dg_left tp.d, _, rfl, _, _, rfl, rfl, _, rfl, ite2 (fun _ => ?_) (fun _ => ?_)⟩
      · obtain ⟨x, hx⟩ := cell_at tp.ne tp.s0
        refine ⟨_, rfl, t, _, rfl, dg_spot tp.d, _, rfl, t, _, rfl, dg_cells tp.d, c, _, rfl, .inl (SqL.of tp.l), _, _, rfl, ?_⟩
        refine ⟨_, rfl, t, _, rfl, dg_cells tp.d, _, rfl, _, rfl, _, _, rfl, rfl, ?_, c, _, _, _, rfl, rfl, SqL.of tp.l, hx, _, rfl, _, _, rfl, rfl, by show 2 ≤ sizeLine; decide, fun p hp => ?_⟩
        · show (0 : Int) < ((ns.map V.int).length : Int)
          rw [List.length_map]
          have := tp.ne
          omega
        have h1 : (upd H p (.tup [.int x, .int (spot + 1)])) t = some (.dK (tk c spot left)) := by
          rw [upd_ne (ne_of_none tp.d hp)]
          exact tp.d
        refine ⟨p, _, rfl, SqT.of upd_same, rfl, _, _, rfl, _, _, rfl, _, rfl, t, _, rfl, dp_spot _ h1, rfl, ?_⟩
        have c1 : (upd (upd H p (.tup [.int x, .int (spot + 1)])) t (.dK (tk c (spot + 1) left))) c = some (.lst (ns.map V.int)) := by
          rw [upd_ne (show c ≠ t from ne_of tp.l tp.d (by intro z; cases z)), upd_ne (ne_of_none tp.l hp)]
          exact tp.l
        refine ⟨_, rfl, _, _, rfl, rfl, by show (0 : Int) < 2147483647; decide, _, rfl, _, _, rfl, rfl, .inl ⟨by decide, by decide⟩, _, _, rfl, rfl, _, _, rfl, rfl, _, _, rfl, rfl, pow_ok tp.s0 hs hn, _, _, rfl, rfl, ⟨by decide, by decide, by decide⟩, _, _, rfl, rfl, _, _, rfl, rfl, ?_, _, rfl, t, _, rfl, dp_left _ upd_same, ?_⟩
        · show (0 : Int) < 10 ^ (50 : Int).toNat + 151
          decide
        have kp : ∀ z, Kp t H (upd (upd (upd H p (.tup [.int x, .int (spot + 1)])) t (.dK (tk c (spot + 1) left))) t (.dK (tk c (spot + 1) z))) := fun z => ((Kp.new hp).trans Kp.at).trans Kp.at
        have tq : ∀ z, 0 ≤ z → TapeC (upd (upd (upd H p (.tup [.int x, .int (spot + 1)])) t (.dK (tk c (spot + 1) left))) t (.dK (tk c (spot + 1) z))) t c ns (spot + 1) z := fun z hz =>
          ⟨upd_same, by rw [upd_ne (show c ≠ t from ne_of tp.l tp.d (by intro z; cases z))]; exact c1, tp.ne, tp.lt, by have := tp.s0; omega, hz⟩
        have h0 : ∀ a : Int, 0 ≤ a % (10 ^ (50 : Int).toNat + 151) := fun a => Int.emod_nonneg _ (by decide)
        refine ⟨_, rfl, _, _, rfl, rfl, ⟨by decide, by decide, by decide⟩, _, _, rfl, rfl, _, rfl, ite2 (fun hc => ?_) (fun _ => iteF ?_)⟩
        · refine ⟨_, rfl, _, rfl, _, _, rfl, rfl, _, rfl, ite2 (fun _ => ?_) (fun _ => ?_)⟩
          · refine ⟨_, rfl, _, _, rfl, rfl, ⟨by decide, by decide, by decide⟩, _, _, rfl, rfl, _, rfl, t, _, rfl, dp_left _ upd_same, ?_⟩
            have hz : (10 : Int) ^ (18 : Int).toNat ≤ x := of_decide_eq_true hc
            exact ⟨_, _, _, _, spot + 1, x - 10 ^ (18 : Int).toNat, rfl, ⟨upd_same, by rw [upd_ne (show c ≠ t from ne_of tp.l tp.d (by intro z; cases z))]; exact (tq _ (h0 _)).l, tp.ne, tp.lt, by have := tp.s0; omega, by omega⟩, by omega, (kp _).trans Kp.at⟩
          · exact ⟨_, _, _, _, _, _, rfl, tq _ (h0 _), by omega, kp _⟩
        · exact ⟨_, _, _, _, _, _, rfl, tq _ (h0 _), by omega, kp _⟩
      · exact ⟨_, _, _, _, _, _, rfl, tp, by omega, Kp.refl _⟩
    · rintro σ' H' ⟨v2, v3, v4, v5, spot', left', rfl, tp', hs', kp⟩
      refine ⟨_, rfl, t, _, rfl, dg_left tp'.d, _, rfl, _, _, rfl, rfl, hm, _, rfl, t, _, rfl, dg_left tp'.d, _, rfl, _, _, rfl, rfl, ⟨hm, ?_⟩, by show 2 ≤ sizeLine; decide, fun p hp => ?_⟩
      · exact log2_small hm hm2
      have h1 : ∀ o, (upd H' p o) t = some (.dK (tk c spot' left')) := fun o => by
          rw [upd_ne (ne_of_none tp'.d hp)]
          exact tp'.d
      refine ⟨p, _, rfl, SqT.of upd_same, rfl, _, _, rfl, _, _, rfl, _, rfl, t, _, rfl, dp_left _ (h1 _), rfl, ?_⟩
      refine ⟨_, rfl, k _ _ (Int.emod_nonneg _ (by omega)) (Int.emod_lt_of_pos _ hm) ?_ ?_⟩
      · exact ⟨ns, spot', _, ⟨upd_same, by rw [upd_ne (show c ≠ t from ne_of tp'.l tp'.d (by intro z; cases z)), upd_ne (ne_of_none tp'.l hp)]; exact tp'.l, tp'.ne, tp'.lt, tp'.s0, Int.ediv_nonneg tp'.l0 (by omega)⟩, hs'⟩
      · exact (kp.trans (Kp.new hp)).trans Kp.at
/-- a pick from a list or a tuple -/
def spPick (K : PySem.W.Frag) : Sp := fun vs H Q _ => ∃ (t c a : Addr) (xs : List V) (n : Nat), vs = [.ref t, .ref a] ∧ Tape H t c n ∧ n < 2 ^ 40 ∧ (∀ H', Kp t H H' → SqL K H' a xs ∨ SqT K H' a xs) ∧ 0 < xs.length ∧ xs.length ≤ 1000000 ∧
  ∀ (H' : Hp) (i : Nat) (v : V), xs[i]? = some v → Tape H' t c (n + 1) → Kp t H H' → Q v H'
theorem atI_ofN {α : Type} {xs : List α} {z : Int} {j : Nat} {v : α} (e : z = (j : Int)) (h : xs[j]? = some v) : atI xs z = some v := by
  rw [e]
  exact atI_nat h
/-- a pick from a text -/
def spPickS : Sp := fun vs H Q _ => ∃ (t c : Addr) (z : Str) (n : Nat), vs = [.ref t, .str z] ∧ Tape H t c n ∧ n < 2 ^ 40 ∧ 0 < z.length ∧ z.length ≤ 1000000 ∧
  ∀ (H' : Hp) (i u : Nat), z.cps.toList[i]? = some u → Tape H' t c (n + 1) → Kp t H H' → Q (.str ⟨#[u]⟩) H'
def spPick2 (K : PySem.W.Frag) : Sp := fun vs H Q E => spPick K vs H Q E ∨ spPickS vs H Q E
theorem call_len_any {X : Cx} : CallR X (.builtin "len") (fun xs H Q => (∃ p ys, xs = [.ref p] ∧ (SqL X.K H p ys ∨ SqT X.K H p ys) ∧ Q (.int (ys.length : Nat)) H) ∨ ∃ z : Str, xs = [.str z] ∧ z.length ≤ sizeLine ∧ Q (.int z.length) H) := by
  intro pins s σ H xs us Q I r h
  rcases h with h | h
  · exact call_len_seq pins s σ H xs us Q I r h
  · exact call_len_str pins s σ H xs us Q I r h
theorem has_pick {cs : Nat → Addr} (T : Top K mg cs) (h__law_draw : Has P w K mg base 1 "_law_draw" ["_law_tape", "_law_many"] spDraw) : Has P w K mg base 2 "_law_pick" ["_law_tape", "_law_some"] (spPick2 K) := by
  refine has_of T.d__law_pick sc__law_pick bd__law_pick (fun vs H Q E h => ?_) (fun f cdv A outer s H vs Q E hr h => ?_)
  · rcases h with ⟨t, c, a, xs, n, rfl, _⟩ | ⟨t, c, z, n, rfl, _⟩ <;> rfl
  · have hu := hu_of hr
    have nd := sc__law_pick.nd
    refine ⟨_, (pss_one (ps_ret (pe_ix ix_seq (pv 1) (pe_has h__law_draw (hr.mono (by omega)) (by rfl) (pa_cons (pv 0) (pa_cons (pe_callB call_len_any (by rfl) T.b_len (by decide +kernel) (pa_cons (pv 1) pa_nil)) pa_nil))) (fun _ _ => rfl)))), ?_⟩
    rcases h with ⟨t, c, a, xs, n, rfl, tp, hn, hs, h0, h1, k⟩ | ⟨t, c, z, n, rfl, tp, hn, h0, h1, k⟩
    · refine ⟨_, rfl, _, rfl, _, rfl, .inl ⟨a, xs, rfl, hs H (Kp.refl _), t, c, _, n, rfl, tp, hn, by omega, ?_, fun H' r r0 r1 tp' kp => ?_⟩⟩
      · exact Int.lt_of_le_of_lt (Int.ofNat_le.mpr h1) (by decide +kernel)
      have hi : r.toNat < xs.length := by omega
      have g : xs[r.toNat]? = some xs[r.toNat] := List.getElem?_eq_getElem hi
      rcases hs H' kp with z | z
      · exact .inl ⟨a, xs, r, _, rfl, rfl, z, at_of (by omega) g, k H' _ _ g tp' kp⟩
      · exact .inr (.inl ⟨a, xs, r, _, rfl, rfl, z, at_of (by omega) g, k H' _ _ g tp' kp⟩)
    · have lin : z.length ≤ sizeLine := Nat.le_trans h1 (by decide)
      refine ⟨_, rfl, _, rfl, _, rfl, .inr ⟨z, rfl, lin, t, c, _, n, rfl, tp, hn, by omega, ?_, fun H' r r0 r1 tp' kp => ?_⟩⟩
      · exact Int.lt_of_le_of_lt (Int.ofNat_le.mpr h1) (by decide +kernel)
      have hi : r.toNat < z.cps.toList.length := by
        have e : z.cps.toList.length = z.length := by rw [Array.length_toList]; rfl
        omega
      have g : z.cps.toList[r.toNat]? = some z.cps.toList[r.toNat] := List.getElem?_eq_getElem hi
      refine .inr (.inr ⟨z, r, _, rfl, rfl, lin, ?_, k H' _ _ g tp' kp⟩)
      exact atI_ofN (by omega) g
/-- the tape's beginning -/
def spBegun (K : PySem.W.Frag) : Sp := fun vs H Q _ => ∃ (a : Addr) (ns : List Int), vs = [.ref a] ∧ SqL K H a (ns.map V.int) ∧ ns.length ≤ 63 ∧
  ∀ (H' : Hp) (t c : Addr), H t = none → H c = none → Same H H' → Tape H' t c 0 → Q (.ref t) H'
theorem has_begun {cs : Nat → Addr} (T : Top K mg cs) : Has P w K mg base 1 "_law_begun" ["_law_script"] (spBegun K) := by
  refine has_of T.d__law_begun sc__law_begun bd__law_begun (fun vs H Q E h => ?_) (fun f cdv A outer s H vs Q E hr h => ?_)
  · obtain ⟨a, ns, rfl, _⟩ := h
    rfl
  · have hu := hu_of hr
    have nd := sc__law_begun.nd
    obtain ⟨a, ns, rfl, hS, hl, k⟩ := h
    refine ⟨_, (pss_one (ps_ret (pe_disp (pps_cons pe_str (pe_orT (pe_slice sl_list (pv 0) po_none (po_some pe_int)) (pe_one (pe_lst (pa_cons pe_int pa_nil)))) (pps_cons pe_str pe_int (pps_cons pe_str pe_int pps_nil))) (by rfl) (by rfl) (fun z => by cases z) (by decide)))), ?_⟩
    intro t ht
    have s1 := same_new (o := .dK []) ht
    refine ⟨_, rfl, 63, rfl, a, _, rfl, s1.seq hS, fun q hq => ?_⟩
    have ec : cutV (ns.map V.int) none (some 63) = ns.map V.int := by
      unfold cutV
      rw [HT.sIx_none, show HT.sIx (ns.map V.int).length (ns.map V.int).length (some 63) = min 63 (ns.map V.int).length from HT.sIx_nat _ _ 63, List.drop_zero, List.length_map]
      refine List.take_of_length_le ?_
      rw [List.length_map]
      omega
    rw [ec]
    have nqt : q ≠ t := fun e => by
      rw [e, upd_same] at hq
      cases hq
    have nq : H q = none := by
      rw [← hq, upd_ne nqt]
    cases hns : ns with
    | cons z zs =>
      refine ⟨true, .inl ⟨_, SqL.of upd_same, rfl⟩, iteT ?_⟩
      refine ⟨by rw [upd_ne nqt.symm]; exact upd_same, tk q 0 0, rfl, by show 3 ≤ 15; decide, ?_⟩
      refine k _ t q ht nq (fun b o e => ?_) ⟨z :: zs, 0, 0, ⟨upd_same, by rw [upd_ne nqt]; exact upd_same, by rw [List.length_cons]; omega, by rw [← hns]; exact hl, by decide, by decide⟩, by decide⟩
      rw [upd_ne (ne_of_none e ht), upd_ne (ne_of_none e nq), upd_ne (ne_of_none e ht)]
      exact e
    | nil =>
      refine ⟨false, .inl ⟨_, SqL.of upd_same, rfl⟩, iteF ?_⟩
      refine ⟨by show 1 ≤ sizeLine; decide, fun p hp => ?_⟩
      have npq : p ≠ q := fun e => by
        rw [e, upd_same] at hp
        cases hp
      have npt : p ≠ t := fun e => by
        rw [e, upd_ne nqt.symm, upd_same] at hp
        cases hp
      have np : H p = none := by
        rw [← hp, upd_ne npq, upd_ne npt]
      refine ⟨by rw [upd_ne npt.symm, upd_ne nqt.symm]; exact upd_same, tk p 0 0, rfl, by show 3 ≤ 15; decide, ?_⟩
      refine k _ t p ht np (fun b o e => ?_) ⟨[0], 0, 0, ⟨upd_same, by rw [upd_ne npt]; exact upd_same, by decide, by decide, by decide, by decide⟩, by decide⟩
      rw [upd_ne (ne_of_none e ht), upd_ne (ne_of_none e np), upd_ne (ne_of_none e nq), upd_ne (ne_of_none e ht)]
      exact e
end

/-! ### small things -/
theorem int_at {rs : List Int} {i : Nat} {x : V} (h : (rs.map V.int)[i]? = some x) : ∃ r, x = .int r ∧ rs[i]? = some r := by
  rw [List.getElem?_map] at h
  cases e : rs[i]? with
  | none =>
    rw [e] at h
    cases h
  | some r =>
    rw [e] at h
    exact ⟨r, (Option.some.inj h).symm, rfl⟩
/-- the truth that is told of a number of a clause -/
theorem pick_int {zs : List Int} {i : Nat} {v : V} (h : (zs.map V.int)[i]? = some v) : ∃ z, v = .int z ∧ z ∈ zs := by
  obtain ⟨r, e, hr⟩ := int_at h
  exact ⟨r, e, List.mem_of_getElem? hr⟩
theorem seq_in {n : Nat} {i : Int} (h0 : 0 ≤ i) (h1 : i < n) : seqIndex? i n = some i.toNat := by
  have e : ixN n i = some i.toNat := by
    unfold ixN
    rw [if_pos h0, if_pos h1]
  exact (ixN_seq e).1
theorem pow8000 {x : Int} (h : x ≤ 1000000) : x < 2 ^ 8000 := Int.lt_of_le_of_lt h (by decide +kernel)
theorem Tape.sq {H : Hp} {t c p : Addr} {n : Nat} {xs : List V} (h : Tape H t c n) (e : H p = some (.lst xs)) {H' : Hp} (k : Kp t H H') : H' p = some (.lst xs) := k p _ e (by
  obtain ⟨ns, spot, left, tc, _⟩ := h
  exact ne_of e tc.d (by intro z; cases z))
theorem Tape.ne_lst' {H : Hp} {t c p : Addr} {n : Nat} {xs : List V} (h : Tape H t c n) (e : H p = some (.lst xs)) : p ≠ t := by
  obtain ⟨ns, spot, left, tc, _⟩ := h
  exact ne_of e tc.d (by intro z; cases z)
theorem getElem_snoc {α : Type} {xs : List α} {x y : α} {i : Nat} (h : (xs ++ [x])[i]? = some y) : (i < xs.length ∧ xs[i]? = some y) ∨ (i = xs.length ∧ x = y) := by
  by_cases c : i < xs.length
  · rw [List.getElem?_append_left c] at h
    exact .inl ⟨c, h⟩
  · rw [List.getElem?_append_right (by omega)] at h
    have l := (List.getElem?_eq_some_iff.mp h).1
    simp only [List.length_cons, List.length_nil] at l
    have e : i - xs.length = 0 := by omega
    rw [e] at h
    exact .inr ⟨by omega, Option.some.inj h⟩
theorem same_mut {H H' : Hp} {D : Addr} {o : HO} (s : Same H H') (h : H D = none) : Same H (upd H' D o) := fun b u e => by
  rw [upd_ne (ne_of_none e h)]
  exact s b u e
theorem take_snoc {xs : List Int} {i : Nat} {x : Int} (h : xs[i]? = some x) : xs.take (i + 1) = xs.take i ++ [x] := by
  rw [List.take_add_one, h]
  rfl

/-! ### rules: a text a few times, a tuple a few times -/
theorem op_repTK {X : Cx} {K : PySem.W.Frag} (h : X.K = K) : OpR X (binaryOp .Mult) (rRepT K) := h ▸ op_repT
def repS (k : Int) (z : Str) : Str := ⟨(List.replicate k.toNat z.cps).foldl (· ++ ·) #[]⟩
theorem op_repS {X : Cx} : OpR X (binaryOp .Mult) (fun x y H Q => ∃ (z : Str) (k : Int), x = .str z ∧ y = .int k ∧ 2 ≤ k ∧ k ≤ 1000 ∧ 1 ≤ z.length ∧ z.length ≤ 1000 ∧ (repS k z).length ≤ sizeLine ∧ Q (.str (repS k z)) H) := by
  intro pins s σ H x y v u Q I rx ry h
  obtain ⟨z, k, rfl, rfl, h1, h2, h3, h4, h5, q⟩ := h
  obtain ⟨t, rfl⟩ := rx
  obtain ⟨t', rfl⟩ := ry
  have c1 : ¬ k < 1 := by omega
  have c2 : (k == 1 || z.length == 0) = false := by
    rw [Bool.or_eq_false_iff]
    exact ⟨by simp; omega, by simp; omega⟩
  refine PySem.P.mul_str ?_ (fun _ _ => ?_) (fun _ _ => ?_) ?_
  · rw [Bool.or_eq_false_iff]
    exact ⟨decide_eq_false (by omega), decide_eq_false (by omega)⟩
  · have e : (1000 : Int) ≤ (2 ^ 63 - 1) / k := (Int.le_ediv_iff_mul_le (by omega)).mpr (by omega)
    omega
  · have e : z.length * k.toNat ≤ 1000 * 1000 := Nat.mul_le_mul h4 (by omega)
    have e2 : sizeLine = 16777216 := sizeLine_eq
    show decide (_ > sizeLine) = false
    refine decide_eq_false ?_
    omega
  · rw [if_neg c1, if_neg (by rw [c2]; exact Bool.false_ne_true)]
    exact ⟨h5, .str (repS k z), H, I.tok _, ⟨_, rfl⟩, q⟩
/-- a def whose promise can't be asked -/
theorem has_zero {P : Program} {w : World} {K : PySem.W.Frag} {mg : Str → Option Value} {base : Heap} {x : Str} {st : Stmt} {ps : List Str} {sp : Sp} (A : At K mg x st) (B : BindsAll x st ps) (no : ∀ vs H Q E, ¬ sp vs H Q E) : Has P w K mg base 0 x ps sp := by
  obtain ⟨f, fd, hm, F⟩ := A.ex
  exact ⟨f, fd, hm, F.kp, F.binds B, fun vs H Q E h => absurd h (no _ _ _ _), fun A out s H args us vs Q E _ _ _ _ h => absurd h (no _ _ _ _)⟩
/-! ### data made of tuples: they stay whatever becomes of lists -/
mutual
inductive Tp (H : Hp) : V → PyData → Prop
  | non : Tp H .non .none
  | bl (b : Bool) : Tp H (.bl b) (.bool b)
  | int (i : Int) : Tp H (.int i) (.int i)
  | str (x : Str) : Tp H (.str x) (.str x)
  | tup {a : Addr} {xs : List V} {ds : List PyData} : H a = some (.tup xs) → TpAll H xs ds → Tp H (.ref a) (.tuple ds)
inductive TpAll (H : Hp) : List V → List PyData → Prop
  | nil : TpAll H [] []
  | cons {v : V} {vs : List V} {d : PyData} {ds : List PyData} : Tp H v d → TpAll H vs ds → TpAll H (v :: vs) (d :: ds)
end
/-- tuples stay -/
def KT (H H' : Hp) : Prop := ∀ a xs, H a = some (.tup xs) → H' a = some (.tup xs)
theorem KT.refl {H : Hp} : KT H H := fun _ _ h => h
theorem KT.trans {H H1 H2 : Hp} (a : KT H H1) (b : KT H1 H2) : KT H H2 := fun c xs h => b c xs (a c xs h)
theorem KT.same {H H' : Hp} (s : Same H H') : KT H H' := fun a xs h => s a _ h
theorem KT.kp {H H' : Hp} {t c : Addr} {n : Nat} (tp : Tape H t c n) (k : Kp t H H') : KT H H' := fun a xs h => by
  obtain ⟨ns', sp', lf', tc, _⟩ := tp
  exact k _ _ h (ne_of h tc.d (by intro z; cases z))
theorem KT.lst {H : Hp} {D : Addr} {xs : List V} {o : HO} (h : H D = some (.lst xs)) : KT H (upd H D o) := fun a ys e => by
  rw [upd_ne (ne_of e h (by intro z; cases z))]
  exact e
theorem KT.new {H : Hp} {p : Addr} {o : HO} (h : H p = none) : KT H (upd H p o) := KT.same (same_new h)
mutual
theorem Tp.kt {H H' : Hp} (s : KT H H') : ∀ {v : V} {d : PyData}, Tp H v d → Tp H' v d
  | _, _, .non => .non
  | _, _, .bl b => .bl b
  | _, _, .int i => .int i
  | _, _, .str x => .str x
  | _, _, .tup h r => .tup (s _ _ h) (TpAll.kt s r)
theorem TpAll.kt {H H' : Hp} (s : KT H H') : ∀ {vs : List V} {ds : List PyData}, TpAll H vs ds → TpAll H' vs ds
  | _, _, .nil => .nil
  | _, _, .cons h r => .cons (Tp.kt s h) (TpAll.kt s r)
end
mutual
theorem Tp.dp {K : PySem.W.Frag} {H : Hp} : ∀ {v : V} {d : PyData}, Tp H v d → Dp K H v d
  | _, _, .non => .non
  | _, _, .bl b => .bl b
  | _, _, .int i => .int i
  | _, _, .str x => .str x
  | _, _, .tup h r => .tup (SqT.of h) (TpAll.dp r)
theorem TpAll.dp {K : PySem.W.Frag} {H : Hp} : ∀ {vs : List V} {ds : List PyData}, TpAll H vs ds → DpAll K H vs ds
  | _, _, .nil => .nil
  | _, _, .cons h r => .cons (Tp.dp h) (TpAll.dp r)
end
theorem TpAll.snoc {H : Hp} {v : V} {d : PyData} : ∀ {vs : List V} {ds : List PyData}, TpAll H vs ds → Tp H v d → TpAll H (vs ++ [v]) (ds ++ [d])
  | _, _, .nil, h => .cons h .nil
  | _, _, .cons a r, h => .cons a (r.snoc h)
theorem TpAll.app {H : Hp} {ws : List V} {es : List PyData} : ∀ {vs : List V} {ds : List PyData}, TpAll H vs ds → TpAll H ws es → TpAll H (vs ++ ws) (ds ++ es)
  | _, _, .nil, h => h
  | _, _, .cons a r, h => .cons a (r.app h)
theorem TpAll.len {H : Hp} : ∀ {vs : List V} {ds : List PyData}, TpAll H vs ds → vs.length = ds.length
  | _, _, .nil => rfl
  | _, _, .cons _ r => by rw [List.length_cons, List.length_cons, r.len]
theorem TpAll.get {H : Hp} : ∀ {vs : List V} {ds : List PyData} {i : Nat} {d : PyData}, TpAll H vs ds → ds[i]? = some d → ∃ v, vs[i]? = some v ∧ Tp H v d
  | _, _, _, _, .nil, e => by cases e
  | _, _, 0, _, .cons a _, e => ⟨_, rfl, by cases e; exact a⟩
  | _, _, i + 1, _, .cons _ r, e => r.get e
theorem tp_rep {H : Hp} {v : V} {d : PyData} (h : Tp H v d) : ∀ n, TpAll H (List.replicate n v) (List.replicate n d)
  | 0 => .nil
  | n + 1 => .cons h (tp_rep h n)
theorem Tp.new {H : Hp} {p : Addr} {xs : List V} {ds : List PyData} (n : H p = none) (r : TpAll H xs ds) : Tp (upd H p (.tup xs)) (.ref p) (.tuple ds) := .tup upd_same (r.kt (KT.new n))
theorem flat_one {v : V} : ∀ n : Nat, (List.replicate n [v]).flatten = List.replicate n v
  | 0 => rfl
  | n + 1 => by
    rw [List.replicate_succ, List.flatten_cons, flat_one n]
    rfl
/-! ### a comprehension over a range, whose items are new -/
section
variable {K : PySem.W.Frag} {tt : TT} {te : TE} {vs : List Nat} {σ : L2.St} {H : Hp} {D : Addr} {Qd : Hp → Prop} {j : Nat}
theorem lc_rangeC {lo c : Int} {n : Nat} {g : TG} (Pv : Nat → Hp → Prop) (h0 : Pv 0 (upd H D (.lst [])))
    (hs : ∀ i H, i < n → Pv i H → g (.int (lo + (i : Nat) * c)) (wipe σ vs) H fun σ2 H2 => wipe σ2 vs = wipe σ vs ∧ tt σ2 H2 fun b H3 =>
      if b = true then te σ2 H3 fun y H4 => ∃ acc, H4 D = some (.lst acc) ∧ acc.length < sizeLine ∧ Pv (i + 1) (upd H4 D (.lst (acc ++ [y]))) else Pv (i + 1) H3) (hd : ∀ H, Pv n H → Qd H) :
    ∃ W : Nat → Nat → Hp → Prop, (∃ m, W 0 m (upd H D (.lst []))) ∧ ∀ i m H, W i m H →
      ((Itc lo c n).stop i H ∧ Qd H) ∨ ((Itc lo c n).go i H ∧ ∃ Nx : Hp → Prop, (∀ H', Nx H' → ∃ m', m' < m ∧ W (i + 1) m' H') ∧ ∀ x H', (Itc lo c n).yld i H x H' → g x (wipe σ vs) H' fun σ2 H2 => wipe σ2 vs = wipe σ vs ∧ tt σ2 H2 fun b H3 =>
        if b = true then te σ2 H3 fun y H4 => ∃ acc, H4 D = some (.lst acc) ∧ acc.length < sizeLine ∧ Nx (upd H4 D (.lst (acc ++ [y]))) else Nx H3) := by
  refine ⟨fun i m H => m = n - i ∧ i ≤ n ∧ Pv i H, ⟨n, by simp, Nat.zero_le _, h0⟩, ?_⟩
  rintro i m H ⟨rfl, hi, p⟩
  by_cases hlt : i < n
  · refine .inr ⟨hlt, Pv (i + 1), fun H' p' => ⟨n - (i + 1), by omega, rfl, hlt, p'⟩, fun x H' y => ?_⟩
    obtain ⟨rfl, rfl⟩ := y
    exact hs i H' hlt p
  · have e : i = n := by omega
    subst e
    exact .inl ⟨Nat.le_refl _, hd H p⟩
/-- what stands at a turn: so many items that are data -/
structure TpT (H H' : Hp) (D : Addr) (ds : List PyData) : Prop where
  s : Same H H'
  ex : ∃ xs, H' D = some (.lst xs) ∧ TpAll H' xs ds
theorem TpT.new (hD : H D = none) : TpT H (upd H D (.lst [])) D [] := ⟨same_new hD, [], upd_same, .nil⟩
/-- an item more -/
theorem TpT.put {H1 H2 : Hp} {y : V} {d : PyData} {ds : List PyData} (hD : H D = none) (p : TpT H H1 D ds) (s : Same H1 H2) (small : ds.length < sizeLine) (hy : Tp H2 y d) :
    ∃ acc, H2 D = some (.lst acc) ∧ acc.length < sizeLine ∧ TpT H (upd H2 D (.lst (acc ++ [y]))) D (ds ++ [d]) := by
  obtain ⟨xs, e, r⟩ := p.ex
  have e2 := s _ _ e
  refine ⟨xs, e2, by rw [r.len]; exact small, same_mut (p.s.trans s) hD, _, upd_same, ?_⟩
  exact ((r.kt (KT.same s)).snoc hy).kt (KT.lst e2)
end

/-! ### a tuple once; a list that a tuple is put behind -/
theorem tuple_mul1 (l : Addr) (items : Array Value) (n : Nat) (dd : Option Addr) (sl : Array (Option Value)) (u : Tok) :
    Meets (Builtin.«tuple.__mul__» ⟨[.ref l, .int 1 u], []⟩) (fun _ R s => s.heap.get? l = some { cls := .type "tuple", dict := dd, data := .seq items n, slots := sl } ∧ R (.ok (.ret (Value.ref l))) s) :=
  .of_wp fun prog w A R s h => by
    obtain ⟨hp, g, d, tk, os⟩ := s
    obtain ⟨hl, h⟩ := h
    have f1 := AutoSeq1.idx_int
    have c1 : (items.isEmpty || (1 : Int) == 1) = true := by
      rw [show ((1 : Int) == 1) = true from rfl, Bool.or_true]
    wp_walk using wpAny_loadPart' hl
    repeat (first
      | (refine wpAny_ite_true (decide_eq_true (by rw [c1])) ?_; wp_walk using wpAny_loadPart' hl)
      | (refine wpAny_ite_false (by decide) ?_; wp_walk using wpAny_loadPart' hl))
    exact ⟨_, rfl, h⟩
theorem list_extendT (l : Addr) (items : Array Value) (n : Nat) (b : Addr) (items2 : Array Value) (n2 : Nat) (dd : Option Addr) (sl : Array (Option Value)) (hs0 : ¬(!items.isEmpty && Builtin.List.listTooLong (items.size + items2.size)) = true) (hs1 : items.size ≤ sizeLine) (hs2 : items.size + items2.size ≤ sizeLine + 1) :
    Meets (Builtin.«list.extend» ⟨[.ref l, .ref b], []⟩) (fun _ R s => s.heap.get? l = some { cls := .type "list", dict := none, data := .seq items n, slots := #[] } ∧ s.heap.get? b = some { cls := .type "tuple", dict := dd, data := .seq items2 n2, slots := sl } ∧ R (.ok (.ret Value.none)) { s with heap := s.heap.update l (Obj.mapSeq fun x => x ++ items2), toks := s.toks }) :=
  .of_wp fun prog w A R s h => by
    obtain ⟨hp, g, d, tk, os⟩ := s
    obtain ⟨hl, hb, h⟩ := h
    have f1 := AutoSeq1.idx_int
    have f2 := AutoSeq1.sub_tuple_tuple
    have f3 := AutoSeq1.sub_list_list
    have f4 := AutoSeq1.sub_tuple_list
    have f5 := AutoSeq1.sub_list_tuple
    have hz' : (items ++ items2).size ≤ sizeLine + 1 := by rw [Array.size_append]; exact hs2
    wp_walk using (wpAny_updateSeq hl rfl (hz := hs1) (_hz' := hz')), wpAny_loadPart' hl, wpAny_loadPart' hb
    exact ⟨_, rfl, h⟩
section
variable {X : Cx}
def rExtendT (K : PySem.W.Frag) : V → List V → Hp → VK → Prop := fun x vs H Q => ∃ l b xs zs, x = .ref l ∧ vs = [.ref b] ∧ H l = some (.lst xs) ∧ SqT K H b zs ∧ xs.length + zs.length ≤ sizeLine ∧ Q .non (upd H l (.lst (xs ++ zs)))
theorem mt_extendT : MtM X "list.extend" (rExtendT X.K) := by
  intro pins s σ H x vs v us Q I rx rv h
  obtain ⟨l, b, xs, zs, rfl, rfl, hH, hB, hz, q⟩ := h
  cases rx
  obtain ⟨u, rfl, ru⟩ := rv.one
  cases ru
  obtain ⟨z, its, n, r, hl, e⟩ := I.lstM hH
  obtain ⟨its2, r2, ⟨⟨cls, dd, data, sl⟩, ho, hc, n2, hd⟩, hs⟩ := I.tuple hB
  simp only at hc hd
  subst hc hd
  have l2 : its2.length = zs.length := r2.length.symm
  have hsz : its.toArray.size + its2.toArray.size ≤ sizeLine := by rw [List.size_toArray, List.size_toArray]; omega
  have hlong : ¬ (!its.toArray.isEmpty && Builtin.List.listTooLong (its.toArray.size + its2.toArray.size)) = true := by
    have e : Builtin.List.listTooLong (its.toArray.size + its2.toArray.size) = false := by
      unfold Builtin.List.listTooLong
      exact decide_eq_false (by omega)
    rw [e, Bool.and_false]
    exact Bool.false_ne_true
  refine call_meets F.slot_list_extend ⟨_, e, rfl⟩ F.entry_list_extend (F.args_list_extend_2 _ _)
    (list_extendT l its.toArray n b its2.toArray n2 dd sl hlong (by rw [List.size_toArray]; omega) (by omega)) ⟨e, ho, ?_⟩
  refine ⟨.non, _, I.lset (its' := its ++ its2) hH e (by simp) (r.append r2) ?_, rfl, q⟩
  rw [List.length_append]
  omega
/-- t * k, once too -/
def rRepT1 (K : PySem.W.Frag) : R2 := fun x y H Q => (∃ l xs, x = .ref l ∧ y = .int 1 ∧ SqT K H l xs ∧ Q (.ref l) H) ∨ rRepT K x y H Q
theorem op_repT1 : OpR X (binaryOp .Mult) (rRepT1 X.K) := by
  intro pins s σ H x y v u Q I rx ry h
  rcases h with ⟨l, xs, rfl, rfl, hT, q⟩ | h
  · cases rx
    obtain ⟨t, rfl⟩ := ry
    obtain ⟨its, r, ⟨⟨cls, dd, data, sl⟩, ho, hc, n, hd⟩, hs⟩ := I.tuple hT
    simp only at hc hd
    subst hc hd
    exact wpAny_binaryOp_repeat_ref (T := "tuple") (U := "int") (by decide) ⟨_, ho, rfl⟩ (fun s' => typeIs_int s' 1 t) noFill_tuple_mul F.fills_int_mul F.slot_int_rmul repeat_tuple F.slot_int_index.lookup
      (call_meets F.slot_int_rmul (typeIs_int s 1 t) F.entry_int_rmul (F.args_int_rmul_2 _ _) (int_rmul_tuple 1 t l its.toArray n dd sl)
        ⟨ho, rfl, ⟨_, ho, rfl⟩, call_meets F.slot_tuple_mul ⟨_, ho, rfl⟩ F.entry_tuple_mul (F.args_tuple_mul_2 _ _) (tuple_mul1 l its.toArray n dd sl t) ⟨ho, ⟨.ref l, H, I, rfl, q⟩⟩⟩)
  · exact op_repT pins s σ H x y v u Q I rx ry h
theorem op_repT1K {K : PySem.W.Frag} (h : X.K = K) : OpR X (binaryOp .Mult) (rRepT1 K) := h ▸ op_repT1
end

/-! ### parts by words, as data -/
def dFlat (n : Nat) : PyData := if n ≤ 1 then .int 1 else .tuple (.str "sums" :: List.replicate n (.int 1))
def dRow : Nat → PyData
  | 0 => .int 1
  | 1 => .int 1
  | n + 2 => .tuple [.str "sums", dRow (n + 1), .int 1]
def dJoin (w : Str) : Nat → PyData
  | 0 => .int 1
  | 1 => .int 1
  | n + 2 => .tuple [.str w, dJoin w ((n + 3) / 2), dJoin w ((n + 2) / 2)]
  termination_by n => n
  decreasing_by all_goals omega
theorem dJoin_eq (w : Str) {n : Nat} (h : 2 ≤ n) : dJoin w n = .tuple [.str w, dJoin w ((n + 1) / 2), dJoin w (n / 2)] := by
  match n, h with
  | n + 2, _ => rw [dJoin]
theorem dRow_eq {n : Nat} (h : 1 ≤ n) : dRow (n + 1) = .tuple [.str "sums", dRow n, .int 1] := by
  match n, h with
  | n + 1, _ => rfl
/-- the least g with n ≤ g * g -/
def side (n : Nat) : Nat := ((List.range 9).filter fun g => decide (g * g < n)).length
theorem side_of : ∀ n, n ≤ 60 → ∀ g, g ≤ 8 → 1 ≤ g → n ≤ g * g → (g - 1) * (g - 1) < n → g = side n := by decide +kernel
theorem side_lt : ∀ n, n ≤ 60 → ∀ g, g ≤ 8 → g * g < n → g ≤ 7 := by decide +kernel
/-- how many groups of g -/
def groups (g n : Nat) : Nat := (n + g - 1) / g
def dGroups (n : Nat) : PyData := if n ≤ 1 then .int 1 else .tuple (.str "sums" :: (List.range (groups (side n) n)).map fun i => dFlat (min (side n) (n - i * side n)))
def five : List Str := ["flat", "row", "tree", "nets", "groups"]
def dPart (w : Str) (n : Nat) : PyData := if w = "flat" then dFlat n else if w = "row" then dRow n else if w = "tree" then dJoin "sums" n else if w = "nets" then dJoin "net" n else dGroups n
theorem in_texts (w : Str) (ws : List Str) : inV (.str w) (ws.map V.str) = decide (w ∈ ws) := by
  induction ws with
  | nil => rfl
  | cons x r ih =>
    unfold inV at ih ⊢
    rw [List.map_cons, List.any_cons, ih]
    show ((x == w) || decide (w ∈ r)) = decide (w ∈ x :: r)
    by_cases h : x = w
    · subst h
      simp
    · have h2 : (x == w) = false := by simpa using h
      rw [h2, Bool.false_or]
      by_cases h3 : w ∈ r
      · rw [decide_eq_true h3, decide_eq_true (List.mem_cons_of_mem _ h3)]
      · rw [decide_eq_false h3, decide_eq_false fun z => ?_]
        rcases List.mem_cons.mp z with z | z
        · exact h z.symm
        · exact h3 z
theorem flat_texts : ∀ ws : List Str, (ws.map V.str).all flatV = true
  | [] => rfl
  | x :: r => by
    rw [List.map_cons, List.all_cons, flat_texts r]
    rfl
def spD (lo hi : Nat) (f : Nat → PyData) : Sp := fun vs H Q _ => ∃ n : Nat, vs = [.int n] ∧ lo ≤ n ∧ n ≤ hi ∧ ∀ H' v, Same H H' → Tp H' v (f n) → Q v H'
def spW (k : Nat) (ok : Str → Prop) (f : Str → Nat → PyData) : Sp := fun vs H Q _ => ∃ (w : Str) (n : Nat), vs = [.str w, .int n] ∧ ok w ∧ 1 ≤ n ∧ n ≤ k ∧ ∀ H' v, Same H H' → Tp H' v (f w n) → Q v H'
def spOnes : Sp := fun vs H Q _ => ∃ n : Nat, vs = [.int n] ∧ 1 ≤ n ∧ n ≤ 60 ∧ ∀ H' a, Same H H' → H' a = some (.tup (List.replicate n (.int 1))) → Q (.ref a) H'
def spPart (C : Addr) : Sp := fun vs H Q E => ∃ (w : Str) (n : Nat), vs = [.str w, .int n] ∧ 1 ≤ n ∧ n ≤ 60 ∧ ((w ∈ five ∧ ∀ H' v, Same H H' → Tp H' v (dPart w n) → Q v H') ∨ (w ∉ five ∧ E (.ref C) none H))
theorem nat_le {n : Nat} {i : Int} : decide ((n : Int) ≤ i) = decide ((n : Int) ≤ i) := rfl
section
variable {P : Program} {w : World} {K : PySem.W.Frag} {mg : Str → Option Value} {base : Heap}
theorem has_ones {cs : Nat → Addr} (T : Top K mg cs) : Has P w K mg base 1 "_ones" ["many"] spOnes := by
  refine has_of T.d__ones sc__ones bd__ones (fun vs H Q E h => ?_) (fun f cdv A outer s H vs Q E hr h => ?_)
  · obtain ⟨n, rfl, _⟩ := h
    rfl
  · have hu := hu_of hr
    have nd := sc__ones.nd
    obtain ⟨n, rfl, h1, h2, k⟩ := h
    refine ⟨_, (pss_one (ps_ret (pe_op op_repT1 (pe_tup (pa_cons pe_int pa_nil)) (pv 0)))), ?_⟩
    refine ⟨by show 1 ≤ sizeLine; decide, fun p hp => ⟨_, rfl, ?_⟩⟩
    by_cases n1 : n = 1
    · subst n1
      exact .inl ⟨p, [.int 1], rfl, rfl, SqT.of upd_same, k _ p (same_new hp) upd_same⟩
    refine .inr ⟨p, n, [.int 1], rfl, rfl, SqT.of upd_same, by simp, by omega, by omega, by decide, fun q hq => ?_⟩
    rw [flat_one]
    exact k _ q ((same_new hp).trans (same_new hq)) upd_same
theorem has_flat {cs : Nat → Addr} (T : Top K mg cs) (h__ones : Has P w K mg base 1 "_ones" ["many"] spOnes) : Has P w K mg base 2 "_flat" ["many"] (spD 1 60 dFlat) := by
  refine has_of T.d__flat sc__flat bd__flat (fun vs H Q E h => ?_) (fun f cdv A outer s H vs Q E hr h => ?_)
  · obtain ⟨n, rfl, _⟩ := h
    rfl
  · have hu := hu_of hr
    have nd := sc__flat.nd
    obtain ⟨n, rfl, h1, h2, k⟩ := h
    refine ⟨_, (pss_cons (ps_if (pt_cmpR op_le (pv 0) pe_int (nomark _)) (pss_one (ps_ret pe_int)) pss_nil)
    (pss_one (ps_ret (pe_tup (pa_cons pe_str (StX.pa_star (pe_has h__ones (hr.mono (by omega)) (by rfl) (pa_cons (pv 0) pa_nil)) pa_nil)))))), ?_⟩
    refine ⟨_, rfl, _, _, rfl, rfl, _, rfl, ite2 (fun c => ?_) (fun c => ?_)⟩
    · have c1 := of_decide_eq_true c
      have e : dFlat n = .int 1 := if_pos (by omega)
      exact k _ _ (Same.refl _) (by rw [e]; exact .int 1)
    · have c1 : ¬ n ≤ 1 := fun z => c (decide_eq_true (by omega))
      have e : dFlat n = .tuple (.str "sums" :: List.replicate n (.int 1)) := if_neg c1
      refine ⟨_, rfl, n, rfl, by omega, h2, fun H' a s ha => ⟨a, _, rfl, .inl (SqT.of ha), ?_⟩⟩
      refine ⟨?_, fun p hp => ?_⟩
      · rw [List.append_nil, List.length_cons, List.length_replicate]
        exact Nat.le_trans (Nat.succ_le_succ h2) (by decide)
      refine k _ _ (s.trans (same_new hp)) ?_
      rw [e, List.append_nil]
      exact .new hp (.cons (.str _) (tp_rep (.int 1) n))
theorem has_row {cs : Nat → Addr} (T : Top K mg cs) : Has P w K mg base 1 "_row" ["many"] (spD 1 60 dRow) := by
  refine has_of T.d__row sc__row bd__row (fun vs H Q E h => ?_) (fun f cdv A outer s H vs Q E hr h => ?_)
  · obtain ⟨n, rfl, _⟩ := h
    rfl
  · have hu := hu_of hr
    have nd := sc__row.nd
    obtain ⟨n, rfl, h1, h2, k⟩ := h
    refine ⟨_, (pss_cons (ps_set (i := 1) nd rfl (.inl rfl) pe_int)
    (pss_cons (ps_for PassesOwn.never rfl (pi_range1 (by rfl) T.b_range (pa_cons (pe_op op_sub (pv 0) pe_int) pa_nil)) (pg_name (i := 2) nd rfl (.inl rfl))
      (pss_one (ps_set (i := 1) nd rfl (.inl rfl) (pe_tup (pa_cons pe_str (pa_cons (pv 1) (pa_cons pe_int pa_nil)))))))
    (pss_one (ps_ret (pv 1))))), ?_⟩
    have en : ((n : Int) - 1).toNat = n - 1 := by omega
    refine ⟨_, rfl, _, _, rfl, rfl, _, rfl, by omega, by omega, for_range (lo := 0) (fun i σ H' => ∃ v v2, σ = [some (.int n), some v, v2] ∧ Same H H' ∧ Tp H' v (dRow (i + 1))) ⟨.int 1, none, rfl, Same.refl _, .int 1⟩ ?_ ?_⟩
    · rintro i σ H' hi ⟨v, v2, rfl, s, tp⟩
      refine ⟨_, rfl, by show 3 ≤ sizeLine; decide, fun p hp => ⟨.ref p, some (.int (0 + i)), rfl, s.trans (same_new hp), ?_⟩⟩
      rw [dRow_eq (by omega : 1 ≤ i + 1)]
      exact .new hp (.cons (.str _) (.cons tp (.cons (.int 1) .nil)))
    · rintro σ H' ⟨v, v2, rfl, s, tp⟩
      rw [en, show n - 1 + 1 = n by omega] at tp
      exact ⟨_, rfl, k H' v s tp⟩
theorem has_halves {cs : Nat → Addr} (T : Top K mg cs) : ∀ j : Nat, Has P w K mg base j "_halves" ["word", "many"] (spW j (fun _ => True) dJoin)
  | 0 => has_zero T.d__halves bd__halves fun vs H Q E h => by
    obtain ⟨w, n, _, _, h1, h2, _⟩ := h
    omega
  | j + 1 => by
    have h__halves := has_halves T j
    refine has_of T.d__halves sc__halves bd__halves (fun vs H Q E h => ?_) (fun f cdv A outer s H vs Q E hr h => ?_)
    · obtain ⟨w, n, rfl, _⟩ := h
      rfl
    · have hu := hu_of hr
      have nd := sc__halves.nd
      obtain ⟨w, n, rfl, _, h1, h2, k⟩ := h
      refine ⟨_, (pss_cons (ps_if (pt_cmpR op_le (pv 1) pe_int (nomark _)) (pss_one (ps_ret pe_int)) pss_nil)
    (pss_one (ps_ret (pe_tup (pa_cons (pv 0) (pa_cons (pe_has h__halves (hr.mono (by omega)) (by rfl) (pa_cons (pv 0) (pa_cons (pe_op op_sub (pv 1) (pe_op op_fdivW (pv 1) pe_int)) pa_nil))) (pa_cons (pe_has h__halves (hr.mono (by omega)) (by rfl) (pa_cons (pv 0) (pa_cons (pe_op op_fdivW (pv 1) pe_int) pa_nil))) pa_nil))))))), ?_⟩
      refine ⟨_, rfl, _, _, rfl, rfl, _, rfl, ite2 (fun c => ?_) (fun c => ?_)⟩
      · have c1 := of_decide_eq_true c
        obtain rfl : n = 1 := by omega
        exact k _ _ (Same.refl _) (by rw [dJoin]; exact .int 1)
      · have c1 : ¬ n ≤ 1 := fun z => c (decide_eq_true (by omega))
        have dv : CDivW (n : Int) 2 := ⟨by decide, by decide⟩
        have e1 : (n : Int) - (n : Int) / 2 = (((n + 1) / 2 : Nat) : Int) := by omega
        have e2 : (n : Int) / 2 = ((n / 2 : Nat) : Int) := by omega
        refine ⟨_, rfl, _, rfl, _, rfl, _, rfl, _, _, rfl, rfl, dv, _, _, rfl, rfl, w, (n + 1) / 2, by show [V.str w, V.int ((n : Int) - (n : Int) / 2)] = _; rw [e1], trivial, by omega, by omega, fun H1 v1 s1 t1 => ?_⟩
        refine ⟨_, rfl, _, rfl, _, _, rfl, rfl, dv, w, n / 2, by show [V.str w, V.int ((n : Int) / 2)] = _; rw [e2], trivial, by omega, by omega, fun H2 v2 s2 t2 => ?_⟩
        refine ⟨by show 3 ≤ sizeLine; decide, fun p hp => ?_⟩
        refine k _ _ ((s1.trans s2).trans (same_new hp)) ?_
        rw [dJoin_eq w (by omega)]
        exact .new hp (.cons (.str _) (.cons (t1.kt (.same s2)) (.cons t2 .nil)))
/-- size: the least that is enough, by counting up -/
def SideAt (n : Nat) (g : Nat) : Prop := 1 ≤ g ∧ g ≤ 8 ∧ (g - 1) * (g - 1) < n
theorem SideAt.up {n g : Nat} (h : SideAt n g) (h60 : n ≤ 60) (c : g * g < n) : SideAt n (g + 1) := ⟨by omega, Nat.succ_le_succ (side_lt n h60 g h.2.1 c), c⟩
theorem SideAt.end {n g : Nat} (h : SideAt n g) (h60 : n ≤ 60) (c : ¬ g * g < n) : g = side n := side_of n h60 g h.2.1 h.1 (Nat.le_of_not_lt c) h.2.2
theorem side_pos {n : Nat} (h1 : 1 ≤ n) (h60 : n ≤ 60) : 1 ≤ side n ∧ side n ≤ 8 := by
  have := (by decide +kernel : ∀ m, m ≤ 60 → 1 ≤ m → 1 ≤ side m ∧ side m ≤ 8)
  exact this n h60 h1
theorem groups_rg {g n : Nat} (h1 : 1 ≤ g) (h2 : g ≤ 8) (h3 : n ≤ 60) (h4 : 1 ≤ n) : RgC 0 (n : Int) (g : Int) (groups g n) := by
  refine ⟨by omega, by omega, ?_, ?_⟩
  · have := (by decide +kernel : ∀ g, g ≤ 8 → ∀ n, n ≤ 60 → Builtin.Range.small 0 ((n : Nat) : Int) ((g : Nat) : Int) = true)
    exact this g h2 n h3
  · have := (by decide +kernel : ∀ g, g ≤ 8 → 1 ≤ g → ∀ n, n ≤ 60 → 1 ≤ n → Builtin.Range.rangeSize 0 ((n : Nat) : Int) ((g : Nat) : Int) = groups g n)
    exact this g h2 h1 n h3 h4
theorem groups_in {g n i : Nat} (h1 : 1 ≤ g) (h : i < groups g n) : i * g < n := by
  unfold groups at h
  have h2 : i + 1 ≤ (n + g - 1) / g := h
  have h3 := (Nat.le_div_iff_mul_le (by omega : 0 < g)).mp h2
  rw [Nat.succ_mul] at h3
  omega
theorem groups_few {g n : Nat} (h1 : g ≤ 8) (h3 : n ≤ 60) : groups g n ≤ 68 := by
  unfold groups
  exact Nat.le_trans (Nat.div_le_self _ _) (by omega)
theorem range_snoc {α : Type} (f : Nat → α) (i : Nat) : (List.range (i + 1)).map f = (List.range i).map f ++ [f i] := by
  rw [List.range_succ, List.map_append]
  rfl
theorem has_groups {cs : Nat → Addr} (T : Top K mg cs) (h__flat : Has P w K mg base 2 "_flat" ["many"] (spD 1 60 dFlat)) : Has P w K mg base 3 "_groups" ["many"] (spD 1 60 dGroups) := by
  refine has_of T.d__groups sc__groups bd__groups (fun vs H Q E h => ?_) (fun f cdv A outer s H vs Q E hr h => ?_)
  · obtain ⟨n, rfl, _⟩ := h
    rfl
  · have hu := hu_of hr
    have nd := sc__groups.nd
    obtain ⟨n, rfl, h1, h2, k⟩ := h
    refine ⟨_, (pss_cons (ps_if (pt_cmpR op_le (pv 0) pe_int (nomark _)) (pss_one (ps_ret pe_int)) pss_nil)
    (pss_cons (ps_set (i := 1) nd rfl (.inr rfl) pe_int)
    (pss_cons (ps_while PassesOwn.never (pt_cmpR op_lt (pe_op op_mul (pv 1) (pv 1)) (pv 0) (nomark _)) (pss_one (ps_aug (i := 1) nd rfl (.inr rfl) pe_int ip_add)))
    (pss_cons (ps_setLc (i := 2) (own := [("start", 3)]) (by rfl) nd rfl rfl (sw_true rfl rfl rfl (by decide +kernel)) (pi_range3 (by rfl) T.b_range (pa_cons pe_int (pa_cons (pv 0) (pa_cons (pv 1) pa_nil)))) (blkOk_by (own := [("start", 3)]) (N := nm__groups) (sc := defScope s__groups) (by decide +kernel)) (fun _ _ _ _ _ => pg_name (i := 3) nd rfl (.inl rfl)) (fun _ _ _ _ _ => pts_nil) (fun _ _ _ _ _ => (pe_has h__flat (hr.mono (by omega)) (by rfl) (pa_cons (pe_callB (call_min2 rfl) (by rfl) T.b_min (by decide +kernel) (pa_cons (pv 1) (pa_cons (pe_op op_sub (pv 0) (pv 3)) pa_nil))) pa_nil))))
    (pss_one (ps_ret (pe_tup (pa_cons pe_str (StX.pa_star (pv 2) pa_nil))))))))), ?_⟩
    refine ⟨_, rfl, _, _, rfl, rfl, _, rfl, ite2 (fun c => ?_) (fun c => ?_)⟩
    · have c1 := of_decide_eq_true c
      have e : dGroups n = .int 1 := if_pos (by omega)
      exact k _ _ (Same.refl _) (by rw [e]; exact .int 1)
    · have c1 : ¬ n ≤ 1 := fun z => c (decide_eq_true (by omega))
      refine ⟨fun m σ H' => ∃ g : Nat, m = 9 - g ∧ σ = [some (.int n), some (.int g), none, none] ∧ H' = H ∧ SideAt n g, ⟨8, 1, rfl, rfl, rfl, by decide, by decide, by omega⟩, ?_⟩
      rintro m σ H' ⟨g, rfl, rfl, rfl, sd⟩
      have g8 := sd.2.1
      have g1 := sd.1
      refine ⟨_, rfl, _, rfl, _, _, rfl, rfl, .inl ⟨by omega, by omega⟩, _, rfl, _, _, rfl, rfl, _, rfl, ite2 (fun c => ⟨_, fun σ' H' h => h, ?_⟩) (fun c => ?_)⟩
      · have c2 : g * g < n := by
          have := of_decide_eq_true c
          exact Int.ofNat_lt.mp (by rw [Int.natCast_mul]; exact this)
        exact ⟨_, rfl, _, _, rfl, rfl, 9 - (g + 1), by omega, g + 1, rfl, rfl, rfl, sd.up h2 c2⟩
      · have c2 : ¬ g * g < n := fun z => c (decide_eq_true (by rw [← Int.natCast_mul]; exact Int.ofNat_lt.mpr z))
        have eg := sd.end h2 c2
        have few := groups_few g8 h2
        have line : (100 : Nat) < sizeLine := by decide
        refine ⟨_, rfl, _, rfl, _, _, _, _, rfl, groups_rg g1 g8 h2 h1, fun D hD => lc_rangeC (fun i H1 => TpT H' H1 D ((List.range i).map fun i => dFlat (min g (n - i * g)))) (TpT.new hD) (fun i H1 hi p => ?_) (fun H1 p => ?_)⟩
        · have ni := groups_in g1 hi
          have e1 : (if (n : Int) - (0 + (i : Int) * (g : Int)) < (g : Int) then (n : Int) - (0 + (i : Int) * (g : Int)) else (g : Int)) = ((min g (n - i * g) : Nat) : Int) := by
            rw [Int.zero_add, ← Int.natCast_mul]
            split <;> omega
          refine ⟨rfl, yes_go ⟨_, rfl, _, rfl, _, rfl, _, _, rfl, rfl, _, _, rfl, min g (n - i * g), ?_, by omega, by omega, fun H2 v s2 t2 => ?_⟩⟩
          · show [V.int (if (n : Int) - (0 + (i : Int) * (g : Int)) < (g : Int) then (n : Int) - (0 + (i : Int) * (g : Int)) else (g : Int))] = _
            rw [e1]
          · rw [range_snoc]
            exact p.put hD s2 (by rw [List.length_map, List.length_range]; omega) t2
        · obtain ⟨xs, e, r⟩ := p.ex
          have lx := r.len
          rw [List.length_map, List.length_range] at lx
          refine ⟨_, rfl, D, xs, rfl, .inr (SqL.of e), ?_, fun q hq => ?_⟩
          · rw [List.append_nil, List.length_cons]
            omega
          · refine k _ _ (p.s.trans (same_new hq)) ?_
            rw [show dGroups n = .tuple (.str "sums" :: (List.range (groups (side n) n)).map fun i => dFlat (min (side n) (n - i * side n))) from if_neg c1, ← eg, List.append_nil]
            exact .new hq (.cons (.str _) r)
theorem has_part {C : Addr} {cs : Nat → Addr} (T : Top K mg cs) (h_NoPlan : HasC P w K mg base C "NoPlan" ["self"] (spI0 C)) (h__flat : Has P w K mg base 2 "_flat" ["many"] (spD 1 60 dFlat)) (h__row : Has P w K mg base 1 "_row" ["many"] (spD 1 60 dRow))
    (h__halves : Has P w K mg base 60 "_halves" ["word", "many"] (spW 60 (fun _ => True) dJoin)) (h__groups : Has P w K mg base 3 "_groups" ["many"] (spD 1 60 dGroups)) : HasX P w K mg base 61 "part_for" ["word", "many"] (spPart C) := by
  refine has_ofX T.d_part_for sc_part_for bd_part_for (fun vs H Q E h => ?_) (fun f cdv A outer s H vs Q E hr h => ?_)
  · obtain ⟨w, n, rfl, _⟩ := h
    rfl
  · have hu := hu_of hr
    have nd := sc_part_for.nd
    obtain ⟨w, n, rfl, h1, h2, h⟩ := h
    refine ⟨_, (pss_cons (ps_if (pt_cmpR op_notIn_seq (pv 0) (pe_ctup T.c_PART_WORDS (by rfl)) (by rfl)) (pss_one (ps_raise rfl (takes_of rfl rfl rfl rfl) (pmk_own0 h_NoPlan (hr.mono (by omega)) (by rfl)))) pss_nil)
    (pss_cons (ps_if (pt_cmpR op_eq (pv 0) pe_str (nomark _)) (pss_one (ps_ret (pe_has h__flat (hr.mono (by omega)) (by rfl) (pa_cons (pv 1) pa_nil)))) pss_nil)
    (pss_cons (ps_if (pt_cmpR op_eq (pv 0) pe_str (nomark _)) (pss_one (ps_ret (pe_has h__row (hr.mono (by omega)) (by rfl) (pa_cons (pv 1) pa_nil)))) pss_nil)
    (pss_cons (ps_if (pt_cmpR op_eq (pv 0) pe_str (nomark _)) (pss_one (ps_ret (pe_has h__halves (hr.mono (by omega)) (by rfl) (pa_cons pe_str (pa_cons (pv 1) pa_nil))))) pss_nil)
    (pss_cons (ps_if (pt_cmpR op_eq (pv 0) pe_str (nomark _)) (pss_one (ps_ret (pe_has h__halves (hr.mono (by omega)) (by rfl) (pa_cons pe_str (pa_cons (pv 1) pa_nil))))) pss_nil)
    (pss_one (ps_ret (pe_has h__groups (hr.mono (by omega)) (by rfl) (pa_cons (pv 1) pa_nil))))))))), ?_⟩
    refine ⟨_, rfl, fun p hp => ⟨p, _, rfl, .inr (hp H), rfl, flat_texts _, !decide (w ∈ five), congrArg (fun b => V.bl (!b)) (in_texts w five), ?_⟩⟩
    rcases h with ⟨iw, k⟩ | ⟨iw, e⟩
    · rw [decide_eq_true iw]
      refine iteF ⟨_, rfl, rfl, _, rfl, ite2 (fun c => ?_) (fun c => ?_)⟩
      · have e := V.str.inj (of_decide_eq_true c)
        subst e
        exact ⟨_, rfl, n, rfl, h1, h2, fun H' v s t => k H' v s (by rw [show dPart "flat" n = dFlat n from rfl]; exact t)⟩
      have n1 : w ≠ "flat" := fun z => c (decide_eq_true (by rw [z]))
      refine ⟨_, rfl, rfl, _, rfl, ite2 (fun c => ?_) (fun c => ?_)⟩
      · have e := V.str.inj (of_decide_eq_true c)
        subst e
        exact ⟨_, rfl, n, rfl, h1, h2, fun H' v s t => k H' v s (by rw [show dPart "row" n = dRow n from rfl]; exact t)⟩
      have n2 : w ≠ "row" := fun z => c (decide_eq_true (by rw [z]))
      refine ⟨_, rfl, rfl, _, rfl, ite2 (fun c => ?_) (fun c => ?_)⟩
      · have e := V.str.inj (of_decide_eq_true c)
        subst e
        exact ⟨_, rfl, "sums", n, rfl, trivial, h1, h2, fun H' v s t => k H' v s (by rw [show dPart "tree" n = dJoin "sums" n from rfl]; exact t)⟩
      have n3 : w ≠ "tree" := fun z => c (decide_eq_true (by rw [z]))
      refine ⟨_, rfl, rfl, _, rfl, ite2 (fun c => ?_) (fun c => ?_)⟩
      · have e := V.str.inj (of_decide_eq_true c)
        subst e
        exact ⟨_, rfl, "net", n, rfl, trivial, h1, h2, fun H' v s t => k H' v s (by rw [show dPart "nets" n = dJoin "net" n from rfl]; exact t)⟩
      have n4 : w ≠ "nets" := fun z => c (decide_eq_true (by rw [z]))
      have e : dPart w n = dGroups n := by
        unfold dPart
        rw [if_neg n1, if_neg n2, if_neg n3, if_neg n4]
      exact ⟨_, rfl, n, rfl, h1, h2, fun H' v s t => k H' v s (by rw [e]; exact t)⟩
    · rw [decide_eq_false iw]
      exact iteT e
end

/-! ### how parts are shown -/
mutual
inductive Lf : PyData → Prop
  | int (i : Int) (h : i.natAbs < 10 ^ 13) : Lf (.int i)
  | str (x : Str) (h : (x.cps.toList.all fun c => decide (c < 16 ^ 8)) = true) : Lf (.str x)
  | tup {ds : List PyData} : LfAll ds → Lf (.tuple ds)
inductive LfAll : List PyData → Prop
  | nil : LfAll []
  | cons {d : PyData} {ds : List PyData} : Lf d → LfAll ds → LfAll (d :: ds)
end
theorem lf_one : Lf (.int 1) := .int 1 (by decide)
mutual
theorem Lf.shows : ∀ {d : PyData}, Lf d → d.showable = true ∧ d.hasDict = false ∧ PyData.leavesShort 14 d = true
  | _, .int i h => by
    have lg : i.natAbs.log2 < 44 := PySem.Flt.log2_lt_of (by decide) (Nat.lt_trans h (by decide))
    refine ⟨?_, by rw [PyData.hasDict], ?_⟩
    · rw [PyData.showable]
      exact decide_eq_true (by omega)
    · rw [PyData.leavesShort]
      refine decide_eq_true ?_
      show (Str.ofString (toString i)).length ≤ 14
      rw [PySem.ofString_length]
      exact int_text_length_le10 (k := 13) (by decide) h
  | _, .str x h => ⟨by rw [PyData.showable], by rw [PyData.hasDict], by rw [PyData.leavesShort]; exact h⟩
  | _, .tup r => by
    obtain ⟨a, b, c⟩ := LfAll.shows r
    exact ⟨by rw [PyData.showable]; exact a, by rw [PyData.hasDict]; exact b, by rw [PyData.leavesShort]; exact c⟩
theorem LfAll.shows : ∀ {ds : List PyData}, LfAll ds → PyData.showableAll ds = true ∧ PyData.hasDictAll ds = false ∧ PyData.leavesShortAll 14 ds = true
  | _, .nil => ⟨rfl, rfl, rfl⟩
  | _, .cons h r => by
    obtain ⟨a, b, c⟩ := Lf.shows h
    obtain ⟨a2, b2, c2⟩ := LfAll.shows r
    exact ⟨by rw [PyData.showableAll, a, a2]; rfl, by rw [PyData.hasDictAll, b, b2]; rfl, by rw [PyData.leavesShortAll, c, c2]; rfl⟩
end
theorem Lf.showy {d : PyData} (h : Lf d) (dp : d.depth ≤ 60) (wt : d.weight ≤ 100000) : Showy d := by
  obtain ⟨a, b, c⟩ := h.shows
  refine ⟨a, b, dp, ?_⟩
  have z := PyData.shown_le 14 (by decide) d c
  have e : sizeLine = 16777216 := sizeLine_eq
  omega
theorem lf_rep {d : PyData} (h : Lf d) : ∀ n, LfAll (List.replicate n d)
  | 0 => .nil
  | n + 1 => .cons h (lf_rep h n)
theorem lf_map {α : Type} {f : α → PyData} : ∀ {l : List α}, (∀ x ∈ l, Lf (f x)) → LfAll (l.map f)
  | [], _ => .nil
  | x :: r, h => .cons (h x List.mem_cons_self) (lf_map fun y hy => h y (List.mem_cons_of_mem _ hy))
theorem dep_map {α : Type} {f : α → PyData} {m : Nat} : ∀ {l : List α}, (∀ x ∈ l, (f x).depth ≤ m) → PyData.depthAll (l.map f) ≤ m
  | [], _ => Nat.zero_le _
  | x :: r, h => by
    rw [List.map_cons, PyData.depthAll]
    exact Nat.max_le.mpr ⟨h x List.mem_cons_self, dep_map fun y hy => h y (List.mem_cons_of_mem _ hy)⟩
theorem wt_map {α : Type} {f : α → PyData} {m : Nat} : ∀ {l : List α}, (∀ x ∈ l, (f x).weight ≤ m) → PyData.weightAll (l.map f) ≤ (m + 1) * l.length
  | [], _ => Nat.zero_le _
  | x :: r, h => by
    have a := h x List.mem_cons_self
    have b := wt_map (l := r) fun y hy => h y (List.mem_cons_of_mem _ hy)
    rw [List.map_cons, PyData.weightAll, List.length_cons, Nat.mul_succ]
    omega
theorem rep_map {d : PyData} (n : Nat) : List.replicate n d = (List.range n).map fun _ => d := by
  rw [List.map_const', List.length_range]
theorem wt_one : (PyData.int 1).weight = 1 := by rfl
theorem dep_one : (PyData.int 1).depth = 0 := by rfl
theorem flat_shows (n : Nat) : Lf (dFlat n) ∧ (dFlat n).depth ≤ 1 ∧ (dFlat n).weight ≤ 2 * n + 5 := by
  unfold dFlat
  split
  · exact ⟨lf_one, by rw [dep_one]; omega, by rw [wt_one]; omega⟩
  · refine ⟨.tup (.cons (.str _ (by decide +kernel)) (lf_rep lf_one n)), ?_, ?_⟩
    · rw [PyData.depth, PyData.depthAll, rep_map]
      have h := dep_map (f := fun _ : Nat => PyData.int 1) (m := 0) (l := List.range n) fun _ _ => Nat.le_of_eq dep_one
      have e : (PyData.str "sums").depth = 0 := by rfl
      rw [e]
      omega
    · rw [PyData.weight, PyData.weightAll, rep_map]
      have h := wt_map (f := fun _ : Nat => PyData.int 1) (m := 1) (l := List.range n) fun _ _ => Nat.le_of_eq wt_one
      have e : (PyData.str "sums").weight = 4 := by rfl
      rw [List.length_range] at h
      rw [e]
      omega
theorem row_shows : ∀ n, Lf (dRow n) ∧ (dRow n).depth ≤ n ∧ (dRow n).weight ≤ 9 * n + 1
  | 0 => ⟨lf_one, Nat.le_of_eq dep_one, Nat.le_of_eq wt_one⟩
  | 1 => ⟨lf_one, by rw [show dRow 1 = .int 1 from rfl, dep_one]; omega, by rw [show dRow 1 = .int 1 from rfl, wt_one]; omega⟩
  | n + 2 => by
    obtain ⟨a, b, c⟩ := row_shows (n + 1)
    have e1 : (PyData.str "sums").depth = 0 := by rfl
    have e2 : (PyData.str "sums").weight = 4 := by rfl
    refine ⟨.tup (.cons (.str _ (by decide +kernel)) (.cons a (.cons lf_one .nil))), ?_, ?_⟩
    · rw [dRow, PyData.depth, PyData.depthAll, PyData.depthAll, PyData.depthAll, PyData.depthAll, e1, dep_one]
      omega
    · rw [dRow, PyData.weight, PyData.weightAll, PyData.weightAll, PyData.weightAll, PyData.weightAll, e2, wt_one]
      omega
theorem join_shows {w : Str} (hw : (w.cps.toList.all fun c => decide (c < 16 ^ 8)) = true) (hs : w.cps.size ≤ 4) : ∀ n, Lf (dJoin w n) ∧ (dJoin w n).depth ≤ n ∧ (dJoin w n).weight ≤ 10 * (n - 1) + 1 := by
  intro n
  induction n using Nat.strongRecOn with
  | _ n ih =>
    by_cases h : n < 2
    · have e : dJoin w n = .int 1 := by
        match n, h with
        | 0, _ => rw [dJoin]
        | 1, _ => rw [dJoin]
      rw [e, dep_one, wt_one]
      exact ⟨lf_one, by omega, by omega⟩
    · obtain ⟨a, b, c⟩ := ih ((n + 1) / 2) (by omega)
      obtain ⟨a2, b2, c2⟩ := ih (n / 2) (by omega)
      have e1 : (PyData.str w).depth = 0 := by rfl
      have e2 : (PyData.str w).weight ≤ 4 := by
        rw [PyData.weight]
        exact hs
      rw [dJoin_eq w (by omega)]
      refine ⟨.tup (.cons (.str _ hw) (.cons a (.cons a2 .nil))), ?_, ?_⟩
      · rw [PyData.depth, PyData.depthAll, PyData.depthAll, PyData.depthAll, PyData.depthAll, e1]
        omega
      · rw [PyData.weight, PyData.weightAll, PyData.weightAll, PyData.weightAll, PyData.weightAll]
        omega
theorem groups_shows {n : Nat} (h1 : 1 ≤ n) (h2 : n ≤ 60) : Lf (dGroups n) ∧ (dGroups n).depth ≤ 2 ∧ (dGroups n).weight ≤ 10000 := by
  unfold dGroups
  split
  · exact ⟨lf_one, by rw [dep_one]; omega, by rw [wt_one]; omega⟩
  · have sp := side_pos h1 h2
    have few := groups_few sp.2 h2
    have e1 : (PyData.str "sums").depth = 0 := by rfl
    have e2 : (PyData.str "sums").weight = 4 := by rfl
    refine ⟨.tup (.cons (.str _ (by decide +kernel)) (lf_map fun i _ => (flat_shows _).1)), ?_, ?_⟩
    · rw [PyData.depth, PyData.depthAll, e1]
      have h := dep_map (f := fun i => dFlat (min (side n) (n - i * side n))) (m := 1) (l := List.range (groups (side n) n)) fun _ _ => (flat_shows _).2.1
      omega
    · rw [PyData.weight, PyData.weightAll, e2]
      have h := wt_map (f := fun i => dFlat (min (side n) (n - i * side n))) (m := 125) (l := List.range (groups (side n) n)) fun i _ => by
        have z := (flat_shows (min (side n) (n - i * side n))).2.2
        omega
      rw [List.length_range] at h
      have h3 : (125 + 1) * groups (side n) n ≤ (125 + 1) * 68 := Nat.mul_le_mul_left _ few
      omega
def Nst (d : PyData) : Prop := ∀ x, d ≠ .str x
theorem nst_int (i : Int) : Nst (.int i) := fun x e => by cases e
theorem nst_tup (ds : List PyData) : Nst (.tuple ds) := fun x e => by cases e
theorem nst_join (w : Str) (n : Nat) : Nst (dJoin w n) := by
  by_cases h : n < 2
  · match n, h with
    | 0, _ => rw [dJoin]; exact nst_int 1
    | 1, _ => rw [dJoin]; exact nst_int 1
  · rw [dJoin_eq w (by omega)]
    exact nst_tup _
structure PartOk (d : PyData) : Prop where
  l : Lf d
  s : Showy d
  n : Nst d
/-- such data, with their bounds -/
structure PartW (d : PyData) : Prop where
  l : Lf d
  dp : d.depth ≤ 60
  w : d.weight ≤ 90000
  n : Nst d
theorem PartW.ok {d : PyData} (h : PartW d) : PartOk d := ⟨h.l, h.l.showy h.dp (Nat.le_trans h.w (by decide)), h.n⟩
theorem part_w {w : Str} {n : Nat} (h1 : 1 ≤ n) (h2 : n ≤ 60) : PartW (dPart w n) := by
  unfold dPart
  split
  · obtain ⟨a, b, c⟩ := flat_shows n
    exact ⟨a, by omega, by omega, by unfold dFlat; split <;> first | exact nst_int 1 | exact nst_tup _⟩
  split
  · obtain ⟨a, b, c⟩ := row_shows n
    refine ⟨a, by omega, by omega, ?_⟩
    match n with
    | 0 => exact nst_int 1
    | 1 => exact nst_int 1
    | n + 2 => exact nst_tup _
  split
  · obtain ⟨a, b, c⟩ := join_shows (w := "sums") (by decide +kernel) (by decide +kernel) n
    exact ⟨a, by omega, by omega, nst_join _ n⟩
  split
  · obtain ⟨a, b, c⟩ := join_shows (w := "net") (by decide +kernel) (by decide +kernel) n
    exact ⟨a, by omega, by omega, nst_join _ n⟩
  · obtain ⟨a, b, c⟩ := groups_shows h1 h2
    exact ⟨a, by omega, by omega, by unfold dGroups; split <;> first | exact nst_int 1 | exact nst_tup _⟩
theorem part_ok {w : Str} {n : Nat} (h1 : 1 ≤ n) (h2 : n ≤ 60) : PartOk (dPart w n) := (part_w h1 h2).ok
/-- repr, where nothing is being shown -/
structure RRepr (K : PySem.W.Frag) (xs : List V) (H : Hp) (Q : VK) : Prop where
  h : (xs = [.non] ∧ Q (.str "None") H) ∨ (∃ i, xs = [.int i] ∧ i.natAbs.log2 < 1920 ∧ Q (.str (toString i)) H) ∨ ∃ a d, xs = [.ref a] ∧ Dp K H (.ref a) d ∧ Showy d ∧ Q (.str d.shown) H
theorem call_reprW {X : Cx} (hgd : X.A.guards = some []) (hu : X.A.units + 64 < cLine) : CallR X (.builtin "repr") (RRepr X.K) := fun pins s σ H xs us Q I r h => call_reprV hgd hu pins s σ H xs us Q I r h.h
/-- repr of such -/
theorem tp_repr {K : PySem.W.Frag} {H : Hp} {v : V} {d : PyData} {Q : VK} (t : Tp H v d) (ok : PartOk d) (q : Q (.str d.shown) H) : RRepr K [v] H Q := by
  cases t with
  | non => cases ok.l
  | bl b => cases ok.l
  | int i => exact ⟨.inr (.inl ⟨i, rfl, by have := ok.s.s; rw [PyData.showable] at this; exact of_decide_eq_true this, q⟩)⟩
  | str x => exact absurd rfl (ok.n x)
  | tup h r => exact ⟨.inr (.inr ⟨_, _, rfl, (Tp.tup h r).dp, ok.s, q⟩)⟩

/-! ### things -/
inductive Plain (H : Hp) : V → Prop where
  | non : Plain H .non
  | bl (b : Bool) : Plain H (.bl b)
  | int (i : Int) : Plain H (.int i)
  | str (s : Str) : Plain H (.str s)
  | lst {a : Addr} {xs : List V} (h : H a = some (.lst xs)) : Plain H (.ref a)
  | tup {a : Addr} {xs : List V} (h : H a = some (.tup xs)) : Plain H (.ref a)
def isIntV : V → Bool
  | .int _ => true
  | _ => false
def isNumV : V → Bool
  | .int _ => true
  | .bl _ => true
  | _ => false
def isBlV : V → Bool
  | .bl _ => true
  | _ => false
theorem whole_V (x : V) : isIntV x = (isNumV x && !isBlV x) := by cases x <;> rfl
theorem plain_ty {K : PySem.W.Frag} {H : Hp} {x : V} (h : Plain H x) : ∃ s, TyX K H x (.type s) ∧ PySem.W.kitOne K (.type s) (.type "int") = some (isNumV x) ∧ PySem.W.kitOne K (.type s) (.type "bool") = some (isBlV x) := by
  cases h with
  | non => exact ⟨_, .base .non, kit_ty (by decide +kernel), kit_ty (by decide +kernel)⟩
  | bl b => exact ⟨_, .base (.bl b), kit_ty (by show kitB "bool" "int" = some true; decide +kernel), kit_ty (by show kitB "bool" "bool" = some true; decide +kernel)⟩
  | int i => exact ⟨_, .base (.int i), kit_ty (by show kitB "int" "int" = some true; decide +kernel), kit_ty (by show kitB "int" "bool" = some false; decide +kernel)⟩
  | str s => exact ⟨_, .base (.str s), kit_ty (by show kitB "str" "int" = some false; decide +kernel), kit_ty (by show kitB "str" "bool" = some false; decide +kernel)⟩
  | lst e => exact ⟨_, .base (.lst e), kit_ty (by show kitB "list" "int" = some false; decide +kernel), kit_ty (by show kitB "list" "bool" = some false; decide +kernel)⟩
  | tup e => exact ⟨_, .base (.tup e), kit_ty (by show kitB "tuple" "int" = some false; decide +kernel), kit_ty (by show kitB "tuple" "bool" = some false; decide +kernel)⟩
def absI (n : Int) : Int := if n < 0 then -n else n
def markV : V → Bool
  | .int i => decide (1 ≤ absI i) && decide (absI i ≤ 1000000000000)
  | _ => false
theorem int_of {x : V} (h : isIntV x = true) : ∃ i, x = .int i := by
  cases x <;> first | exact ⟨_, rfl⟩ | exact Bool.noConfusion h
theorem mark_no {x : V} (h : isIntV x = false) : markV x = false := by
  cases x <;> first | rfl | exact Bool.noConfusion h

def spWhole : Sp := fun vs H Q _ => ∃ x, vs = [x] ∧ Plain H x ∧ Q (.bl (isIntV x)) H
section
variable {P : Program} {w : World} {K : PySem.W.Frag} {mg : Str → Option Value} {base : Heap}
theorem has_whole {cs : Nat → Addr} (T : Top K mg cs) : Has P w K mg base 1 "is_whole" ["thing"] spWhole := by
  refine has_of T.d_is_whole sc_is_whole bd_is_whole (fun vs H Q E h => ?_) (fun f cdv A outer s H vs Q E hr h => ?_)
  · obtain ⟨x, rfl, _⟩ := h
    rfl
  · have hu := hu_of hr
    have nd := sc_is_whole.nd
    obtain ⟨x, rfl, hx, k⟩ := h
    refine ⟨_, (pss_one (ps_ret (pe_and (pe_callB call_isi (by rfl) T.b_isinstance (by decide +kernel) (pa_cons (pv 0) (pa_cons (pe_bltn (v := .ty "int") (u := .type "int") (by rfl) T.b_int (by decide +kernel) (by rfl)) pa_nil))) (pe_one (pe_not (pe_callB call_isi (by rfl) T.b_isinstance (by decide +kernel) (pa_cons (pv 0) (pa_cons (pe_bltn (v := .ty "bool") (u := .type "bool") (by rfl) T.b_bool (by decide +kernel) (by rfl)) pa_nil)))))))), ?_⟩
    obtain ⟨s, ty, e1, e2⟩ := plain_ty (K := K) hx
    refine ⟨_, rfl, x, .ty "int", _, _, _, rfl, .ty _, ty, e1, _, rfl, ?_⟩
    rw [whole_V] at k
    cases hb : isNumV x with
    | false =>
      rw [hb] at k
      exact iteF k
    | true =>
      rw [hb] at k
      refine iteT ⟨_, rfl, x, .ty "bool", _, _, _, rfl, .ty _, ty, e2, _, rfl, ?_⟩
      exact k
end

/-! ### parts and plans, looked at -/
mutual
def onesP : PyData → Nat
  | .int _ => 1
  | .tuple ds => onesAll ds
  | _ => 0
def onesAll : List PyData → Nat
  | [] => 0
  | d :: ds => onesP d + onesAll ds
end
mutual
def szP : PyData → Nat
  | .tuple ds => szAll ds + 1
  | _ => 1
def szAll : List PyData → Nat
  | [] => 0
  | d :: ds => szP d + szAll ds
end
/-- whether a thing is joined of parts, by its word and how many -/
def joinedP : PyData → Bool
  | .tuple (.str w :: ds) => decide (ds ≠ []) && (decide (w = "sums") || (decide (w = "net") && decide (ds.length = 2)))
  | _ => false
mutual
/-- trees of words and ones -/
inductive Wt : PyData → Prop
  | one : Wt (.int 1)
  | tup (w : Str) {ds : List PyData} : ds ≠ [] → WtAll ds → Wt (.tuple (.str w :: ds))
inductive WtAll : List PyData → Prop
  | nil : WtAll []
  | cons {d : PyData} {ds : List PyData} : Wt d → WtAll ds → WtAll (d :: ds)
end
mutual
/-- parts, so many tuples around them -/
inductive Good : Nat → PyData → Prop
  | one {o : Nat} : Good o (.int 1)
  | tup {o : Nat} {w : Str} {ds : List PyData} : o < 60 → joinedP (.tuple (.str w :: ds)) = true → GoodAll (o + 1) ds → Good o (.tuple (.str w :: ds))
inductive GoodAll : Nat → List PyData → Prop
  | nil {o : Nat} : GoodAll o []
  | cons {o : Nat} {d : PyData} {ds : List PyData} : Good o d → GoodAll o ds → GoodAll o (d :: ds)
end
theorem joined_ne {w : Str} {ds : List PyData} (h : joinedP (.tuple (.str w :: ds)) = true) : ds ≠ [] := by
  unfold joinedP at h
  exact of_decide_eq_true (Bool.and_eq_true_iff.mp h).1
mutual
theorem Good.wt : ∀ {o : Nat} {d : PyData}, Good o d → Wt d
  | _, _, .one => .one
  | _, _, .tup _ j r => .tup _ (joined_ne j) (GoodAll.wt r)
theorem GoodAll.wt : ∀ {o : Nat} {ds : List PyData}, GoodAll o ds → WtAll ds
  | _, _, .nil => .nil
  | _, _, .cons h r => .cons (Good.wt h) (GoodAll.wt r)
end
mutual
theorem Good.pos : ∀ {o : Nat} {d : PyData}, Good o d → 1 ≤ onesP d
  | _, _, .one => Nat.le_refl _
  | _, _, .tup (w := w) (ds := ds) _ j r => by
    have ne := joined_ne j
    rw [onesP, onesAll]
    have l := GoodAll.pos r
    have : 1 ≤ ds.length := List.length_pos_iff.mpr ne
    omega
theorem GoodAll.pos : ∀ {o : Nat} {ds : List PyData}, GoodAll o ds → ds.length ≤ onesAll ds
  | _, _, .nil => Nat.le_refl _
  | _, _, .cons h r => by
    rw [onesAll, List.length_cons]
    have := Good.pos h
    have := GoodAll.pos r
    omega
end
theorem onesAll_app : ∀ (a b : List PyData), onesAll (a ++ b) = onesAll a + onesAll b
  | [], b => by rw [List.nil_append, onesAll, Nat.zero_add]
  | x :: a, b => by rw [List.cons_append, onesAll, onesAll, onesAll_app a b, Nat.add_assoc]
theorem szAll_app : ∀ (a b : List PyData), szAll (a ++ b) = szAll a + szAll b
  | [], b => by rw [List.nil_append, szAll, Nat.zero_add]
  | x :: a, b => by rw [List.cons_append, szAll, szAll, szAll_app a b, Nat.add_assoc]
theorem szP_pos : ∀ d : PyData, 1 ≤ szP d
  | .tuple ds => by
    rw [szP]
    omega
  | .none => Nat.le_refl 1
  | .bool _ => Nat.le_refl 1
  | .int _ => Nat.le_refl 1
  | .str _ => Nat.le_refl 1
  | .list _ => Nat.le_refl 1
  | .dict _ => Nat.le_refl 1
theorem len_sz : ∀ ds : List PyData, ds.length ≤ szAll ds
  | [] => Nat.zero_le _
  | d :: ds => by
    rw [List.length_cons, szAll]
    have := szP_pos d
    have := len_sz ds
    omega
theorem WtAll.app : ∀ {a b : List PyData}, WtAll a → WtAll b → WtAll (a ++ b)
  | _, _, .nil, h => h
  | _, _, .cons x r, h => .cons x (r.app h)
theorem WtAll.snoc_inv : ∀ {a : List PyData} {d : PyData}, WtAll (a ++ [d]) → WtAll a ∧ Wt d
  | [], _, .cons h _ => ⟨.nil, h⟩
  | _ :: _, _, .cons h r => ⟨.cons h r.snoc_inv.1, r.snoc_inv.2⟩
theorem TpAll.snoc_inv {H : Hp} : ∀ {vs : List V} {v : V} {ds : List PyData}, TpAll H (vs ++ [v]) ds → ∃ es d, ds = es ++ [d] ∧ TpAll H vs es ∧ Tp H v d
  | [], _, _, .cons h .nil => ⟨[], _, rfl, .nil, h⟩
  | x :: vs, _, _, .cons h r => by
    obtain ⟨es, d, e, a, b⟩ := r.snoc_inv
    exact ⟨_ :: es, d, by rw [e]; rfl, .cons h a, b⟩
theorem dropLast_snoc {xs : List V} {y : V} : (xs ++ [y]).dropLast = xs := List.dropLast_concat
theorem last_snoc {xs : List V} {y : V} : (xs ++ [y])[(xs ++ [y]).length - 1]? = some y := by
  rw [List.length_append, List.length_singleton, Nat.add_sub_cancel, List.getElem?_append_right (Nat.le_refl _), Nat.sub_self]
  rfl
theorem snoc_of2 {α : Type} {l : List α} (h : l ≠ []) : ∃ r x, l = r ++ [x] := ⟨l.dropLast, l.getLast h, (List.dropLast_concat_getLast h).symm⟩
/-- such a thing is a whole number or a tuple -/
theorem wt_cases {H : Hp} {v : V} {d : PyData} (t : Tp H v d) (h : Wt d) : (d = .int 1 ∧ v = .int 1) ∨ ∃ (a : Addr) (w : Str) (xs : List V) (ds : List PyData), d = .tuple (.str w :: ds) ∧ v = .ref a ∧ H a = some (.tup (.str w :: xs)) ∧ TpAll H xs ds ∧ WtAll ds ∧ ds ≠ [] := by
  cases h with
  | one =>
    cases t with
    | int i => exact .inl ⟨rfl, rfl⟩
  | tup w ne r =>
    cases t with
    | tup ha rr =>
      cases rr with
      | cons h1 h2 =>
        cases h1 with
        | str x => exact .inr ⟨_, w, _, _, rfl, rfl, ha, h2, r, ne⟩
theorem cut_one {x : V} {xs : List V} : cutV (x :: xs) (some 1) none = xs := by
  unfold cutV
  rw [HT.sIx_none, show HT.sIx (x :: xs).length 0 (some 1) = min 1 (x :: xs).length from HT.sIx_nat _ _ 1]
  rw [show min 1 (x :: xs).length = 1 from Nat.min_eq_left (by rw [List.length_cons]; omega)]
  show List.take _ xs = xs
  exact List.take_of_length_le (by rw [List.length_cons]; omega)
theorem cut_part {x : V} {xs : List V} : ¬ (HT.sIx (x :: xs).length 0 (some 1) = 0 ∧ HT.sIx (x :: xs).length (x :: xs).length none = (x :: xs).length) := by
  rw [show HT.sIx (x :: xs).length 0 (some 1) = min 1 (x :: xs).length from HT.sIx_nat _ _ 1]
  rw [show min 1 (x :: xs).length = 1 from Nat.min_eq_left (by rw [List.length_cons]; omega)]
  omega
theorem ty_tup {K : PySem.W.Frag} {H : Hp} {a : Addr} {xs : List V} (h : H a = some (.tup xs)) : TyX K H (.ref a) (.type "tuple") := .base (.tup h)
theorem kt_tup {K : PySem.W.Frag} : PySem.W.kitOne K (.type "tuple") (.type "tuple") = some true := kit_ty (by show kitB "tuple" "tuple" = some true; decide +kernel)
theorem ty_int {K : PySem.W.Frag} {H : Hp} {i : Int} : TyX K H (.int i) (.type "int") := .base (.int i)
theorem kt_int {K : PySem.W.Frag} : PySem.W.kitOne K (.type "int") (.type "tuple") = some false := kit_ty (by show kitB "int" "tuple" = some false; decide +kernel)
def spSize : Sp := fun vs H Q _ => ∃ (v : V) (d : PyData), vs = [v] ∧ Tp H v d ∧ Wt d ∧ szP d ≤ 100000 ∧ ∀ H', Same H H' → Q (.int (onesP d)) H'
def spJoined : Sp := fun vs H Q _ => ∃ (v : V) (d : PyData), vs = [v] ∧ Tp H v d ∧ Wt d ∧ szP d ≤ 100000 ∧ Q (.bl (joinedP d)) H
def spAre : Sp := fun vs H Q _ => ∃ (a : Addr) (o : Nat) (xs : List V) (ds : List PyData), vs = [.ref a, .int o] ∧ H a = some (.tup xs) ∧ TpAll H xs ds ∧ szAll ds ≤ 100000 ∧
  ((GoodAll o ds ∧ onesAll ds ≤ 60 ∧ ∀ H', Same H H' → Q (.bl true) H') ∨ (∃ w es, ds = [.tuple (.str w :: es)] ∧ Wt (.tuple (.str w :: es)) ∧ joinedP (.tuple (.str w :: es)) = false ∧ ∀ H', Same H H' → Q (.bl false) H'))
section
variable {P : Program} {w : World} {K : PySem.W.Frag} {mg : Str → Option Value} {base : Heap}
theorem has_size {cs : Nat → Addr} (T : Top K mg cs) : Has P w K mg base 1 "size_of" ["part"] spSize := by
  refine has_of T.d_size_of sc_size_of bd_size_of (fun vs H Q E h => ?_) (fun f cdv A outer s H vs Q E hr h => ?_)
  · obtain ⟨v, d, rfl, _⟩ := h
    rfl
  · have hu := hu_of hr
    have nd := sc_size_of.nd
    obtain ⟨v, d, rfl, tp, wt, few, k⟩ := h
    refine ⟨_, (pss_cons (ps_set (i := 1) nd rfl (.inl rfl) pe_int)
    (pss_cons (ps_set (i := 2) nd rfl (.inl rfl) (pe_lst (pa_cons (pv 0) pa_nil)))
    (pss_cons (ps_while PassesOwn.never (pt_truth (pv 2) (by intro _; rfl)) (pss_cons (ps_set (i := 3) nd rfl (.inl rfl) (pe_bm0 PySem.F.plainAttrs_list PySem.F.slot_list_pop PySem.F.type_list_pop mt_pop (pv 2)))
    (pss_one (ps_if (pt_val (pe_callB call_isi (by rfl) T.b_isinstance (by decide +kernel) (pa_cons (pv 3) (pa_cons (pe_bltn (v := .ty "tuple") (u := .type "tuple") (by rfl) T.b_tuple (by decide +kernel) (by rfl)) pa_nil)))) (pss_one (ps_expr (pe_bm PySem.F.plainAttrs_list PySem.F.slot_list_extend PySem.F.type_list_extend mt_extendT (pv 2) (pa_cons (pe_slice sl_tup (pv 3) (po_some pe_int) po_none) pa_nil)))) (pss_one (ps_aug (i := 1) nd rfl (.inl rfl) pe_int ip_add))))))
    (pss_one (ps_ret (pv 1)))))), ?_⟩
    have line : (200000 : Nat) < sizeLine := by decide
    refine ⟨_, rfl, by show 1 ≤ sizeLine; decide, fun W nW => ?_⟩
    refine ⟨fun m σ H' => ∃ (v3 : Option V) (n : Nat) (vs : List V) (ds : List PyData), m = szAll ds ∧ σ = [some v, some (.int n), some (.ref W), v3] ∧ Same H H' ∧ H' W = some (.lst vs) ∧ TpAll H' vs ds ∧ WtAll ds ∧ n + onesAll ds = onesP d ∧ szAll ds ≤ 100000, ⟨szAll [d], none, 0, [v], [d], rfl, rfl, same_new nW, upd_same, .cons (tp.kt (KT.new nW)) .nil, .cons wt .nil, ?_, ?_⟩, ?_⟩
    · rw [onesAll, onesAll]
      omega
    · rw [szAll, szAll]
      omega
    rintro m σ H' ⟨v3, n, vs, ds, rfl, rfl, s, hW, tpa, wta, on, few2⟩
    have lvs := tpa.len
    have lsz := len_sz ds
    refine ⟨_, rfl, _, .inl ⟨vs, SqL.of hW, rfl⟩, ?_⟩
    by_cases e : vs = []
    · subst e
      cases tpa
      exact iteF ⟨_, rfl, by have z : n + 0 = onesP d := on; rw [Nat.add_zero] at z; rw [← z] at k; exact k _ s⟩
    obtain ⟨vs, y, rfl⟩ := snoc_of2 e
    obtain ⟨es, x, rfl, tpb, tpx⟩ := tpa.snoc_inv
    obtain ⟨wtb, wtx⟩ := wta.snoc_inv
    clear tpa wta
    have ne : (!(vs ++ [y]).isEmpty) = true := by cases vs <;> rfl
    rw [ne]
    refine iteT ⟨_, fun σ' H' h => h, ?_⟩
    refine ⟨_, rfl, .inl ⟨rfl, _, SqL.of hW⟩, W, _, y, rfl, rfl, hW, last_snoc, ?_⟩
    rw [dropLast_snoc]
    have k2 : KT H' (upd H' W (.lst vs)) := .lst hW
    have s2 : Same H (upd H' W (.lst vs)) := same_mut s nW
    have hW2 : (upd H' W (.lst vs)) W = some (.lst vs) := upd_same
    replace tpb := tpb.kt k2
    replace tpx := tpx.kt k2
    generalize upd H' W (.lst vs) = H2 at s2 hW2 tpb tpx
    rw [onesAll_app, onesAll, onesAll] at on
    rw [szAll_app, szAll, szAll] at few2
    rw [szAll_app, szAll, szAll]
    have lv := tpb.len
    have lz := len_sz es
    have px := szP_pos x
    rcases wt_cases tpx wtx with ⟨rfl, rfl⟩ | ⟨a, w', xs, ds, rfl, rfl, ha, tr, wr, ne'⟩
    · refine ⟨_, rfl, _, .ty "tuple", _, _, _, rfl, .ty _, ty_int, kt_int, _, rfl, iteF ?_⟩
      refine ⟨_, rfl, _, _, rfl, rfl, szAll es, by omega, _, n + 1, vs, es, rfl, rfl, s2, hW2, tpb, wtb, ?_, by omega⟩
      rw [onesP] at on
      omega
    · refine ⟨_, rfl, _, .ty "tuple", _, _, _, rfl, .ty _, ty_tup ha, kt_tup, _, rfl, iteT ?_⟩
      rw [szP, szAll] at few2 ⊢
      rw [onesP, onesAll, show onesP (.str w') = 0 from rfl, Nat.zero_add] at on
      have lr := tr.len
      have ls := len_sz ds
      refine ⟨_, rfl, .inl ⟨rfl, _, SqL.of hW2⟩, _, rfl, 1, rfl, a, _, rfl, SqT.of ha, cut_part, fun p hp => ?_⟩
      rw [cut_one]
      have hW3 := same_new (o := .tup xs) hp _ _ hW2
      have s3 := s2.trans (same_new (o := .tup xs) hp)
      refine ⟨W, p, vs, xs, rfl, rfl, hW3, SqT.of upd_same, by omega, szAll (es ++ ds), ?_, _, n, vs ++ xs, es ++ ds, rfl, rfl, same_mut s3 nW, upd_same, ?_, wtb.app wr, ?_, ?_⟩
      · rw [szAll_app]
        omega
      · exact ((tpb.app tr).kt (KT.new hp)).kt (KT.lst hW3)
      · rw [onesAll_app]
        omega
      · rw [szAll_app]
        omega
theorem has_isjoined {cs : Nat → Addr} (T : Top K mg cs) : Has P w K mg base 1 "_is_joined" ["thing"] spJoined := by
  refine has_of T.d__is_joined sc__is_joined bd__is_joined (fun vs H Q E h => ?_) (fun f cdv A outer s H vs Q E hr h => ?_)
  · obtain ⟨v, d, rfl, _⟩ := h
    rfl
  · have hu := hu_of hr
    have nd := sc__is_joined.nd
    obtain ⟨v, d, rfl, tp, wt, few, k⟩ := h
    refine ⟨_, (pss_cons (ps_if (PW.pt (pw_or (pt_not (pt_val (pe_callB call_isi (by rfl) T.b_isinstance (by decide +kernel) (pa_cons (pv 0) (pa_cons (pe_bltn (v := .ty "tuple") (u := .type "tuple") (by rfl) T.b_tuple (by decide +kernel) (by rfl)) pa_nil))))) (pw_or1 (pt_cmpR op_lt (pe_callB call_len_seq (by rfl) T.b_len (by decide +kernel) (pa_cons (pv 0) pa_nil)) pe_int (nomark _))))) (pss_one (ps_ret pe_bl)) pss_nil)
    (pss_one (ps_ret (pe_or (pe_cmpR op_eq (pe_ix ix_tup (pv 0) pe_int (fun _ _ => rfl)) pe_str (nomark _)) (pe_one (pe_and (pe_cmpR op_eq (pe_ix ix_tup (pv 0) pe_int (fun _ _ => rfl)) pe_str (nomark _)) (pe_one (pe_cmpR op_eq (pe_callB call_len_seq (by rfl) T.b_len (by decide +kernel) (pa_cons (pv 0) pa_nil)) pe_int (nomark _))))))))), ?_⟩
    rcases wt_cases tp wt with ⟨rfl, rfl⟩ | ⟨a, w', xs, ds, rfl, rfl, ha, tr, wr, ne⟩
    · exact ⟨_, rfl, _, .ty "tuple", _, _, _, rfl, .ty _, ty_int, kt_int, _, rfl, iteT (iteT k)⟩
    · have lr := tr.len
      have lp : 1 ≤ ds.length := List.length_pos_iff.mpr ne
      refine ⟨_, rfl, _, .ty "tuple", _, _, _, rfl, .ty _, ty_tup ha, kt_tup, _, rfl, iteF ⟨_, rfl, a, _, rfl, .inr (SqT.of ha), _, _, rfl, rfl, _, rfl, ?_⟩⟩
      have c0 : decide ((((V.str w' :: xs).length : Nat) : Int) < 2) = false := decide_eq_false (by rw [List.length_cons]; omega)
      rw [c0]
      refine iteF ?_
      have hat : atI (V.str w' :: xs) 0 = some (.str w') := at_of (j := 0) rfl rfl
      have dn : decide (ds ≠ []) = true := decide_eq_true ne
      have kj : joinedP (.tuple (.str w' :: ds)) = (decide (w' = "sums") || (decide (w' = "net") && decide (ds.length = 2))) := by
        rw [joinedP, dn, Bool.true_and]
      rw [kj] at k
      refine ⟨_, rfl, a, _, _, _, rfl, rfl, SqT.of ha, hat, rfl, ?_⟩
      have e1 : ∀ z : Str, decide (V.str w' = V.str z) = decide (w' = z) := fun z => by
        by_cases h : w' = z
        · rw [h, decide_eq_true rfl, decide_eq_true rfl]
        · rw [decide_eq_false h, decide_eq_false fun y => h (V.str.inj y)]
      refine ⟨decide (w' = "sums"), congrArg V.bl (e1 _), ?_⟩
      by_cases h1 : w' = "sums"
      · rw [decide_eq_true h1] at k ⊢
        exact iteT k
      rw [decide_eq_false h1] at k ⊢
      rw [Bool.false_or] at k
      refine iteF ⟨_, rfl, a, _, _, _, rfl, rfl, SqT.of ha, hat, rfl, decide (w' = "net"), congrArg V.bl (e1 _), ?_⟩
      by_cases h2 : w' = "net"
      · rw [decide_eq_true h2] at k ⊢
        rw [Bool.true_and] at k
        refine iteT ⟨_, rfl, a, _, rfl, .inr (SqT.of ha), rfl, ?_⟩
        have e3 : decide (V.int ((V.str w' :: xs).length : Nat) = V.int 3) = decide (ds.length = 2) := by
          by_cases h : ds.length = 2
          · rw [decide_eq_true h, decide_eq_true]
            rw [List.length_cons, lr, h]
            rfl
          · rw [decide_eq_false h, decide_eq_false]
            intro y
            have y2 := V.int.inj y
            rw [List.length_cons] at y2
            omega
        show Q (.bl (decide (V.int ((V.str w' :: xs).length : Nat) = V.int 3))) H
        rw [e3]
        exact k
      · rw [decide_eq_false h2] at k ⊢
        exact iteF k
theorem iteF' {p : Prop} [Decidable p] {A B : Prop} (h : ¬ p) (b : B) : if decide p = true then A else B := by
  rw [if_neg fun z => h (of_decide_eq_true z)]
  exact b
theorem iteT' {p : Prop} [Decidable p] {A B : Prop} (h : p) (a : A) : if decide p = true then A else B := by
  rw [if_pos (decide_eq_true h)]
  exact a
/-- things with so many tuples around them, as pairs -/
def prD (p : PyData × Nat) : PyData := .tuple [p.1, .int p.2]
def PG (ps : List (PyData × Nat)) : Prop := ∀ p ∈ ps, Good p.2 p.1
theorem GoodAll.mem : ∀ {o : Nat} {ds : List PyData}, GoodAll o ds → ∀ d ∈ ds, Good o d
  | _, _, .nil, d, h => by cases h
  | _, _, .cons x r, d, h => by
    rcases List.mem_cons.mp h with z | z
    · rw [z]
      exact x
    · exact r.mem d z
def onesPs (ps : List (PyData × Nat)) : Nat := onesAll (ps.map (·.1))
def szPs (ps : List (PyData × Nat)) : Nat := szAll (ps.map (·.1))
theorem onesPs_snoc (ps : List (PyData × Nat)) (q : PyData × Nat) : onesPs (ps ++ [q]) = onesPs ps + onesP q.1 := by
  unfold onesPs
  rw [List.map_append, onesAll_app, List.map_cons, List.map_nil, onesAll, onesAll, Nat.add_zero]
theorem szPs_snoc (ps : List (PyData × Nat)) (q : PyData × Nat) : szPs (ps ++ [q]) = szPs ps + szP q.1 := by
  unfold szPs
  rw [List.map_append, szAll_app, List.map_cons, List.map_nil, szAll, szAll, Nat.add_zero]
theorem map_fst (ds : List PyData) (o : Nat) : (ds.map fun d => (d, o)).map (fun x : PyData × Nat => x.1) = ds := by
  rw [List.map_map, show ((fun x : PyData × Nat => x.1) ∘ fun d => (d, o)) = id from rfl, List.map_id]
theorem onesPs_put (ps : List (PyData × Nat)) (ds : List PyData) (o : Nat) : onesPs (ps ++ ds.map fun d => (d, o)) = onesPs ps + onesAll ds := by
  unfold onesPs
  rw [List.map_append, onesAll_app, map_fst]
theorem szPs_put (ps : List (PyData × Nat)) (ds : List PyData) (o : Nat) : szPs (ps ++ ds.map fun d => (d, o)) = szPs ps + szAll ds := by
  unfold szPs
  rw [List.map_append, szAll_app, map_fst]
theorem good_len : ∀ {ps : List (PyData × Nat)}, PG ps → ps.length ≤ onesPs ps
  | [], _ => Nat.zero_le _
  | p :: ps, h => by
    have a := (h p List.mem_cons_self).pos
    have b := good_len (ps := ps) fun q hq => h q (List.mem_cons_of_mem _ hq)
    unfold onesPs at b ⊢
    rw [List.map_cons, onesAll, List.length_cons]
    omega
theorem tp_pair {H : Hp} {v : V} {p : PyData × Nat} (t : Tp H v (prD p)) : ∃ a y, v = .ref a ∧ H a = some (.tup [y, .int p.2]) ∧ Tp H y p.1 := by
  unfold prD at t
  cases t with
  | tup ha r =>
    cases r with
    | cons h1 r =>
      cases r with
      | cons h2 r =>
        cases r
        cases h2
        exact ⟨_, _, rfl, ha, h1⟩
theorem plain_tp {H : Hp} {v : V} {d : PyData} (t : Tp H v d) : Plain H v := by
  cases t with
  | non => exact .non
  | bl b => exact .bl b
  | int i => exact .int i
  | str x => exact .str x
  | tup h _ => exact .tup h
theorem has_are {cs : Nat → Addr} (T : Top K mg cs) (h_is_whole : Has P w K mg base 1 "is_whole" ["thing"] spWhole) (h__is_joined : Has P w K mg base 1 "_is_joined" ["thing"] spJoined) : Has P w K mg base 2 "_are_parts" ["things", "around"] spAre := by
  refine has_of T.d__are_parts sc__are_parts bd__are_parts (fun vs H Q E h => ?_) (fun f cdv A outer s H vs Q E hr h => ?_)
  · obtain ⟨a, o, xs, ds, rfl, _⟩ := h
    rfl
  · have hu := hu_of hr
    have nd := sc__are_parts.nd
    obtain ⟨a, o, xs, ds, rfl, ha, tr, few, h⟩ := h
    refine ⟨_, (pss_cons (ps_set (i := 2) nd rfl (.inl rfl) pe_int)
    (pss_cons (ps_setLc (i := 4) (own := [("thing", 3)]) (by rfl) nd rfl rfl (sw_true rfl rfl rfl (by decide +kernel)) (pi_tup (pv 0)) (blkOk_by (own := [("thing", 3)]) (N := nm__are_parts) (sc := defScope s__are_parts) (by decide +kernel)) (fun _ _ _ _ _ => pg_name (i := 3) nd rfl (.inl rfl)) (fun _ _ _ _ _ => pts_nil) (fun _ _ _ _ _ => (pe_tup (pa_cons (pv 3) (pa_cons (pv 1) pa_nil)))))
    (pss_cons (ps_while PassesOwn.never (pt_truth (pv 4) (by intro _; rfl)) (pss_cons (ps_if (pt_cmpR op_gt (pe_op op_add (pv 2) (pe_callB call_len_seq (by rfl) T.b_len (by decide +kernel) (pa_cons (pv 4) pa_nil))) (pe_const T.c_MOST_ONES (by rfl)) (nomark _)) (pss_one (ps_ret pe_bl)) pss_nil)
    (pss_cons (ps_asg (pe_bm0 PySem.F.plainAttrs_list PySem.F.slot_list_pop PySem.F.type_list_pop mt_pop (pv 4)) (pg_tup (by rfl) (pgs_cons (pg_name (i := 3) nd rfl (.inl rfl)) (pgs_cons (pg_name (i := 5) nd rfl (.inr rfl)) pgs_nil))))
    (pss_one (ps_if (PW.pt (pw_and (pt_val (pe_has h_is_whole (hr.mono (by omega)) (by rfl) (pa_cons (pv 3) pa_nil))) (pw_and1 (pt_cmpR op_eq (pv 3) pe_int (nomark _))))) (pss_one (ps_aug (i := 2) nd rfl (.inl rfl) pe_int ip_add)) (pss_one (ps_if (PW.pt (pw_and (pt_cmpR op_lt (pv 5) (pe_const T.c_MOST_TUPLES (by rfl)) (nomark _)) (pw_and1 (pt_val (pe_has h__is_joined (hr.mono (by omega)) (by rfl) (pa_cons (pv 3) pa_nil)))))) (pss_one (ps_expr (pe_bm PySem.F.plainAttrs_list PySem.F.slot_list_extend PySem.F.type_list_extend mt_extend (pv 4) (pa_cons (pe_lc (own := [("part", 6)]) (by rfl) nd (pi_tup (pe_slice sl_tup (pv 3) (po_some pe_int) po_none)) (blkOk_by (own := [("part", 6)]) (N := nm__are_parts) (sc := defScope s__are_parts) (by decide +kernel)) (fun _ _ _ _ _ => pg_name (i := 6) nd rfl (.inl rfl)) (fun _ _ _ _ _ => pts_nil) (fun _ _ _ _ _ => (pe_tup (pa_cons (pv 6) (pa_cons (pe_op op_add (pv 5) pe_int) pa_nil))))) pa_nil)))) (pss_one (ps_ret pe_bl)))))))))
    (pss_one (ps_ret pe_bl))))), ?_⟩
    have line : (200000 : Nat) < sizeLine := by decide
    have lx := tr.len
    have ls := len_sz ds
    -- the things, with what is around
    refine ⟨_, rfl, a, rfl, ⟨_, SqT.of ha⟩, fun W nW => lc_tup (xs := xs) (fun i H1 => TpT H H1 W ((ds.take i).map fun d => prD (d, o))) (TpT.new nW) (fun i H1 _ p => SqT.of (p.s _ _ ha)) (fun i x H1 hx p => ?_) (fun H1 p => ?_)⟩
    · have hi : i < ds.length := by
        rw [← lx]
        exact (List.getElem?_eq_some_iff.mp hx).1
      have hd : ds[i]? = some ds[i] := List.getElem?_eq_getElem hi
      obtain ⟨v, hv, tv⟩ := tr.get hd
      rw [hx] at hv
      cases hv
      refine ⟨rfl, yes_go ⟨_, rfl, _, rfl, by show 2 ≤ sizeLine; decide, fun p' hp' => ?_⟩⟩
      rw [List.take_add_one, hd, List.map_append]
      refine p.put nW (same_new hp') (by rw [List.length_map]; have := List.length_take_le i ds; omega) ?_
      exact .new hp' (.cons (tv.kt (KT.same p.s)) (.cons (.int _) .nil))
    · rw [show xs.length = ds.length from lx, List.take_length] at p
      obtain ⟨ys, hW, ry⟩ := p.ex
      rcases h with ⟨gd, on, k⟩ | ⟨w', es, rfl, wt, nj, k⟩
      · refine ⟨fun m σ H' => ∃ (v3 v5 v6 : Option V) (n : Nat) (vs : List V) (ps : List (PyData × Nat)), m = szPs ps ∧ σ = [some (.ref a), some (.int o), some (.int n), v3, some (.ref W), v5, v6] ∧ Same H H' ∧ H' W = some (.lst vs) ∧ TpAll H' vs (ps.map prD) ∧ PG ps ∧ n + onesPs ps ≤ 60 ∧ szPs ps ≤ 100000,
          ⟨_, none, none, none, 0, ys, ds.map fun d => (d, o), rfl, rfl, p.s, hW, by rw [List.map_map]; exact ry, ?_, ?_, ?_⟩, ?_⟩
        · intro q hq
          obtain ⟨d, hd, rfl⟩ := List.mem_map.mp hq
          exact gd.mem d hd
        · unfold onesPs
          rw [List.map_map, show ((fun x : PyData × Nat => x.1) ∘ fun d => (d, o)) = id from rfl, List.map_id, Nat.zero_add]
          exact on
        · unfold szPs
          rw [List.map_map, show ((fun x : PyData × Nat => x.1) ∘ fun d => (d, o)) = id from rfl, List.map_id]
          exact few
        rintro m σ H' ⟨v3, v5, v6, n, vs, ps, rfl, rfl, s, hW', tpa, pg, on', few'⟩
        have lv := tpa.len
        rw [List.length_map] at lv
        have gl := good_len pg
        refine ⟨_, rfl, _, .inl ⟨vs, SqL.of hW', rfl⟩, ?_⟩
        by_cases e : vs = []
        · subst e
          exact iteF (k _ s)
        obtain ⟨vs, y, rfl⟩ := snoc_of2 e
        have pne : ps ≠ [] := fun z => by
          rw [z, List.length_append] at lv
          simp only [List.length_singleton, List.length_nil] at lv
          omega
        obtain ⟨qs, q, rfl⟩ := snoc_of2 pne
        have ne : (!(vs ++ [y]).isEmpty) = true := by cases vs <;> rfl
        rw [ne]
        refine iteT ⟨_, fun σ' H' h => h, ?_⟩
        have c60 : ¬ (60 : Int) < (n : Int) + ((vs ++ [y]).length : Nat) := by
          rw [lv]
          omega
        refine ⟨_, rfl, _, rfl, W, _, rfl, .inl (SqL.of hW'), _, _, rfl, rfl, _, _, rfl, rfl, _, rfl, iteF' c60 ?_⟩
        rw [List.map_append] at tpa
        obtain ⟨es, x, ee, tpb, tpx⟩ := tpa.snoc_inv
        have ee2 := List.append_inj' ee (by simp)
        obtain ⟨e1, e2⟩ := ee2
        have e3 : prD q = x := by
          have z : [prD q] = [x] := e2
          exact (List.cons.inj z).1
        subst e1 e3
        clear tpa ee e2
        refine ⟨_, rfl, .inl ⟨rfl, _, SqL.of hW'⟩, W, _, y, rfl, rfl, hW', last_snoc, ?_⟩
        rw [dropLast_snoc]
        have k2 : KT H' (upd H' W (.lst vs)) := .lst hW'
        have s2 : Same H (upd H' W (.lst vs)) := same_mut s nW
        have hW2 : (upd H' W (.lst vs)) W = some (.lst vs) := upd_same
        replace tpb := tpb.kt k2
        replace tpx := tpx.kt k2
        generalize upd H' W (.lst vs) = H2 at s2 hW2 tpb tpx
        obtain ⟨b, v, rfl, hb, tv⟩ := tp_pair tpx
        refine ⟨b, _, rfl, SqT.of hb, rfl, _, _, rfl, _, _, rfl, rfl, ?_⟩
        have pgq : PG qs := fun z hz => pg z (List.mem_append_left _ hz)
        have gq := pg q (List.mem_append_right _ List.mem_cons_self)
        obtain ⟨d, o'⟩ := q
        dsimp only at gq tv hb
        rw [onesPs_snoc] at on'
        rw [szPs_snoc] at few' ⊢
        have lv2 := tpb.len
        rw [List.length_map] at lv2
        have gl2 := good_len pgq
        have pz := szP_pos d
        dsimp only at on' few' ⊢
        rcases wt_cases tv gq.wt with ⟨rfl, rfl⟩ | ⟨a', w', xs', ds', rfl, rfl, ha', tr', wr, ne'⟩
        · refine ⟨_, rfl, _, rfl, .int 1, _, rfl, iteT ⟨_, rfl, rfl, _, rfl, iteT ⟨_, rfl, _, _, rfl, rfl, szPs qs, by omega, _, _, _, n + 1, vs, qs, rfl, rfl, s2, hW2, tpb, pgq, ?_, by omega⟩⟩⟩
          rw [onesP] at on'
          omega
        · cases gq with
          | tup o60 jn gr =>
            refine ⟨_, rfl, _, rfl, .tup ha', _, rfl, iteF (iteF ?_)⟩
            refine ⟨_, rfl, _, _, rfl, rfl, _, rfl, iteT' (by omega) ⟨_, rfl, _, _, rfl, tv, .tup w' ne' wr, by omega, _, rfl, ?_⟩⟩
            rw [jn]
            rw [szP, szAll] at few' ⊢
            rw [onesP, onesAll, show onesP (.str w') = 0 from rfl, Nat.zero_add] at on'
            have lr := tr'.len
            have lz' := len_sz ds'
            refine iteT ⟨_, rfl, .inl ⟨rfl, _, SqL.of hW2⟩, _, rfl, 1, rfl, a', _, rfl, SqT.of ha', cut_part, fun p' hp' => ?_⟩
            rw [cut_one]
            have hW3 := same_new (o := .tup xs') hp' _ _ hW2
            have s3 := s2.trans (same_new (o := .tup xs') hp')
            have k3 : KT H2 (upd H2 p' (.tup xs')) := KT.new hp'
            have hp3 : (upd H2 p' (.tup xs')) p' = some (.tup xs') := upd_same
            replace tpb := tpb.kt k3
            replace tr' := tr'.kt k3
            generalize upd H2 p' (.tup xs') = H3 at hW3 s3 hp3 tpb tr'
            refine ⟨p', rfl, ⟨_, SqT.of hp3⟩, fun D hD => lc_tup (xs := xs') (fun i H1 => TpT H3 H1 D ((ds'.take i).map fun d => prD (d, o' + 1))) (TpT.new hD) (fun i H1 _ p => SqT.of (p.s _ _ hp3)) (fun i x H1 hx p => ?_) (fun H1 p => ?_)⟩
            · have hi : i < ds'.length := by
                rw [← lr]
                exact (List.getElem?_eq_some_iff.mp hx).1
              have hd : ds'[i]? = some ds'[i] := List.getElem?_eq_getElem hi
              obtain ⟨v', hv', tv'⟩ := tr'.get hd
              rw [hx] at hv'
              cases hv'
              refine ⟨rfl, yes_go ⟨_, rfl, _, rfl, _, _, rfl, rfl, by show 2 ≤ sizeLine; decide, fun p'' hp'' => ?_⟩⟩
              rw [List.take_add_one, hd, List.map_append]
              refine p.put hD (same_new hp'') (by rw [List.length_map]; have := List.length_take_le i ds'; omega) ?_
              exact .new hp'' (.cons (tv'.kt (KT.same p.s)) (.cons (.int _) .nil))
            · rw [show xs'.length = ds'.length from lr, List.take_length] at p
              obtain ⟨zs, hD1, rz⟩ := p.ex
              have lzs := rz.len
              rw [List.length_map] at lzs
              have hW4 := p.s _ _ hW3
              refine ⟨W, D, vs, zs, rfl, rfl, hW4, hD1, by omega, szPs (qs ++ ds'.map fun d => (d, o' + 1)), ?_, _, _, _, n, vs ++ zs, qs ++ ds'.map fun d => (d, o' + 1), rfl, rfl, same_mut (s3.trans p.s) nW, upd_same, ?_, ?_, ?_, ?_⟩
              · rw [szPs_put]
                omega
              · rw [List.map_append, List.map_map]
                exact ((tpb.kt (KT.same p.s)).app rz).kt (KT.lst hW4)
              · intro z hz
                rcases List.mem_append.mp hz with hz | hz
                · exact pgq z hz
                · obtain ⟨d, hd, rfl⟩ := List.mem_map.mp hz
                  exact gr.mem d hd
              · rw [onesPs_put]
                omega
              · rw [szPs_put]
                omega
      · -- one thing that is no part
        have e1 : ∃ y, ys = [y] := by
          have l := ry.len
          simp only [List.map_cons, List.map_nil, List.length_cons, List.length_nil] at l
          match ys, l with
          | [y], _ => exact ⟨y, rfl⟩
        obtain ⟨y, rfl⟩ := e1
        refine ⟨fun m σ H' => m = 0 ∧ σ = [some (.ref a), some (.int o), some (.int 0), none, some (.ref W), none, none] ∧ H' = H1, ⟨0, rfl, rfl, rfl⟩, ?_⟩
        rintro m σ H' ⟨rfl, rfl, rfl⟩
        refine ⟨_, rfl, true, .inl ⟨_, SqL.of hW, rfl⟩, iteT ⟨_, fun σ' H' h => h, ?_⟩⟩
        refine ⟨_, rfl, _, rfl, W, _, rfl, .inl (SqL.of hW), _, _, rfl, rfl, _, _, rfl, rfl, _, rfl, iteF' (by show ¬ (60 : Int) < 0 + ((1 : Nat) : Int); decide) ?_⟩
        refine ⟨_, rfl, .inl ⟨rfl, _, SqL.of hW⟩, W, _, y, rfl, rfl, hW, rfl, ?_⟩
        have s2 : Same H (upd H' W (.lst [])) := same_mut p.s nW
        cases ry with
        | cons ty _ =>
          obtain ⟨b, v, rfl, hb, tv⟩ := tp_pair (ty.kt (KT.lst (o := .lst []) hW))
          dsimp only at tv hb
          have s2' : Same H (upd H' W (.lst ([V.ref b].dropLast))) := s2
          have hb' : (upd H' W (.lst ([V.ref b].dropLast))) b = some (.tup [v, .int o]) := hb
          refine ⟨b, _, rfl, SqT.of hb', rfl, _, _, rfl, _, _, rfl, rfl, ?_⟩
          rcases wt_cases tv wt with ⟨e, _⟩ | ⟨a', w'', xs', ds', e, rfl, ha', tr', wr, ne'⟩
          · cases e
          · rw [szAll, szAll] at few
            refine ⟨_, rfl, _, rfl, .tup ha', _, rfl, iteF (iteF ⟨_, rfl, _, _, rfl, rfl, _, rfl, ?_⟩)⟩
            refine ite2 (fun _ => ⟨_, rfl, _, _, rfl, tv, wt, by omega, _, rfl, ?_⟩) (fun _ => iteF (k _ s2))
            rw [nj]
            exact iteF (k _ s2)
end

/-! ### whether it is a part, a plan -/
theorem sz_leaf {d : PyData} (h : ∀ ds, d ≠ .tuple ds) : szP d = 1 := by
  cases d with
  | tuple ds => exact absurd rfl (h ds)
  | none => rfl
  | bool _ => rfl
  | int _ => rfl
  | str _ => rfl
  | list _ => rfl
  | dict _ => rfl
mutual
theorem sz_wt : ∀ d : PyData, szP d ≤ d.weight + 1
  | .tuple ds => by
    rw [szP, PyData.weight]
    have := szAll_wt ds
    omega
  | .none => Nat.succ_le_succ (Nat.zero_le _)
  | .bool _ => Nat.succ_le_succ (Nat.zero_le _)
  | .int _ => Nat.succ_le_succ (Nat.zero_le _)
  | .str _ => Nat.succ_le_succ (Nat.zero_le _)
  | .list _ => Nat.succ_le_succ (Nat.zero_le _)
  | .dict _ => Nat.succ_le_succ (Nat.zero_le _)
theorem szAll_wt : ∀ ds : List PyData, szAll ds ≤ PyData.weightAll ds
  | [] => Nat.zero_le _
  | d :: ds => by
    rw [szAll, PyData.weightAll]
    have := sz_wt d
    have := szAll_wt ds
    omega
end
def two : List Str := ["pairs", "codes"]
def spIsPart : Sp := fun vs H Q _ => ∃ (v : V) (d : PyData), vs = [v] ∧ Tp H v d ∧ szP d ≤ 99999 ∧
  ((Good 0 d ∧ onesP d ≤ 60 ∧ ∀ H', Same H H' → Q (.bl true) H') ∨ (∃ w es, d = .tuple (.str w :: es) ∧ Wt d ∧ joinedP d = false ∧ ∀ H', Same H H' → Q (.bl false) H'))
def spIsPlan : Sp := fun vs H Q _ => ∃ (v : V) (d : PyData), vs = [v] ∧ Tp H v d ∧ Wt d ∧ szP d ≤ 99999 ∧
  ((∃ w ds, d = .tuple (.str w :: ds) ∧ w ∈ two ∧ GoodAll 1 ds ∧ onesAll ds ≤ 60 ∧ ∀ H', Same H H' → Q (.bl true) H') ∨ ((∀ w ds, d = .tuple (.str w :: ds) → w ∉ two) ∧ ∀ H', Same H H' → Q (.bl false) H'))
section
variable {P : Program} {w : World} {K : PySem.W.Frag} {mg : Str → Option Value} {base : Heap}
theorem has_ispart {cs : Nat → Addr} (T : Top K mg cs) (h__are_parts : Has P w K mg base 2 "_are_parts" ["things", "around"] spAre) : Has P w K mg base 3 "is_part" ["thing"] spIsPart := by
  refine has_of T.d_is_part sc_is_part bd_is_part (fun vs H Q E h => ?_) (fun f cdv A outer s H vs Q E hr h => ?_)
  · obtain ⟨v, d, rfl, _⟩ := h
    rfl
  · have hu := hu_of hr
    have nd := sc_is_part.nd
    obtain ⟨v, d, rfl, tv, few, h⟩ := h
    refine ⟨_, (pss_one (ps_ret (pe_has h__are_parts (hr.mono (by omega)) (by rfl) (pa_cons (pe_tup (pa_cons (pv 0) pa_nil)) (pa_cons pe_int pa_nil))))), ?_⟩
    refine ⟨_, rfl, by show 1 ≤ sizeLine; decide, fun p hp => ⟨p, 0, [v], [d], rfl, upd_same, .cons (tv.kt (KT.new hp)) .nil, ?_, ?_⟩⟩
    · rw [szAll, szAll]
      omega
    · have s := same_new (o := .tup [v]) hp
      rcases h with ⟨g, on, k⟩ | ⟨w, es, e, wt, nj, k⟩
      · exact .inl ⟨.cons g .nil, by rw [onesAll, onesAll]; omega, fun H' s' => k _ (s.trans s')⟩
      · subst e
        exact .inr ⟨w, es, rfl, wt, nj, fun H' s' => k _ (s.trans s')⟩
theorem has_isplan {cs : Nat → Addr} (T : Top K mg cs) (h__are_parts : Has P w K mg base 2 "_are_parts" ["things", "around"] spAre) : Has P w K mg base 3 "is_plan" ["thing"] spIsPlan := by
  refine has_of T.d_is_plan sc_is_plan bd_is_plan (fun vs H Q E h => ?_) (fun f cdv A outer s H vs Q E hr h => ?_)
  · obtain ⟨v, d, rfl, _⟩ := h
    rfl
  · have hu := hu_of hr
    have nd := sc_is_plan.nd
    obtain ⟨v, d, rfl, tv, wt, few, h⟩ := h
    refine ⟨_, (pss_cons (ps_if (PW.pt (pw_or (pt_not (pt_val (pe_callB call_isi (by rfl) T.b_isinstance (by decide +kernel) (pa_cons (pv 0) (pa_cons (pe_bltn (v := .ty "tuple") (u := .type "tuple") (by rfl) T.b_tuple (by decide +kernel) (by rfl)) pa_nil))))) (pw_or1 (pt_cmpR op_lt (pe_callB call_len_seq (by rfl) T.b_len (by decide +kernel) (pa_cons (pv 0) pa_nil)) pe_int (nomark _))))) (pss_one (ps_ret pe_bl)) pss_nil)
    (pss_one (ps_ret (pe_and (pe_cmpR op_in_seq (pe_ix ix_tup (pv 0) pe_int (fun _ _ => rfl)) (pe_tup (pa_cons pe_str (pa_cons pe_str pa_nil))) (by rfl)) (pe_one (pe_has h__are_parts (hr.mono (by omega)) (by rfl) (pa_cons (pe_slice sl_tup (pv 0) (po_some pe_int) po_none) (pa_cons pe_int pa_nil)))))))), ?_⟩
    rcases wt_cases tv wt with ⟨rfl, rfl⟩ | ⟨a, w', xs, ds, rfl, rfl, ha, tr, wr, ne⟩
    · refine ⟨_, rfl, _, .ty "tuple", _, _, _, rfl, .ty _, ty_int, kt_int, _, rfl, iteT (iteT ?_)⟩
      rcases h with ⟨w, ds, e, _⟩ | ⟨_, k⟩
      · cases e
      · exact k _ (Same.refl _)
    · have lr := tr.len
      have lp : 1 ≤ ds.length := List.length_pos_iff.mpr ne
      refine ⟨_, rfl, _, .ty "tuple", _, _, _, rfl, .ty _, ty_tup ha, kt_tup, _, rfl, iteF ⟨_, rfl, a, _, rfl, .inr (SqT.of ha), _, _, rfl, rfl, _, rfl, iteF' (by rw [List.length_cons]; omega) ?_⟩⟩
      have hat : atI (V.str w' :: xs) 0 = some (.str w') := at_of (j := 0) rfl rfl
      refine ⟨_, rfl, a, _, _, _, rfl, rfl, SqT.of ha, hat, by show 2 ≤ sizeLine; decide, fun p hp => ?_⟩
      have s1 := same_new (o := .tup [.str "pairs", .str "codes"]) hp
      refine ⟨p, _, rfl, .inr (SqT.of upd_same), rfl, flat_texts two, decide (w' ∈ two), congrArg V.bl (in_texts w' two), ?_⟩
      rcases h with ⟨w, es, e, iw, g, on, k⟩ | ⟨iw, k⟩
      · cases e
        rw [decide_eq_true iw]
        refine iteT ⟨_, rfl, 1, rfl, a, _, rfl, SqT.of (s1 _ _ ha), cut_part, fun q hq => ?_⟩
        rw [cut_one]
        have s2 := s1.trans (same_new (o := .tup xs) hq)
        rw [szP, szAll] at few
        exact ⟨q, 1, xs, ds, rfl, upd_same, tr.kt (KT.same s2), by omega, .inl ⟨g, on, fun H' s' => k _ (s2.trans s')⟩⟩
      · rw [decide_eq_false (iw w' ds rfl)]
        exact iteF (k _ s1)
end
/-! ### parts by words are parts -/
theorem good_rep {o : Nat} : ∀ n, GoodAll o (List.replicate n (.int 1))
  | 0 => .nil
  | n + 1 => .cons .one (good_rep n)
theorem ones_rep : ∀ n, onesAll (List.replicate n (.int 1)) = n
  | 0 => rfl
  | n + 1 => by
    rw [List.replicate_succ, onesAll, ones_rep n, onesP]
    omega
theorem joined_sums {ds : List PyData} (h : ds ≠ []) : joinedP (.tuple (.str "sums" :: ds)) = true := by
  rw [joinedP, decide_eq_true h]
  rfl
theorem joined_net {d e : PyData} : joinedP (.tuple [.str "net", d, e]) = true := by
  rw [joinedP, decide_eq_true (by simp)]
  rfl
theorem rep_ne {n : Nat} {d : PyData} (h : 1 ≤ n) : List.replicate n d ≠ [] := fun z => by
  have := congrArg List.length z
  rw [List.length_replicate, List.length_nil] at this
  omega
theorem flat_good {o n : Nat} (ho : o < 60) (hn : 1 ≤ n) : Good o (dFlat n) ∧ onesP (dFlat n) = n := by
  unfold dFlat
  split
  · exact ⟨.one, by rw [onesP]; omega⟩
  · refine ⟨.tup ho (joined_sums (rep_ne hn)) (good_rep n), ?_⟩
    rw [onesP, onesAll, ones_rep, show onesP (.str "sums") = 0 from rfl, Nat.zero_add]
theorem row_good : ∀ n o, 1 ≤ n → o + n ≤ 61 → Good o (dRow n) ∧ onesP (dRow n) = n
  | 0, _, h, _ => absurd h (by decide)
  | 1, _, _, _ => ⟨.one, by rw [show dRow 1 = .int 1 from rfl, onesP]⟩
  | n + 2, o, _, h => by
    obtain ⟨a, b⟩ := row_good (n + 1) (o + 1) (by omega) (by omega)
    rw [dRow]
    refine ⟨.tup (by omega) (joined_sums (by simp)) (.cons a (.cons .one .nil)), ?_⟩
    rw [onesP, onesAll, onesAll, onesAll, onesAll, b, show onesP (.str "sums") = 0 from rfl, show onesP (.int 1) = 1 from rfl]
    omega
theorem join_good {w : Str} (hw : w = "sums" ∨ w = "net") : ∀ n o, 1 ≤ n → o + n ≤ 61 → Good o (dJoin w n) ∧ onesP (dJoin w n) = n := by
  intro n
  induction n using Nat.strongRecOn with
  | _ n ih =>
    intro o h1 h
    by_cases c : n = 1
    · subst c
      rw [dJoin]
      exact ⟨.one, by rw [onesP]⟩
    · obtain ⟨a, b⟩ := ih ((n + 1) / 2) (by omega) (o + 1) (by omega) (by omega)
      obtain ⟨a2, b2⟩ := ih (n / 2) (by omega) (o + 1) (by omega) (by omega)
      rw [dJoin_eq w (by omega)]
      refine ⟨.tup (by omega) ?_ (.cons a (.cons a2 .nil)), ?_⟩
      · rcases hw with rfl | rfl
        · exact joined_sums (by simp)
        · exact joined_net
      · rw [onesP, onesAll, onesAll, onesAll, onesAll, b, b2, show onesP (.str w) = 0 from rfl]
        omega
theorem good_map {α : Type} {o : Nat} {f : α → PyData} : ∀ {l : List α}, (∀ x ∈ l, Good o (f x)) → GoodAll o (l.map f)
  | [], _ => .nil
  | x :: r, h => .cons (h x List.mem_cons_self) (good_map fun y hy => h y (List.mem_cons_of_mem _ hy))
theorem ones_map {α : Type} {f : α → PyData} {g : α → Nat} : ∀ {l : List α}, (∀ x ∈ l, onesP (f x) = g x) → onesAll (l.map f) = (l.map g).sum
  | [], _ => rfl
  | x :: r, h => by
    rw [List.map_cons, List.map_cons, onesAll, List.sum_cons, h x List.mem_cons_self, ones_map fun y hy => h y (List.mem_cons_of_mem _ hy)]
theorem groups_sum : ∀ n, n ≤ 60 → 1 ≤ n → ((List.range (groups (side n) n)).map fun i => min (side n) (n - i * side n)).sum = n := by decide +kernel
theorem groups_good {n : Nat} (h1 : 1 ≤ n) (h2 : n ≤ 60) {o : Nat} (ho : o < 59) : Good o (dGroups n) ∧ onesP (dGroups n) = n := by
  unfold dGroups
  split
  · exact ⟨.one, by rw [onesP]; omega⟩
  · have sp := side_pos h1 h2
    have gp : 1 ≤ groups (side n) n := by
      unfold groups
      exact Nat.div_pos (by omega) (by omega)
    have each : ∀ i ∈ List.range (groups (side n) n), Good (o + 1) (dFlat (min (side n) (n - i * side n))) ∧ onesP (dFlat (min (side n) (n - i * side n))) = min (side n) (n - i * side n) := fun i hi => by
      have ni := groups_in sp.1 (List.mem_range.mp hi)
      exact flat_good (by omega) (by omega)
    refine ⟨.tup (by omega) (joined_sums fun z => ?_) (good_map fun i hi => (each i hi).1), ?_⟩
    · have := congrArg List.length z
      rw [List.length_map, List.length_range, List.length_nil] at this
      omega
    · rw [onesP, onesAll, ones_map fun i hi => (each i hi).2, groups_sum n h2 h1, show onesP (.str "sums") = 0 from rfl, Nat.zero_add]
theorem part_good {w : Str} {n : Nat} (h1 : 1 ≤ n) (h2 : n ≤ 60) : Good 0 (dPart w n) ∧ onesP (dPart w n) = n := by
  unfold dPart
  split
  · exact flat_good (by decide) h1
  split
  · exact row_good n 0 h1 (by omega)
  split
  · exact join_good (.inl rfl) n 0 h1 (by omega)
  split
  · exact join_good (.inr rfl) n 0 h1 (by omega)
  · exact groups_good h1 h2 (by decide)
/-! ### plans by words -/
def six : List Str := ["pairs", "codes", "row", "tree", "nets", "groups"]
def tailP : PyData → List PyData
  | .tuple (_ :: ds) => ds
  | _ => []
def planBody (w : Str) (n : Nat) : List PyData := if w ∈ two ∨ n ≤ 1 then List.replicate n (.int 1) else tailP (dPart w n)
def planWord (w : Str) : Str := if w = "codes" then "codes" else "pairs"
def dPlan (w : Str) (n : Nat) : PyData := .tuple (.str (planWord w) :: planBody w n)
theorem part_tup {w : Str} {n : Nat} (h : 2 ≤ n) : ∃ x ds, dPart w n = .tuple (.str x :: ds) := by
  unfold dPart
  split
  · exact ⟨_, _, if_neg (by omega)⟩
  split
  · obtain ⟨m, rfl⟩ : ∃ m, n = m + 2 := ⟨n - 2, by omega⟩
    exact ⟨_, _, rfl⟩
  split
  · exact ⟨_, _, dJoin_eq _ h⟩
  split
  · exact ⟨_, _, dJoin_eq _ h⟩
  · exact ⟨_, _, if_neg (by omega)⟩
theorem body_good {w : Str} {n : Nat} (h1 : 1 ≤ n) (h2 : n ≤ 60) : GoodAll 1 (planBody w n) ∧ onesAll (planBody w n) = n ∧ LfAll (planBody w n) ∧ PyData.depthAll (planBody w n) ≤ 59 ∧ PyData.weightAll (planBody w n) ≤ 89000 + 999 := by
  unfold planBody
  split
  · refine ⟨good_rep n, ones_rep n, lf_rep lf_one n, ?_, ?_⟩
    · rw [rep_map]
      have h := dep_map (f := fun _ : Nat => PyData.int 1) (m := 0) (l := List.range n) fun _ _ => Nat.le_of_eq dep_one
      omega
    · rw [rep_map]
      have h := wt_map (f := fun _ : Nat => PyData.int 1) (m := 1) (l := List.range n) fun _ _ => Nat.le_of_eq wt_one
      rw [List.length_range] at h
      omega
  · rename_i c
    obtain ⟨x, ds, e⟩ := part_tup (w := w) (n := n) (by omega)
    obtain ⟨g, on⟩ := part_good (w := w) h1 h2
    have pw := part_w (w := w) h1 h2
    rw [e] at g on pw ⊢
    show GoodAll 1 ds ∧ onesAll ds = n ∧ LfAll ds ∧ PyData.depthAll ds ≤ 59 ∧ PyData.weightAll ds ≤ 89000 + 999
    obtain ⟨l, d, wt, _⟩ := pw
    rw [PyData.depth, PyData.depthAll] at d
    rw [PyData.weight, PyData.weightAll] at wt
    rw [onesP, onesAll, show onesP (.str x) = 0 from rfl, Nat.zero_add] at on
    refine ⟨?_, on, ?_, by omega, by omega⟩
    · cases g with
      | tup _ _ r => exact r
    · cases l with
      | tup r =>
        cases r with
        | cons _ r => exact r
theorem plan_ok {w : Str} {n : Nat} (h1 : 1 ≤ n) (h2 : n ≤ 60) : PartOk (dPlan w n) ∧ szP (dPlan w n) ≤ 99999 := by
  obtain ⟨_, _, l, d, wt⟩ := body_good (w := w) h1 h2
  have pw : planWord w = "codes" ∨ planWord w = "pairs" := by
    unfold planWord
    split
    · exact .inl rfl
    · exact .inr rfl
  have lw : Lf (.str (planWord w)) := by
    rcases pw with e | e <;> rw [e] <;> exact .str _ (by decide +kernel)
  have ww : (PyData.str (planWord w)).weight = 5 := by
    rcases pw with e | e <;> rw [e] <;> rfl
  have dw : (PyData.str (planWord w)).depth = 0 := rfl
  have W : (dPlan w n).weight ≤ 89999 + 6 := by
    unfold dPlan
    rw [PyData.weight, PyData.weightAll, ww]
    omega
  refine ⟨⟨.tup (.cons lw l), (Lf.tup (.cons lw l)).showy ?_ (Nat.le_trans W (by decide)), nst_tup _⟩, ?_⟩
  · rw [PyData.depth, PyData.depthAll, dw]
    omega
  · have := sz_wt (dPlan w n)
    omega

def spPlan (C : Addr) : Sp := fun vs H Q E => ∃ (w : Str) (n : Nat), vs = [.str w, .int n] ∧ 1 ≤ n ∧ n ≤ 60 ∧ ((w ∈ six ∧ ∀ H' v, Same H H' → Tp H' v (dPlan w n) → Q v H') ∨ (w ∉ six ∧ E (.ref C) none H))
theorem six_five {w : Str} (h : w ∈ six) (n : w ∉ two) : w ∈ five := by
  have z := (by decide +kernel : ∀ x ∈ six, x ∉ two → x ∈ five)
  exact z w h n
section
variable {P : Program} {w : World} {K : PySem.W.Frag} {mg : Str → Option Value} {base : Heap}
theorem has_plan {C : Addr} {cs : Nat → Addr} (T : Top K mg cs) (h_NoPlan : HasC P w K mg base C "NoPlan" ["self"] (spI0 C)) (h__ones : Has P w K mg base 1 "_ones" ["many"] spOnes) (h_part_for : HasX P w K mg base 61 "part_for" ["word", "many"] (spPart C)) :
    HasX P w K mg base 62 "plan_for" ["word", "many"] (spPlan C) := by
  refine has_ofX T.d_plan_for sc_plan_for bd_plan_for (fun vs H Q E h => ?_) (fun f cdv A outer s H vs Q E hr h => ?_)
  · obtain ⟨w, n, rfl, _⟩ := h
    rfl
  · have hu := hu_of hr
    have nd := sc_plan_for.nd
    obtain ⟨w, n, rfl, h1, h2, h⟩ := h
    refine ⟨_, (pss_cons (ps_if (pt_cmpR op_notIn_seq (pv 0) (pe_ctup T.c_PLAN_WORDS (by rfl)) (by rfl)) (pss_one (ps_raise rfl (takes_of rfl rfl rfl rfl) (pmk_own0 h_NoPlan (hr.mono (by omega)) (by rfl)))) pss_nil)
    (pss_cons (ps_if (pt_cmpR op_eq (pv 0) pe_str (nomark _)) (pss_one (ps_ret (pe_tup (pa_cons pe_str (StX.pa_star (pe_has h__ones (hr.mono (by omega)) (by rfl) (pa_cons (pv 1) pa_nil)) pa_nil))))) pss_nil)
    (pss_cons (ps_if (PW.pt (pw_or (pt_cmpR op_eq (pv 0) pe_str (nomark _)) (pw_or1 (pt_cmpR op_le (pv 1) pe_int (nomark _))))) (pss_one (ps_ret (pe_tup (pa_cons pe_str (StX.pa_star (pe_has h__ones (hr.mono (by omega)) (by rfl) (pa_cons (pv 1) pa_nil)) pa_nil))))) pss_nil)
    (pss_one (ps_ret (pe_tup (pa_cons pe_str (StX.pa_star (pe_slice sl_tup (pe_hasX (takes_of rfl rfl rfl rfl) h_part_for (hr.mono (by omega)) (by rfl) (pa_cons (pv 0) (pa_cons (pv 1) pa_nil))) (po_some pe_int) po_none) pa_nil)))))))), ?_⟩
    refine ⟨_, rfl, fun p hp => ⟨p, _, rfl, .inr (hp H), rfl, flat_texts _, !decide (w ∈ six), congrArg (fun b => V.bl (!b)) (in_texts w six), ?_⟩⟩
    rcases h with ⟨iw, k⟩ | ⟨iw, e⟩
    · rw [decide_eq_true iw]
      have ones : ∀ z : Str, dPlan w n = .tuple (.str z :: List.replicate n (.int 1)) → ∀ H' a, Same H H' → H' a = some (.tup (List.replicate n (.int 1))) → (V.str z :: (List.replicate n (V.int 1) ++ [])).length ≤ sizeLine ∧ ∀ q, H' q = none → Q (.ref q) (upd H' q (.tup (V.str z :: (List.replicate n (V.int 1) ++ [])))) := by
        intro z e H' a s ha
        rw [List.append_nil]
        refine ⟨by rw [List.length_cons, List.length_replicate]; exact Nat.le_trans (Nat.succ_le_succ h2) (by decide), fun q hq => k _ _ (s.trans (same_new hq)) ?_⟩
        rw [e]
        exact .new hq (.cons (.str _) (tp_rep (.int 1) n))
      refine iteF ⟨_, rfl, rfl, _, rfl, ite2 (fun c => ?_) (fun c => ?_)⟩
      · have e := V.str.inj (of_decide_eq_true c)
        subst e
        exact ⟨_, rfl, n, rfl, h1, h2, fun H' a s ha => ⟨a, _, rfl, .inl (SqT.of ha), ones "codes" (by unfold dPlan planBody planWord; rw [if_pos rfl, if_pos (.inl (by decide))]) H' a s ha⟩⟩
      have n1 : w ≠ "codes" := fun z => c (decide_eq_true (by rw [z]))
      have pw : planWord w = "pairs" := if_neg n1
      have pair : (w ∈ two ∨ n ≤ 1) → dPlan w n = .tuple (.str "pairs" :: List.replicate n (.int 1)) := fun z => by
        unfold dPlan planBody
        rw [pw, if_pos z]
      refine ⟨_, rfl, rfl, _, rfl, ite2 (fun c => ?_) (fun c => ?_)⟩
      · have e := V.str.inj (of_decide_eq_true c)
        exact iteT ⟨_, rfl, n, rfl, h1, h2, fun H' a s ha => ⟨a, _, rfl, .inl (SqT.of ha), ones "pairs" (pair (.inl (by rw [e]; decide))) H' a s ha⟩⟩
      have n2 : w ≠ "pairs" := fun z => c (decide_eq_true (by rw [z]))
      have nt : w ∉ two := fun z => by
        rcases List.mem_cons.mp z with z | z
        · exact n2 z
        · exact n1 (List.mem_singleton.mp z)
      refine ⟨_, rfl, _, _, rfl, rfl, _, rfl, ite2 (fun c => ?_) (fun c => ?_)⟩
      · have c1 : n ≤ 1 := by
          have := of_decide_eq_true c
          omega
        exact ⟨_, rfl, n, rfl, h1, h2, fun H' a s ha => ⟨a, _, rfl, .inl (SqT.of ha), ones "pairs" (pair (.inr c1)) H' a s ha⟩⟩
      have c1 : ¬ n ≤ 1 := fun z => c (decide_eq_true (by omega))
      refine ⟨_, rfl, _, rfl, w, n, rfl, h1, h2, .inl ⟨six_five iw nt, fun H' v s t => ?_⟩⟩
      obtain ⟨x, ds, e⟩ := part_tup (w := w) (n := n) (by omega)
      rw [e] at t
      cases t with
      | @tup a _ _ ha r =>
        cases r with
        | @cons y ys _ _ hx r =>
          cases hx
          refine ⟨1, rfl, a, _, rfl, SqT.of ha, cut_part, fun p hp => ⟨p, ys, rfl, .inl (SqT.of ?_), ?_, fun q hq => ?_⟩⟩
          · rw [cut_one]
            exact upd_same
          · rw [List.append_nil, List.length_cons, r.len]
            have g := (body_good (w := w) h1 h2)
            have e2 : planBody w n = ds := by
              unfold planBody
              rw [if_neg (by rintro (z | z); exact nt z; exact c1 z), e]
              rfl
            rw [e2] at g
            have lg := g.1.pos
            rw [g.2.1] at lg
            exact Nat.le_trans (Nat.succ_le_succ (Nat.le_trans lg h2)) (by decide)
          · rw [cut_one, List.append_nil]
            rw [cut_one] at hq
            refine k _ _ ((s.trans (same_new hp)).trans (same_new hq)) ?_
            have e2 : dPlan w n = .tuple (.str "pairs" :: ds) := by
              unfold dPlan planBody
              rw [pw, if_neg (by rintro (z | z); exact nt z; exact c1 z), e]
              rfl
            rw [e2]
            exact .new hq (.cons (.str _) (r.kt (KT.new hp)))
    · rw [decide_eq_false iw]
      exact iteT e
end

theorem plan_two {w : Str} {n : Nat} (h : w ∈ two) : dPlan w n = .tuple (.str w :: List.replicate n (.int 1)) := by
  have e : planWord w = w := by
    rcases List.mem_cons.mp h with z | z
    · rw [z]
      rfl
    · rw [List.mem_singleton.mp z]
      rfl
  unfold dPlan planBody
  rw [e, if_pos (.inl h)]
theorem plan_else {w : Str} (h : w ∉ two) : planWord w = "pairs" := if_neg fun z => h (by rw [z]; decide)
theorem rep_ones {K : PySem.W.Frag} {H : Hp} {q : Addr} {Q : VK} (n : Nat) (h : H q = some (.tup [.int 1])) (h1 : 1 ≤ n) (h2 : n ≤ 60) (k : ∀ H' a, Same H H' → H' a = some (.tup (List.replicate n (.int 1))) → Q (.ref a) H') : rRepT1 K (.ref q) (.int n) H Q := by
  by_cases n1 : n = 1
  · subst n1
    exact .inl ⟨q, [.int 1], rfl, rfl, SqT.of h, k _ q (Same.refl _) h⟩
  refine .inr ⟨q, n, [.int 1], rfl, rfl, SqT.of h, by simp, by omega, by omega, by decide, fun p hp => ?_⟩
  rw [flat_one]
  exact k _ p (same_new hp) upd_same
theorem joined_not {w : Str} (h : w ∈ two) (ds : List PyData) : joinedP (.tuple (.str w :: ds)) = false := by
  rw [joinedP]
  rcases List.mem_cons.mp h with z | z
  · rw [z, show decide (("pairs" : Str) = "sums") = false by decide +kernel, show decide (("pairs" : Str) = "net") = false by decide +kernel]
    simp
  · rw [List.mem_singleton.mp z, show decide (("codes" : Str) = "sums") = false by decide +kernel, show decide (("codes" : Str) = "net") = false by decide +kernel]
    simp
theorem part_word {w : Str} {n : Nat} (h1 : 1 ≤ n) (h2 : n ≤ 60) : ∀ x ds, dPart w n = .tuple (.str x :: ds) → x ∉ two := by
  intro x ds e z
  have g := (part_good (w := w) h1 h2).1
  rw [e] at g
  cases g with
  | tup _ j _ =>
    rw [joined_not z] at j
    cases j
theorem plan_in (w : Str) : planWord w ∈ two := by
  unfold planWord
  split <;> decide
theorem plan_wt {w : Str} {n : Nat} (h1 : 1 ≤ n) (h2 : n ≤ 60) : Wt (dPlan w n) ∧ joinedP (dPlan w n) = false ∧ onesP (dPlan w n) = n := by
  obtain ⟨g, on, _⟩ := body_good (w := w) h1 h2
  have ne : planBody w n ≠ [] := fun z => by
    rw [z] at on
    have z2 : (0 : Nat) = n := on
    omega
  unfold dPlan
  refine ⟨.tup _ ne g.wt, joined_not (plan_in w) _, ?_⟩
  rw [onesP, onesAll, show onesP (.str (planWord w)) = 0 from rfl, Nat.zero_add]
  exact on
def spLaw (K : PySem.W.Frag) : Sp := fun vs H Q _ => ∃ (a : Addr) (ns : List Int), vs = [.ref a] ∧ SqL K H a (ns.map V.int) ∧ ns.length ≤ 63 ∧ ∀ H', Q (.bl true) H'
theorem six_len {w : Str} (h : w ∈ six) : 3 ≤ w.length ∧ w.length ≤ 6 := by
  have z := (by decide +kernel : ∀ x ∈ six, 3 ≤ x.length ∧ x.length ≤ 6)
  exact z w h
theorem text_at {ws : List Str} {i : Nat} {v : V} (h : (ws.map V.str)[i]? = some v) : ∃ w, v = .str w ∧ w ∈ ws := by
  rw [List.getElem?_map] at h
  cases e : ws[i]? with
  | none =>
    rw [e] at h
    cases h
  | some w =>
    rw [e] at h
    exact ⟨w, (Option.some.inj h).symm, List.mem_of_getElem? e⟩
section
variable {P : Program} {w : World} {K : PySem.W.Frag} {mg : Str → Option Value} {base : Heap}
theorem ok_law {f : Addr} {fd : FuncData} (F : Fun K "law" "law" s_law f fd) {cs : Nat → Addr} (T : Top K mg cs) (h__law_begun : Has P w K mg base 1 "_law_begun" ["_law_script"] (spBegun K)) (h__law_draw : Has P w K mg base 1 "_law_draw" ["_law_tape", "_law_many"] spDraw)
    (h__law_pick : Has P w K mg base 2 "_law_pick" ["_law_tape", "_law_some"] (spPick2 K)) (h_part_for : HasX P w K mg base 61 "part_for" ["word", "many"] (spPart (cs 0))) (h_plan_for : HasX P w K mg base 62 "plan_for" ["word", "many"] (spPlan (cs 0)))
    (h_is_part : Has P w K mg base 3 "is_part" ["thing"] spIsPart) (h_is_plan : Has P w K mg base 3 "is_plan" ["thing"] spIsPlan) (h_size_of : Has P w K mg base 1 "size_of" ["part"] spSize) :
    FnG P w K mg base 63 f fd ["_law_script"] (spLaw K) := by
  refine fnG F sc_law (fun vs H Q E h => ?_) (fun cdv Ar outer s H vs Q E hr hgd h => ?_)
  · obtain ⟨a, ns, rfl, _⟩ := h
    rfl
  · have hu := hu_of hr
    have nd := sc_law.nd
    obtain ⟨a, ns, rfl, hS, hl, k⟩ := h
    refine ⟨_, (pss_cons (ps_set (i := 1) nd rfl (.inl rfl) (pe_has h__law_begun (hr.mono (by omega)) (by rfl) (pa_cons (pv 0) pa_nil)))
    (pss_cons (ps_for PassesOwn.never rfl (pi_range1 (by rfl) T.b_range (pa_cons pe_int pa_nil)) (pg_name (i := 2) nd rfl (.inl rfl))
      (pss_cons (ps_par (i := 3) (j := 4) (by rfl) nd rfl rfl (by decide) rfl rfl (pa_cons (pe_lst (pa_cons pe_str (pa_cons pe_str (pa_cons pe_str (pa_cons pe_str (pa_cons pe_str (pa_cons pe_str pa_nil))))))) (pa_cons (pe_op op_add pe_int (pe_has h__law_draw (hr.mono (by omega)) (by rfl) (pa_cons (pv 1) (pa_cons pe_int pa_nil)))) pa_nil)) (by rfl))
    (pss_cons (ps_set (i := 5) nd rfl (.inl rfl) (pe_has h__law_pick (hr.mono (by omega)) (by rfl) (pa_cons (pv 1) (pa_cons (pv 3) pa_nil))))
    (pss_cons (ps_set (i := 6) nd rfl (.inl rfl) (pe_hasX0 h_plan_for (hr.mono (by omega)) (by rfl) (pa_cons (pv 5) (pa_cons (pv 4) pa_nil))))
    (pss_cons (ps_set (i := 7) nd rfl (.inl rfl) (pe_op op_catT (pe_tup (pa_cons (pv 5) pa_nil)) (pe_op op_repT1 (pe_tup (pa_cons pe_int pa_nil)) (pv 4))))
    (C8.pss_cut (ps_if (pt_cmpR op_notIn_seq (pv 5) (pe_tup (pa_cons pe_str (pa_cons pe_str pa_nil))) (by rfl)) (pss_cons (ps_set (i := 8) nd rfl (.inl rfl) (pe_hasX0 h_part_for (hr.mono (by omega)) (by rfl) (pa_cons (pv 5) (pa_cons (pv 4) pa_nil))))
    (pss_cons (ps_set (i := 7) nd rfl (.inl rfl) (pe_ifExp (pt_cmpR op_eq (pv 4) pe_int (nomark _)) (pe_tup (pa_cons pe_str (pa_cons pe_int pa_nil))) (pe_op op_catT (pe_tup (pa_cons pe_str pa_nil)) (pe_slice sl_tup (pv 8) (po_some pe_int) po_none))))
    (pss_one (ps_if (PW.pt (pw_or (pt_not (pt_val (pe_has h_is_part (hr.mono (by omega)) (by rfl) (pa_cons (pv 8) pa_nil)))) (pw_or (pt_cmpR op_ne (pe_has h_size_of (hr.mono (by omega)) (by rfl) (pa_cons (pv 8) pa_nil)) (pv 4) (nomark _)) (pw_or1 (pt_val (pe_has h_is_plan (hr.mono (by omega)) (by rfl) (pa_cons (pv 8) pa_nil))))))) (pss_one (ps_ret pe_bl)) pss_nil)))) pss_nil)
    (pss_cons (ps_if (PW.pt (pw_or (pt_cmpR op_ne (pe_callB (call_reprW hgd hr.units) (by rfl) T.b_repr (by decide +kernel) (pa_cons (pv 6) pa_nil)) (pe_callB (call_reprW hgd hr.units) (by rfl) T.b_repr (by decide +kernel) (pa_cons (pv 7) pa_nil)) (nomark _)) (pw_or (pt_not (pt_val (pe_has h_is_plan (hr.mono (by omega)) (by rfl) (pa_cons (pv 6) pa_nil)))) (pw_or (pt_cmpR op_ne (pe_has h_size_of (hr.mono (by omega)) (by rfl) (pa_cons (pv 6) pa_nil)) (pv 4) (nomark _)) (pw_or1 (pt_val (pe_has h_is_part (hr.mono (by omega)) (by rfl) (pa_cons (pv 6) pa_nil)))))))) (pss_one (ps_ret pe_bl)) pss_nil)
    (pss_cons (ps_set (i := 9) nd rfl (.inl rfl) (pe_has h__law_pick (hr.mono (by omega)) (by rfl) (pa_cons (pv 1) (pa_cons pe_str pa_nil))))
    (pss_cons (ps_set (i := 10) nd rfl (.inl rfl) (pe_has h__law_pick (hr.mono (by omega)) (by rfl) (pa_cons (pv 1) (pa_cons (pe_lst (pa_cons pe_str (pa_cons pe_str (pa_cons pe_str (pa_cons pe_str (pa_cons (pe_op op_add_str (pv 5) (pv 9)) (pa_cons (pe_op op_add_str (pv 9) (pe_slice sl_str (pv 5) (po_some pe_int) po_none)) (pa_cons (pe_slice sl_str (pv 5) po_none (po_some (pe_un un_neg pe_int))) (pa_cons (pe_op op_repS (pv 9) pe_int) pa_nil))))))))) pa_nil))))
    (pss_cons (ps_set (i := 11) nd rfl (.inl rfl) (pe_cmpR op_in_seq (pv 10) (pv 3) (by rfl)))
    (C8.pss_cut (ps_try_as (i := 12) rfl rfl nd rfl rfl (names_own T.k_NoPlan.mg (by rfl)) takes0 (fun W pn xe tk _ =>
      (pss_one (ps_expr (pe_hasX tk h_plan_for (hr.mono (by omega)) (by rfl) (pa_cons (pv 10) (pa_cons (pv 4) pa_nil)))))) (fun a oe cls d pn hz hf =>
      (pss_one (ps_set (i := 11) nd rfl (.inl rfl) (pe_and (pe_callB (call_isX hz hf) (by rfl) T.b_isinstance (by decide +kernel) (pa_cons (pv 12) (pa_cons (pe_bltn (v := .ty "ValueError") (u := .type "ValueError") (by rfl) T.b_ValueError (by decide +kernel) (by rfl)) pa_nil))) (pe_one (pe_cmpR (op_notInK (K := K) rfl) (pv 10) (pv 3) (by rfl))))))))
    (pss_one (ps_if (pt_not (pt_val (pv 11))) (pss_one (ps_ret pe_bl)) pss_nil)))))))))))))
    (pss_one (ps_ret pe_bl)))), ?_⟩
    refine ⟨_, rfl, a, ns, rfl, hS, hl, fun H1 t c ht hc sm tp => ?_⟩
    refine ⟨6, rfl, by decide, by decide, for_range (lo := 0) (fun i σ H2 => ∃ v2 v3 v4 v5 v6 v7 v8 v9 v10 v11 v12, σ = [some (.ref a), some (.ref t), v2, v3, v4, v5, v6, v7, v8, v9, v10, v11, v12] ∧ Tape H2 t c (4 * i)) ⟨none, none, none, none, none, none, none, none, none, none, none, rfl, tp⟩ ?_ ?_⟩
    · rintro i σ H2 hi ⟨v2, v3, v4, v5, v6, v7, v8, v9, v10, v11, v12, rfl, tp2⟩
      have hi2 : i < 6 := hi
      refine ⟨by show 6 ≤ sizeLine; decide, fun L nL => ?_⟩
      have hL3 : (upd H2 L (.lst [.str "pairs", .str "codes", .str "row", .str "tree", .str "nets", .str "groups"])) L = some (.lst (six.map V.str)) := upd_same
      have tp3 : Tape (upd H2 L (.lst [.str "pairs", .str "codes", .str "row", .str "tree", .str "nets", .str "groups"])) t c (4 * i) := tp2.new nL
      generalize upd H2 L (.lst [.str "pairs", .str "codes", .str "row", .str "tree", .str "nets", .str "groups"]) = H3 at hL3 tp3
      refine ⟨_, rfl, t, c, _, _, rfl, tp3, by omega, by decide, by decide +kernel, fun H4 r4 a4 b4 tp4 kp4 => ⟨_, _, rfl, rfl, _, _, rfl, ?_⟩⟩
      obtain ⟨m, rfl⟩ : ∃ m : Nat, r4 = (m : Int) := ⟨r4.toNat, by omega⟩
      have m1' : 1 ≤ 1 + m := by omega
      have m2' : 1 + m ≤ 60 := by omega
      have hL4 := tp3.sq hL3 kp4
      refine ⟨_, rfl, _, rfl, .inl ⟨t, c, L, six.map V.str, _, rfl, tp4, by omega, fun H' k => .inl (SqL.of (tp4.sq hL4 k)), by decide, by decide, fun H5 j0 v hv tp5 kp5 => ?_⟩⟩
      obtain ⟨w, rfl, iw⟩ := text_at hv
      have hL5 := tp4.sq hL4 kp5
      obtain ⟨ok, few⟩ := plan_ok (w := w) m1' m2'
      obtain ⟨wt, nj, on⟩ := plan_wt (w := w) m1' m2'
      refine ⟨_, rfl, _, rfl, w, 1 + m, rfl, m1', m2', .inl ⟨iw, fun H6 vp s6 tv6 => ?_⟩⟩
      have tp6 := tp5.same s6
      have hL6 := s6 _ _ hL5
      -- due, at first
      refine ⟨_, rfl, by show 1 ≤ sizeLine; decide, fun p hp => ⟨by show 1 ≤ sizeLine; decide, fun q hq => ⟨_, rfl, rep_ones (1 + m) upd_same m1' m2' fun H7 r s7 hr7 => ?_⟩⟩⟩
      have hp7 := s7 _ _ (same_new (o := .tup [.int 1]) hq _ _ (show (upd H6 p (.tup [V.str w])) p = some (.tup [V.str w]) from upd_same))
      have s67 := ((same_new (o := .tup [V.str w]) hp).trans (same_new (o := .tup [.int 1]) hq)).trans s7
      refine ⟨p, r, [.str w], List.replicate (1 + m) (.int 1), rfl, rfl, SqT.of hp7, SqT.of hr7, by simp, ?_, fun z => ?_, fun _ d hd => ?_⟩
      · rw [List.length_singleton, List.length_replicate]
        exact Nat.le_trans (show 1 + (1 + m) ≤ 61 by omega) (by decide)
      · have z2 := congrArg List.length z
        rw [List.length_replicate, List.length_nil] at z2
        omega
      have s68 := s67.trans (same_new (o := .tup ([V.str w] ++ List.replicate (1 + m) (.int 1))) hd)
      have tp8 := tp6.same s68
      have hL8 := s68 _ _ hL6
      have tv8 := tv6.kt (KT.same s68)
      have td8 : Tp (upd H7 d (.tup ([V.str w] ++ List.replicate (1 + m) (.int 1)))) (.ref d) (.tuple (.str w :: List.replicate (1 + m) (.int 1))) := .new hd (.cons (.str _) (tp_rep (.int 1) _))
      generalize upd H7 d (.tup ([V.str w] ++ List.replicate (1 + m) (.int 1))) = H8 at tp8 hL8 tv8 td8
      clear hp hq hr7 hp7 s67 s68 s7 hd
      -- due, at last
      refine ⟨fun σ' H' => ∃ vd v8, σ' = [some (.ref a), some (.ref t), some (.int (0 + i)), some (.ref L), some (.int (1 + (m : Int))), some (.str w), some vp, some vd, v8, v9, v10, v11, v12] ∧ Same H8 H' ∧ Tp H' vd (dPlan w (1 + m)), ?_, ?_⟩
      · refine ⟨_, rfl, by show 2 ≤ sizeLine; decide, fun p hp => ⟨p, _, rfl, .inr (SqT.of upd_same), rfl, flat_texts two, !decide (w ∈ two), congrArg (fun b => V.bl (!b)) (in_texts w two), ?_⟩⟩
        have s9 := same_new (o := .tup [.str "pairs", .str "codes"]) hp
        have td9 := td8.kt (KT.same s9)
        generalize upd H8 p (.tup [.str "pairs", .str "codes"]) = H9 at s9 td9
        by_cases iw2 : w ∈ two
        · rw [decide_eq_true iw2]
          exact iteF ⟨_, _, rfl, s9, by rw [plan_two iw2]; exact td9⟩
        rw [decide_eq_false iw2]
        refine iteT ⟨_, rfl, _, rfl, w, 1 + m, rfl, m1', m2', .inl ⟨six_five iw iw2, fun H10 vq s10 tq10 => ?_⟩⟩
        have s8a := s9.trans s10
        obtain ⟨gd, onq⟩ := part_good (w := w) m1' m2'
        have pw := part_w (w := w) m1' m2'
        have fewq : szP (dPart w (1 + m)) ≤ 99999 := by
          have := sz_wt (dPart w (1 + m))
          have := pw.w
          omega
        -- what is behind
        have go : ∀ (D : Ends), (∀ H' vd v8, Same H8 H' → Tp H' vd (dPlan w (1 + m)) → D.nx [some (.ref a), some (.ref t), some (.int (0 + i)), some (.ref L), some (.int (1 + (m : Int))), some (.str w), some vp, some vd, v8, v9, v10, v11, v12] H') →
            ∀ H11 vd, Same H10 H11 → Tp H11 vd (dPlan w (1 + m)) → (tIfS (tOr (tNot (tB (tCall spIsPart [] E0 (tCons (tVar 8) tNil)))) (tOr (tTest (tOp rNe (tCall spSize [] E0 (tCons (tVar 8) tNil)) (tVar 4))) (tB (tCall spIsPlan [] E0 (tCons (tVar 8) tNil))))) (tRet (tC (V.bl false))) tNext)
            D [some (.ref a), some (.ref t), some (.int (0 + i)), some (.ref L), some (.int (1 + (m : Int))), some (.str w), some vp, some vd, some vq, v9, v10, v11, v12] H11 := by
          intro D nx
          intro H11 vd s11 td
          have tq := tq10.kt (KT.same s11)
          refine ⟨_, rfl, vq, _, rfl, tq, fewq, .inl ⟨gd, by omega, fun H12 s12 => ⟨true, rfl, ?_⟩⟩⟩
          show (if (!true) = true then _ else _)
          refine iteF ⟨_, rfl, vq, _, rfl, tq.kt (KT.same s12), gd.wt, by omega, fun H13 s13 => ⟨_, rfl, rfl, _, rfl, iteNS (congrArg V.int (by rw [onq]; rfl)) ?_⟩⟩
          refine ⟨_, rfl, vq, _, rfl, (tq.kt (KT.same s12)).kt (KT.same s13), gd.wt, fewq, .inr ⟨part_word m1' m2', fun H14 s14 => ⟨false, rfl, ?_⟩⟩⟩
          have sx := (s12.trans s13).trans s14
          exact iteF (nx _ _ _ ((s8a.trans s11).trans sx) (td.kt (KT.same sx)))
        refine ⟨_, rfl, rfl, _, rfl, ite2 (fun c => ?_) (fun c => ?_)⟩
        · have c1 : m = 0 := by
            have := V.int.inj (of_decide_eq_true c)
            omega
          subst c1
          refine ⟨by show 2 ≤ sizeLine; decide, fun q hq => ?_⟩
          refine go _ ?_ _ _ (same_new hq) ?_
          · exact fun H' vd v8 s t => ⟨vd, v8, rfl, s, t⟩
          have e : dPlan w (1 + 0) = .tuple [.str "pairs", .int 1] := by
            unfold dPlan planBody
            rw [plan_else iw2, if_pos (.inr (by decide))]
            rfl
          rw [e]
          exact .new hq (.cons (.str _) (.cons (.int 1) .nil))
        · have c1 : ¬ m = 0 := fun z => c (decide_eq_true (by rw [z]; rfl))
          refine ⟨by show 1 ≤ sizeLine; decide, fun q hq => ?_⟩
          obtain ⟨x, ds, e⟩ := part_tup (w := w) (n := 1 + m) (by omega)
          have tq := tq10.kt (KT.new (o := .tup [.str "pairs"]) hq)
          have hq1 : (upd H10 q (.tup [.str "pairs"])) q = some (.tup [.str "pairs"]) := upd_same
          have sq := same_new (o := .tup [.str "pairs"]) hq
          generalize upd H10 q (.tup [.str "pairs"]) = H11 at tq hq1 sq
          have eb : planBody w (1 + m) = ds := by
            unfold planBody
            rw [if_neg (by rintro (z | z); exact iw2 z; omega), e]
            rfl
          have lb := (body_good (w := w) m1' m2')
          rw [eb] at lb
          have ld := lb.1.pos
          rw [lb.2.1] at ld
          rw [e] at tq
          cases tq with
          | @tup a' _ _ ha r =>
            cases r with
            | @cons y ys _ _ hx r =>
              cases hx
              refine ⟨_, rfl, 1, rfl, a', _, rfl, SqT.of ha, cut_part, fun p hp => ?_⟩
              rw [cut_one]
              have lr := r.len
              refine ⟨q, p, [.str "pairs"], ys, rfl, rfl, SqT.of (same_new hp _ _ hq1), SqT.of upd_same, by simp, ?_, fun z => ?_, fun _ u hu => ?_⟩
              · rw [List.length_singleton]
                exact Nat.le_trans (show 1 + ys.length ≤ 61 by omega) (by decide)
              · have on2 := lb.2.1
                rw [z] at lr
                have l0 : ds = [] := List.eq_nil_of_length_eq_zero lr.symm
                rw [l0] at on2
                have z2 : (0 : Nat) = 1 + m := on2
                omega
              · refine go _ ?_ _ _ ((sq.trans (same_new hp)).trans (same_new hu)) ?_
                · exact fun H' vd v8 s t => ⟨vd, v8, rfl, s, t⟩
                have e2 : dPlan w (1 + m) = .tuple (.str "pairs" :: ds) := by
                  unfold dPlan
                  rw [plan_else iw2, eb]
                rw [e2]
                exact .new hu (.cons (.str _) (r.kt (KT.new hp)))
      · clear td8
        rintro σ' H9 ⟨vd, v8, rfl, s9, td9⟩
        have tv9 := tv8.kt (KT.same s9)
        have tp9 := tp8.same s9
        have hL9 := s9 _ _ hL8
        refine ⟨_, rfl, ?_⟩
        show RRepr K [vp] H9 _
        refine tp_repr tv9 ok ⟨_, rfl, ?_⟩
        show RRepr K [vd] H9 _
        refine tp_repr td9 ok ⟨rfl, _, rfl, iteNS rfl ?_⟩
        refine ⟨_, rfl, vp, _, rfl, tv9, wt, few, .inl ⟨_, _, rfl, plan_in w, (body_good m1' m2').1, by rw [(body_good m1' m2').2.1]; exact m2', fun H10 s10 => ⟨true, rfl, ?_⟩⟩⟩
        show (if (!true) = true then _ else _)
        refine iteF ⟨_, rfl, vp, _, rfl, tv9.kt (KT.same s10), wt, by omega, fun H11 s11 => ⟨_, rfl, rfl, _, rfl, iteNS (congrArg V.int (by rw [on]; rfl)) ?_⟩⟩
        refine ⟨_, rfl, vp, _, rfl, (tv9.kt (KT.same s10)).kt (KT.same s11), few, .inr ⟨_, _, rfl, wt, nj, fun H12 s12 => ⟨false, rfl, iteF ?_⟩⟩⟩
        have sx := (s10.trans s11).trans s12
        have tp12 := tp9.same sx
        have hL12 := sx _ _ hL9
        clear tv9 td9 tv8 tp8 hL8 tv6
        -- a letter
        refine ⟨_, rfl, .inr ⟨t, c, _, _, rfl, tp12, by omega, by decide +kernel, by decide +kernel, fun H13 j2 u hu' tp13 kp13 => ?_⟩⟩
        have hL13 := tp12.sq hL12 kp13
        have wl := six_len iw
        have line : (1000 : Nat) < sizeLine := by decide
        have lu : (⟨#[u]⟩ : Str).length = 1 := rfl
        have w1 : w.length ≤ sizeLine := by omega
        have cutl : ∀ lo hi, (cutS w lo hi).length ≤ w.length := cutS_length w
        refine ⟨_, rfl, ?_⟩
        refine ⟨_, rfl, _, rfl, w, ⟨#[u]⟩, rfl, rfl, by rw [lu]; omega, ?_⟩
        refine ⟨_, rfl, _, rfl, 1, rfl, w, rfl, w1, ⟨#[u]⟩, cutS w (some 1) none, rfl, rfl, by have := cutl (some 1) none; rw [lu]; omega, ?_⟩
        refine ⟨_, rfl, 1, rfl, -1, rfl, w, rfl, w1, ?_⟩
        refine ⟨_, rfl, ⟨#[u]⟩, 4, rfl, rfl, by decide, by decide, by rw [lu]; decide, by rw [lu]; decide, by show 4 ≤ sizeLine; decide, ?_⟩
        refine ⟨by show 8 ≤ sizeLine; decide, fun S nS => ?_⟩
        obtain ⟨ws, ews⟩ : ∃ ws : List Str, [V.str "flat", V.str "sums", V.str "net", V.str "", V.str (w ++ ⟨#[u]⟩), V.str (⟨#[u]⟩ ++ cutS w (some 1) none), V.str (cutS w none (some (-1))), V.str (repS 4 ⟨#[u]⟩)] = ws.map V.str ∧ ws.length = 8 :=
          ⟨["flat", "sums", "net", "", w ++ ⟨#[u]⟩, ⟨#[u]⟩ ++ cutS w (some 1) none, cutS w none (some (-1)), repS 4 ⟨#[u]⟩], rfl, rfl⟩
        have hS14 : (upd H13 S (.lst [V.str "flat", V.str "sums", V.str "net", V.str "", V.str (w ++ ⟨#[u]⟩), V.str (⟨#[u]⟩ ++ cutS w (some 1) none), V.str (cutS w none (some (-1))), V.str (repS 4 ⟨#[u]⟩)])) S = some (.lst (ws.map V.str)) := by
          rw [← ews.1]
          exact upd_same
        have s14 := same_new (o := .lst [V.str "flat", V.str "sums", V.str "net", V.str "", V.str (w ++ ⟨#[u]⟩), V.str (⟨#[u]⟩ ++ cutS w (some 1) none), V.str (cutS w none (some (-1))), V.str (repS 4 ⟨#[u]⟩)]) nS
        have tp14 := tp13.same s14
        have hL14 := s14 _ _ hL13
        have lws : (ws.map V.str).length = 8 := by rw [List.length_map]; exact ews.2
        refine .inl ⟨t, c, S, ws.map V.str, _, rfl, tp14, by omega, fun H' k => .inl (SqL.of (tp14.sq hS14 k)), by omega, by omega, fun H15 j3 v hv3 tp15 kp15 => ?_⟩
        obtain ⟨o, rfl, _⟩ := text_at hv3
        have hL15 := tp14.sq hL14 kp15
        refine ⟨_, rfl, _, rfl, L, _, rfl, .inl (SqL.of hL15), rfl, flat_texts six, ?_⟩
        refine ⟨fun σ' H' => ∃ v, σ' = [some (.ref a), some (.ref t), some (.int (0 + i)), some (.ref L), some (.int (1 + (m : Int))), some (.str w), some vp, some vd, v8, some (.str ⟨#[u]⟩), some (.str o), some (.bl true), v] ∧ Same H15 H', ?_, ?_⟩
        · refine ⟨_, rfl, _, rfl, o, 1 + m, rfl, m1', m2', ?_⟩
          by_cases io : o ∈ six
          · refine .inl ⟨io, fun H' v s t' => ⟨v12, ?_, s⟩⟩
            show [some (V.ref a), some (.ref t), some (.int (0 + i)), some (.ref L), some (.int (1 + (m : Int))), some (.str w), some vp, some vd, v8, some (.str ⟨#[u]⟩), some (.str o), some (.bl (inV (.str o) (six.map V.str))), v12] = _
            rw [in_texts, decide_eq_true io]
          · refine .inr ⟨io, true, exm_self T.k_NoPlan (base_V.flat _), fun _ ex nex => ?_, fun z => by cases z⟩
            refine ⟨_, rfl, .ty "ValueError", .type "ValueError", cs 0, true, rfl, rfl, .ty _, T.k_NoPlan.ex, xd_none, kit_base T.k_NoPlan (by decide +kernel) (by decide +kernel), true, rfl, iteT ?_⟩
            refine ⟨_, rfl, _, rfl, L, _, rfl, .inl (SqL.of hL15), rfl, flat_texts six, none, ?_, Same.refl _⟩
            show [some (V.ref a), some (.ref t), some (.int (0 + i)), some (.ref L), some (.int (1 + (m : Int))), some (.str w), some vp, some vd, v8, some (.str ⟨#[u]⟩), some (.str o), some (.bl (!(inV (.str o) (six.map V.str)))), none] = _
            rw [in_texts, decide_eq_false io]
            rfl
        · rintro σ' H16 ⟨v, rfl, s16⟩
          have tp16 := tp15.same s16
          refine ⟨_, rfl, true, rfl, ?_⟩
          show (if (!true) = true then _ else _)
          exact iteF ⟨_, _, _, _, _, _, _, _, _, _, _, rfl, tp16.le (by omega)⟩
    · rintro σ H2 ⟨v2, v3, v4, v5, v6, v7, v8, v9, v10, v11, v12, rfl, tp2⟩
      exact k H2
theorem at_law {f : Addr} {fd : FuncData} (F : Fun K "law" "law" s_law f fd) {cs : Nat → Addr} (T : Top K mg cs) : RunAt P w K mg base f fd ["_law_script"] (spLaw K) :=
  have d := has_draw T
  have on := has_ones T
  have fl := has_flat T on
  have np := hc_NoPlan T
  have pt := has_part T np fl (has_row T) (has_halves T 60) (has_groups T fl)
  have ar := has_are T (has_whole T) (has_isjoined T)
  (ok_law F T (has_begun T) d (has_pick T d) pt (has_plan T np on pt) (has_ispart T ar) (has_isplan T ar) (has_size T)).at_ ⟨rfl, by decide, by decide⟩
end

theorem all_mk {l : PySem.W.OpenLaw} {w : World} {K : PySem.W.Frag} {h : Heap} {mg : Str → Option Value} {fa : Addr} (X : K.In h) (G : h.Ns mainGlobals mg) (hfa : mg "law" = some (.ref fa))
    {f0 : Addr} {od0 an0 : Option Addr} {sl0 : Array (Option Value)} {oc0 kV0 dc0 pm0 cd0 ct0 : Value}
    (a0 : PySem.W.nsIn K mainGlobals "part_for" = some (some (.ref f0))) (l0 : K.lookup f0 = some ⟨oc0, od0, .func (PySem.W.fnOf "part_for" "part_for" (defArgs s_part_for) (defBody s_part_for) (defScope s_part_for) .none kV0 dc0 pm0 an0 cd0 ct0), sl0⟩) (cc0 : PySem.W.codeIn K cd0 "part_for" = true) (k0 : PySem.W.keepIn K (.ref f0) = true)
    {f1 : Addr} {od1 an1 : Option Addr} {sl1 : Array (Option Value)} {oc1 kV1 dc1 pm1 cd1 ct1 : Value}
    (a1 : PySem.W.nsIn K mainGlobals "plan_for" = some (some (.ref f1))) (l1 : K.lookup f1 = some ⟨oc1, od1, .func (PySem.W.fnOf "plan_for" "plan_for" (defArgs s_plan_for) (defBody s_plan_for) (defScope s_plan_for) .none kV1 dc1 pm1 an1 cd1 ct1), sl1⟩) (cc1 : PySem.W.codeIn K cd1 "plan_for" = true) (k1 : PySem.W.keepIn K (.ref f1) = true)
    {f2 : Addr} {od2 an2 : Option Addr} {sl2 : Array (Option Value)} {oc2 kV2 dc2 pm2 cd2 ct2 : Value}
    (a2 : PySem.W.nsIn K mainGlobals "_ones" = some (some (.ref f2))) (l2 : K.lookup f2 = some ⟨oc2, od2, .func (PySem.W.fnOf "_ones" "_ones" (defArgs s__ones) (defBody s__ones) (defScope s__ones) .none kV2 dc2 pm2 an2 cd2 ct2), sl2⟩) (cc2 : PySem.W.codeIn K cd2 "_ones" = true) (k2 : PySem.W.keepIn K (.ref f2) = true)
    {f3 : Addr} {od3 an3 : Option Addr} {sl3 : Array (Option Value)} {oc3 kV3 dc3 pm3 cd3 ct3 : Value}
    (a3 : PySem.W.nsIn K mainGlobals "_flat" = some (some (.ref f3))) (l3 : K.lookup f3 = some ⟨oc3, od3, .func (PySem.W.fnOf "_flat" "_flat" (defArgs s__flat) (defBody s__flat) (defScope s__flat) .none kV3 dc3 pm3 an3 cd3 ct3), sl3⟩) (cc3 : PySem.W.codeIn K cd3 "_flat" = true) (k3 : PySem.W.keepIn K (.ref f3) = true)
    {f4 : Addr} {od4 an4 : Option Addr} {sl4 : Array (Option Value)} {oc4 kV4 dc4 pm4 cd4 ct4 : Value}
    (a4 : PySem.W.nsIn K mainGlobals "_row" = some (some (.ref f4))) (l4 : K.lookup f4 = some ⟨oc4, od4, .func (PySem.W.fnOf "_row" "_row" (defArgs s__row) (defBody s__row) (defScope s__row) .none kV4 dc4 pm4 an4 cd4 ct4), sl4⟩) (cc4 : PySem.W.codeIn K cd4 "_row" = true) (k4 : PySem.W.keepIn K (.ref f4) = true)
    {f5 : Addr} {od5 an5 : Option Addr} {sl5 : Array (Option Value)} {oc5 kV5 dc5 pm5 cd5 ct5 : Value}
    (a5 : PySem.W.nsIn K mainGlobals "_halves" = some (some (.ref f5))) (l5 : K.lookup f5 = some ⟨oc5, od5, .func (PySem.W.fnOf "_halves" "_halves" (defArgs s__halves) (defBody s__halves) (defScope s__halves) .none kV5 dc5 pm5 an5 cd5 ct5), sl5⟩) (cc5 : PySem.W.codeIn K cd5 "_halves" = true) (k5 : PySem.W.keepIn K (.ref f5) = true)
    {f6 : Addr} {od6 an6 : Option Addr} {sl6 : Array (Option Value)} {oc6 kV6 dc6 pm6 cd6 ct6 : Value}
    (a6 : PySem.W.nsIn K mainGlobals "_groups" = some (some (.ref f6))) (l6 : K.lookup f6 = some ⟨oc6, od6, .func (PySem.W.fnOf "_groups" "_groups" (defArgs s__groups) (defBody s__groups) (defScope s__groups) .none kV6 dc6 pm6 an6 cd6 ct6), sl6⟩) (cc6 : PySem.W.codeIn K cd6 "_groups" = true) (k6 : PySem.W.keepIn K (.ref f6) = true)
    {f7 : Addr} {od7 an7 : Option Addr} {sl7 : Array (Option Value)} {oc7 kV7 dc7 pm7 cd7 ct7 : Value}
    (a7 : PySem.W.nsIn K mainGlobals "is_whole" = some (some (.ref f7))) (l7 : K.lookup f7 = some ⟨oc7, od7, .func (PySem.W.fnOf "is_whole" "is_whole" (defArgs s_is_whole) (defBody s_is_whole) (defScope s_is_whole) .none kV7 dc7 pm7 an7 cd7 ct7), sl7⟩) (cc7 : PySem.W.codeIn K cd7 "is_whole" = true) (k7 : PySem.W.keepIn K (.ref f7) = true)
    {f8 : Addr} {od8 an8 : Option Addr} {sl8 : Array (Option Value)} {oc8 kV8 dc8 pm8 cd8 ct8 : Value}
    (a8 : PySem.W.nsIn K mainGlobals "is_part" = some (some (.ref f8))) (l8 : K.lookup f8 = some ⟨oc8, od8, .func (PySem.W.fnOf "is_part" "is_part" (defArgs s_is_part) (defBody s_is_part) (defScope s_is_part) .none kV8 dc8 pm8 an8 cd8 ct8), sl8⟩) (cc8 : PySem.W.codeIn K cd8 "is_part" = true) (k8 : PySem.W.keepIn K (.ref f8) = true)
    {f9 : Addr} {od9 an9 : Option Addr} {sl9 : Array (Option Value)} {oc9 kV9 dc9 pm9 cd9 ct9 : Value}
    (a9 : PySem.W.nsIn K mainGlobals "is_plan" = some (some (.ref f9))) (l9 : K.lookup f9 = some ⟨oc9, od9, .func (PySem.W.fnOf "is_plan" "is_plan" (defArgs s_is_plan) (defBody s_is_plan) (defScope s_is_plan) .none kV9 dc9 pm9 an9 cd9 ct9), sl9⟩) (cc9 : PySem.W.codeIn K cd9 "is_plan" = true) (k9 : PySem.W.keepIn K (.ref f9) = true)
    {f10 : Addr} {od10 an10 : Option Addr} {sl10 : Array (Option Value)} {oc10 kV10 dc10 pm10 cd10 ct10 : Value}
    (a10 : PySem.W.nsIn K mainGlobals "size_of" = some (some (.ref f10))) (l10 : K.lookup f10 = some ⟨oc10, od10, .func (PySem.W.fnOf "size_of" "size_of" (defArgs s_size_of) (defBody s_size_of) (defScope s_size_of) .none kV10 dc10 pm10 an10 cd10 ct10), sl10⟩) (cc10 : PySem.W.codeIn K cd10 "size_of" = true) (k10 : PySem.W.keepIn K (.ref f10) = true)
    {f11 : Addr} {od11 an11 : Option Addr} {sl11 : Array (Option Value)} {oc11 kV11 dc11 pm11 cd11 ct11 : Value}
    (a11 : PySem.W.nsIn K mainGlobals "_are_parts" = some (some (.ref f11))) (l11 : K.lookup f11 = some ⟨oc11, od11, .func (PySem.W.fnOf "_are_parts" "_are_parts" (defArgs s__are_parts) (defBody s__are_parts) (defScope s__are_parts) .none kV11 dc11 pm11 an11 cd11 ct11), sl11⟩) (cc11 : PySem.W.codeIn K cd11 "_are_parts" = true) (k11 : PySem.W.keepIn K (.ref f11) = true)
    {f12 : Addr} {od12 an12 : Option Addr} {sl12 : Array (Option Value)} {oc12 kV12 dc12 pm12 cd12 ct12 : Value}
    (a12 : PySem.W.nsIn K mainGlobals "_is_joined" = some (some (.ref f12))) (l12 : K.lookup f12 = some ⟨oc12, od12, .func (PySem.W.fnOf "_is_joined" "_is_joined" (defArgs s__is_joined) (defBody s__is_joined) (defScope s__is_joined) .none kV12 dc12 pm12 an12 cd12 ct12), sl12⟩) (cc12 : PySem.W.codeIn K cd12 "_is_joined" = true) (k12 : PySem.W.keepIn K (.ref f12) = true)
    {f13 : Addr} {od13 an13 : Option Addr} {sl13 : Array (Option Value)} {oc13 kV13 dc13 pm13 cd13 ct13 : Value}
    (a13 : PySem.W.nsIn K mainGlobals "_law_begun" = some (some (.ref f13))) (l13 : K.lookup f13 = some ⟨oc13, od13, .func (PySem.W.fnOf "_law_begun" "_law_begun" (defArgs s__law_begun) (defBody s__law_begun) (defScope s__law_begun) .none kV13 dc13 pm13 an13 cd13 ct13), sl13⟩) (cc13 : PySem.W.codeIn K cd13 "_law_begun" = true) (k13 : PySem.W.keepIn K (.ref f13) = true)
    {f14 : Addr} {od14 an14 : Option Addr} {sl14 : Array (Option Value)} {oc14 kV14 dc14 pm14 cd14 ct14 : Value}
    (a14 : PySem.W.nsIn K mainGlobals "_law_draw" = some (some (.ref f14))) (l14 : K.lookup f14 = some ⟨oc14, od14, .func (PySem.W.fnOf "_law_draw" "_law_draw" (defArgs s__law_draw) (defBody s__law_draw) (defScope s__law_draw) .none kV14 dc14 pm14 an14 cd14 ct14), sl14⟩) (cc14 : PySem.W.codeIn K cd14 "_law_draw" = true) (k14 : PySem.W.keepIn K (.ref f14) = true)
    {f15 : Addr} {od15 an15 : Option Addr} {sl15 : Array (Option Value)} {oc15 kV15 dc15 pm15 cd15 ct15 : Value}
    (a15 : PySem.W.nsIn K mainGlobals "_law_pick" = some (some (.ref f15))) (l15 : K.lookup f15 = some ⟨oc15, od15, .func (PySem.W.fnOf "_law_pick" "_law_pick" (defArgs s__law_pick) (defBody s__law_pick) (defScope s__law_pick) .none kV15 dc15 pm15 an15 cd15 ct15), sl15⟩) (cc15 : PySem.W.codeIn K cd15 "_law_pick" = true) (k15 : PySem.W.keepIn K (.ref f15) = true)
    {f16 : Addr} {od16 an16 : Option Addr} {sl16 : Array (Option Value)} {oc16 kV16 dc16 pm16 cd16 ct16 : Value}
    (a16 : PySem.W.nsIn K mainGlobals "law" = some (some (.ref f16))) (l16 : K.lookup f16 = some ⟨oc16, od16, .func (PySem.W.fnOf "law" "law" (defArgs s_law) (defBody s_law) (defScope s_law) .none kV16 dc16 pm16 an16 cd16 ct16), sl16⟩) (cc16 : PySem.W.codeIn K cd16 "law" = true) (k16 : PySem.W.keepIn K (.ref f16) = true)
    {C0 G0 : Addr} {nm0 q0 : Str} {N0 : Addr} {bs0 : List Value} {sn0 : List Str} {sub0 : List Value} {ab0 : Bool} {col0 : Option Bool} {dd0 : Option Addr} {ka0 kb0 kc0 kd0 ke0 : Option Value}
    {mod0 man0 : Option Addr} {msl0 : Array (Option Value)} {moc0 mkV0 mdc0 mpm0 mcd0 mct0 : Value}
    (m0 : PySem.W.nsIn K mainGlobals "NoPlan" = some (some (.ref C0))) (o0 : K.lookup C0 = some (excClassObj nm0 q0 C0 N0 bs0 bmV true sn0 sub0 ab0 col0 dd0 ka0 kb0 kc0 kd0 ke0 "ValueError.__new__"))
    (i0 : PySem.W.findIn K (.ref C0) "__init__" = some (some (.ref G0))) (t0 : PySem.W.typeIn K (.ref G0) = some (.type "function"))
    (ml0 : K.lookup G0 = some ⟨moc0, mod0, .func (PySem.W.fnOf "__init__" "NoPlan.__init__" (defArgs s_NoPlan___init__) (defBody s_NoPlan___init__) (defScope s_NoPlan___init__) .none mkV0 mdc0 mpm0 man0 mcd0 mct0), msl0⟩) (mc0 : PySem.W.codeIn K mcd0 "NoPlan.__init__" = true) (mk0 : PySem.W.keepIn K (.ref G0) = true)
    (sa0 : PySem.W.findIn K (.ref C0) "__setattr__" = some (some (.builtin "object.__setattr__")))
    (sb0 : PySem.W.subIn K (.ref C0) (.type "BaseException") = some true)
    (sc0 : PySem.W.typeIn K (.ref C0) = some (.type "type"))
    (sd0 : PySem.W.keepIn K (.ref C0) = true)
    (se0 : PySem.W.findIn K (.ref C0) "__getattribute__" = some (some (.builtin "BaseException.__getattribute__")))
    (sf0 : PySem.W.findIn K (.ref C0) "__getattr__" = some none)
    (sg0 : PySem.W.hasDictIn K C0 = true)
    (sh0 : PySem.W.findIn K (.ref C0) "__class__" = some (some (.builtin "object.__class__")))
    (si0 : PySem.W.mroIn K C0 (.type "object") = some true)
    (nd : [C0].Nodup)
    (ea : PySem.W.specialIn K (.builtin "object.__class__") "__get__" = some (some (.builtin "getset_descriptor.__get__"))) (eb : PySem.W.takesIn K (.builtin "object.__class__") = some true)
    (u0 : PySem.W.findCls K (.type "ValueError") (.type "type") "__init__" = some (.val (.builtin "ValueError.__init__")))
    (u1 : PySem.W.findCls K (.type "IndexError") (.type "type") "__init__" = some (.val (.builtin "IndexError.__init__")))
    (u2 : PySem.W.findCls K (.type "KeyError") (.type "type") "__init__" = some (.val (.builtin "KeyError.__init__")))
    (u3 : PySem.W.findCls K (.type "LookupError") (.type "type") "__init__" = some (.val (.builtin "LookupError.__init__")))
    {tk0 : Tok} (v0 : PySem.W.nsIn K mainGlobals "MOST_ONES" = some (some (.int 60 tk0)))
    {tk1 : Tok} (v1 : PySem.W.nsIn K mainGlobals "MOST_TUPLES" = some (some (.int 60 tk1)))
    (z0 : PySem.W.nsIn K mainGlobals "range" = some none)
    (z1 : PySem.W.nsIn K mainGlobals "min" = some none)
    (z2 : PySem.W.nsIn K mainGlobals "isinstance" = some none)
    (z3 : PySem.W.nsIn K mainGlobals "bool" = some none)
    (z4 : PySem.W.nsIn K mainGlobals "int" = some none)
    (z5 : PySem.W.nsIn K mainGlobals "len" = some none)
    (z6 : PySem.W.nsIn K mainGlobals "tuple" = some none)
    (z7 : PySem.W.nsIn K mainGlobals "repr" = some none)
    (z8 : PySem.W.nsIn K mainGlobals "ValueError" = some none)
    {p0 : Addr} {pd0 : Option Addr} {pn0 : Nat} {psl0 : Array (Option Value)} {tt0_0 : Tok} {tt0_1 : Tok} {tt0_2 : Tok} {tt0_3 : Tok} {tt0_4 : Tok} (tv0 : PySem.W.nsIn K mainGlobals "PART_WORDS" = some (some (.ref p0))) (tl0 : K.lookup p0 = some ⟨.type "tuple", pd0, .seq #[.str "flat" tt0_0, .str "row" tt0_1, .str "tree" tt0_2, .str "nets" tt0_3, .str "groups" tt0_4] pn0, psl0⟩)
    {p1 : Addr} {pd1 : Option Addr} {pn1 : Nat} {psl1 : Array (Option Value)} {tt1_0 : Tok} {tt1_1 : Tok} {tt1_2 : Tok} {tt1_3 : Tok} {tt1_4 : Tok} {tt1_5 : Tok} (tv1 : PySem.W.nsIn K mainGlobals "PLAN_WORDS" = some (some (.ref p1))) (tl1 : K.lookup p1 = some ⟨.type "tuple", pd1, .seq #[.str "pairs" tt1_0, .str "codes" tt1_1, .str "row" tt1_2, .str "tree" tt1_3, .str "nets" tt1_4, .str "groups" tt1_5] pn1, psl1⟩)
    : ∃ fd : FuncData, (∀ (s : Shared) (v : Value), BindsTo s fd ⟨[v], []⟩ [("_law_script", v)]) ∧ ∀ base : Heap, K.In base → base.Ns mainGlobals mg → RunAt l.prog w K mg base fa fd ["_law_script"] (spLaw K) := by
  have e := hfa.symm.trans (PySem.W.mg_of X G a16)
  cases e
  have T : Top K mg (fun i => [C0].getD i 0) := ⟨⟨⟨_, _, PySem.W.mg_of X G a0, fun_mk (st := s_part_for) l0 cc0 k0⟩⟩, ⟨⟨_, _, PySem.W.mg_of X G a1, fun_mk (st := s_plan_for) l1 cc1 k1⟩⟩, ⟨⟨_, _, PySem.W.mg_of X G a2, fun_mk (st := s__ones) l2 cc2 k2⟩⟩, ⟨⟨_, _, PySem.W.mg_of X G a3, fun_mk (st := s__flat) l3 cc3 k3⟩⟩, ⟨⟨_, _, PySem.W.mg_of X G a4, fun_mk (st := s__row) l4 cc4 k4⟩⟩, ⟨⟨_, _, PySem.W.mg_of X G a5, fun_mk (st := s__halves) l5 cc5 k5⟩⟩, ⟨⟨_, _, PySem.W.mg_of X G a6, fun_mk (st := s__groups) l6 cc6 k6⟩⟩, ⟨⟨_, _, PySem.W.mg_of X G a7, fun_mk (st := s_is_whole) l7 cc7 k7⟩⟩, ⟨⟨_, _, PySem.W.mg_of X G a8, fun_mk (st := s_is_part) l8 cc8 k8⟩⟩, ⟨⟨_, _, PySem.W.mg_of X G a9, fun_mk (st := s_is_plan) l9 cc9 k9⟩⟩, ⟨⟨_, _, PySem.W.mg_of X G a10, fun_mk (st := s_size_of) l10 cc10 k10⟩⟩, ⟨⟨_, _, PySem.W.mg_of X G a11, fun_mk (st := s__are_parts) l11 cc11 k11⟩⟩, ⟨⟨_, _, PySem.W.mg_of X G a12, fun_mk (st := s__is_joined) l12 cc12 k12⟩⟩, ⟨⟨_, _, PySem.W.mg_of X G a13, fun_mk (st := s__law_begun) l13 cc13 k13⟩⟩, ⟨⟨_, _, PySem.W.mg_of X G a14, fun_mk (st := s__law_draw) l14 cc14 k14⟩⟩, ⟨⟨_, _, PySem.W.mg_of X G a15, fun_mk (st := s__law_pick) l15 cc15 k15⟩⟩, ⟨⟨_, _, PySem.W.mg_of X G a16, fun_mk (st := s_law) l16 cc16 k16⟩⟩, cls_mk base_V (PySem.W.mg_of X G m0) o0 i0 t0 (fun_mk (st := s_NoPlan___init__) ml0 mc0 mk0) sa0 sb0 sc0 sd0 se0 sf0 sg0 sh0 si0 ea eb (no0), getD_inj nd, u0, u1, u2, u3, ⟨_, PySem.W.mg_of X G v0⟩, ⟨_, PySem.W.mg_of X G v1⟩, ctup_mk (PySem.W.mg_of X G tv0) tl0 (by show 5 ≤ 1000; decide) (.cons ⟨_, rfl⟩ (.cons ⟨_, rfl⟩ (.cons ⟨_, rfl⟩ (.cons ⟨_, rfl⟩ (.cons ⟨_, rfl⟩ .nil))))), ctup_mk (PySem.W.mg_of X G tv1) tl1 (by show 6 ≤ 1000; decide) (.cons ⟨_, rfl⟩ (.cons ⟨_, rfl⟩ (.cons ⟨_, rfl⟩ (.cons ⟨_, rfl⟩ (.cons ⟨_, rfl⟩ (.cons ⟨_, rfl⟩ .nil)))))), PySem.W.mg_none_of X G z0, PySem.W.mg_none_of X G z1, PySem.W.mg_none_of X G z2, PySem.W.mg_none_of X G z3, PySem.W.mg_none_of X G z4, PySem.W.mg_none_of X G z5, PySem.W.mg_none_of X G z6, PySem.W.mg_none_of X G z7, PySem.W.mg_none_of X G z8⟩
  exact ⟨_, fun s v => .of_eq rfl, fun base _ _ => at_law (fun_mk (st := s_law) l16 cc16 k16) T⟩
end Mc
open PySem PySem.W PyProof.Rows
set_option maxRecDepth 100000 in
set_option maxHeartbeats 0 in
theorem PySem.Challenge.cw_mostclauses_k16_plans_by_words_holds : PySem.Challenge.rw_mostclauses_k16_plans_by_words.Holds := by
  w_on; o_law; k_head; (case hw => w_witness2)
  k_fill
  refine Mc.walk_at (l := PySem.Challenge.rw_mostclauses_k16_plans_by_words) (n := 63) (x := "_law_script") (sp := fun w => Mc.spLaw _) rfl (by decide) rfl (fun w h Y => PySem.W.kIn_of Y) ?F (fun _ _ a ns hl _ hS => ⟨a, ns, rfl, hS, hl, fun _ => rfl⟩)
  case F =>
    intro w mg fa h KX G hmg
    refine' Mc.all_mk KX G hmg ?a0 ?l0 ?cc0 ?k0 ?a1 ?l1 ?cc1 ?k1 ?a2 ?l2 ?cc2 ?k2 ?a3 ?l3 ?cc3 ?k3 ?a4 ?l4 ?cc4 ?k4 ?a5 ?l5 ?cc5 ?k5 ?a6 ?l6 ?cc6 ?k6 ?a7 ?l7 ?cc7 ?k7 ?a8 ?l8 ?cc8 ?k8 ?a9 ?l9 ?cc9 ?k9 ?a10 ?l10 ?cc10 ?k10 ?a11 ?l11 ?cc11 ?k11 ?a12 ?l12 ?cc12 ?k12 ?a13 ?l13 ?cc13 ?k13 ?a14 ?l14 ?cc14 ?k14 ?a15 ?l15 ?cc15 ?k15 ?a16 ?l16 ?cc16 ?k16 ?m0 ?o0 ?i0 ?t0 ?ml0 ?mc0 ?mk0 ?sa0 ?sb0 ?sc0 ?sd0 ?se0 ?sf0 ?sg0 ?sh0 ?si0 ?nd ?ea ?eb ?u0 ?u1 ?u2 ?u3 ?v0 ?v1 ?z0 ?z1 ?z2 ?z3 ?z4 ?z5 ?z6 ?z7 ?z8 ?tv0 ?tl0 ?tv1 ?tl1
    (case a0 => k_is)
    (case l0 => k_is)
    (case cc0 => k_is)
    (case k0 => k_is)
    (case a1 => k_is)
    (case l1 => k_is)
    (case cc1 => k_is)
    (case k1 => k_is)
    (case a2 => k_is)
    (case l2 => k_is)
    (case cc2 => k_is)
    (case k2 => k_is)
    (case a3 => k_is)
    (case l3 => k_is)
    (case cc3 => k_is)
    (case k3 => k_is)
    (case a4 => k_is)
    (case l4 => k_is)
    (case cc4 => k_is)
    (case k4 => k_is)
    (case a5 => k_is)
    (case l5 => k_is)
    (case cc5 => k_is)
    (case k5 => k_is)
    (case a6 => k_is)
    (case l6 => k_is)
    (case cc6 => k_is)
    (case k6 => k_is)
    (case a7 => k_is)
    (case l7 => k_is)
    (case cc7 => k_is)
    (case k7 => k_is)
    (case a8 => k_is)
    (case l8 => k_is)
    (case cc8 => k_is)
    (case k8 => k_is)
    (case a9 => k_is)
    (case l9 => k_is)
    (case cc9 => k_is)
    (case k9 => k_is)
    (case a10 => k_is)
    (case l10 => k_is)
    (case cc10 => k_is)
    (case k10 => k_is)
    (case a11 => k_is)
    (case l11 => k_is)
    (case cc11 => k_is)
    (case k11 => k_is)
    (case a12 => k_is)
    (case l12 => k_is)
    (case cc12 => k_is)
    (case k12 => k_is)
    (case a13 => k_is)
    (case l13 => k_is)
    (case cc13 => k_is)
    (case k13 => k_is)
    (case a14 => k_is)
    (case l14 => k_is)
    (case cc14 => k_is)
    (case k14 => k_is)
    (case a15 => k_is)
    (case l15 => k_is)
    (case cc15 => k_is)
    (case k15 => k_is)
    (case a16 => k_is)
    (case l16 => k_is)
    (case cc16 => k_is)
    (case k16 => k_is)
    (case m0 => k_is)
    (case o0 => k_is)
    (case i0 => k_is)
    (case t0 => k_is)
    (case ml0 => k_is)
    (case mc0 => k_is)
    (case mk0 => k_is)
    (case sa0 => k_is)
    (case sb0 => k_is)
    (case sc0 => k_is)
    (case sd0 => k_is)
    (case se0 => k_is)
    (case sf0 => k_is)
    (case sg0 => k_is)
    (case sh0 => k_is)
    (case si0 => k_is)
    (case nd => decide)
    (case ea => k_is)
    (case eb => k_is)
    (case u0 => k_is)
    (case u1 => k_is)
    (case u2 => k_is)
    (case u3 => k_is)
    (case v0 => k_is)
    (case v1 => k_is)
    (case z0 => k_is)
    (case z1 => k_is)
    (case z2 => k_is)
    (case z3 => k_is)
    (case z4 => k_is)
    (case z5 => k_is)
    (case z6 => k_is)
    (case z7 => k_is)
    (case z8 => k_is)
    (case tv0 => k_is)
    (case tl0 => k_is)
    (case tv1 => k_is)
    (case tl1 => k_is)
