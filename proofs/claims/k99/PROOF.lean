import PyProof.Rows.All
import Wide.All
import OpenK.AllK
import Wide.FinOn
import HandS.ForMost
import HandS.Flow
import HandS.Wide
import HandS.Small
import HandS.Style
import HandS.IsInst
import HandS.RaiseMore
import HandS.Codes
import HandS.ExcInit
import HandS.ExcIs
import HandS.ExcField
import HandS.FStr
import KE.KExcInit
import PyProof.ReprRoads
import PyProof.Rows.ReprShort
import PyProof.Rows.RegFStrParts
import PyProof.FString2
import PyProof.ExcBaseAll.ValueError
import PyProof.ExcBaseAll.IndexError
import PyProof.ExcBaseAll.LookupError
import PyProof.Rows.FactsExc_KeyError
import PyProof.Rows.FactsExc_ValueError
import PyProof.Rows.FactsExc_IndexError
import PyProof.Rows.FactsExc_LookupError
import PySem.Challenge.RW_mostclauses_k99_refusals_made
set_option Elab.async false
set_option linter.all false
set_option maxRecDepth 100000
set_option maxHeartbeats 4000000
namespace Mc
open PySem PySem.Spec PyProof.Rows L2
/-! ### the text by places -/
def top (i : Nat) : Stmt := PySem.Challenge.pw_mostclauses_k99_refusals_made.main.body.getD i (.Pass ⟨0, 0, 0, 0⟩)

abbrev s__law_begun : Stmt := top 20
abbrev nm__law_begun : List Str := ["_law_script"]
theorem sc__law_begun : FnScope nm__law_begun ["_law_script"] (defScope s__law_begun) := ⟨rfl, rfl, rfl, by decide +kernel, rfl, by decide +kernel, by decide +kernel⟩
abbrev s__law_draw : Stmt := top 21
abbrev nm__law_draw : List Str := ["_law_tape", "_law_many", "_law_spot", "_law_most", "_law_cell", "_law_found"]
theorem sc__law_draw : FnScope nm__law_draw ["_law_tape", "_law_many"] (defScope s__law_draw) := ⟨rfl, rfl, rfl, by decide +kernel, rfl, by decide +kernel, by decide +kernel⟩
abbrev s__law_pick : Stmt := top 22
abbrev nm__law_pick : List Str := ["_law_tape", "_law_some"]
theorem sc__law_pick : FnScope nm__law_pick ["_law_tape", "_law_some"] (defScope s__law_pick) := ⟨rfl, rfl, rfl, by decide +kernel, rfl, by decide +kernel, by decide +kernel⟩
abbrev s__law_under : Stmt := top 23
abbrev nm__law_under : List Str := ["_law_error", "_law_some", "_law_kinds", "_law_k"]
theorem sc__law_under : FnScope nm__law_under ["_law_error"] (defScope s__law_under) := ⟨rfl, rfl, rfl, by decide +kernel, rfl, by decide +kernel, by decide +kernel⟩
abbrev s_law : Stmt := top 24
abbrev nm_law : List Str := ["_law_script", "_law_tape", "_law_turn", "_law_one", "_law_other", "_law_word", "_law_errors", "_law_k", "_law_some", "_law_fields"]
theorem sc_law : FnScope nm_law ["_law_script"] (defScope s_law) := ⟨rfl, rfl, rfl, by decide +kernel, rfl, by decide +kernel, by decide +kernel⟩
/-- an inner statement of a class -/
def inner (s : Stmt) (j : Nat) : Stmt := match s with
  | .ClassDef _ _ _ b _ _ _ _ _ _ _ => b.getD j (.Pass ⟨0, 0, 0, 0⟩)
  | z => z
abbrev s_NoMarks___init__ : Stmt := inner (top 1) 0
abbrev nm_NoMarks___init__ : List Str := ["self"]
theorem sc_NoMarks___init__ : FnScope nm_NoMarks___init__ ["self"] (defScope s_NoMarks___init__) := ⟨rfl, rfl, rfl, by decide +kernel, rfl, by decide +kernel, by decide +kernel⟩
abbrev s_NoPlan___init__ : Stmt := inner (top 2) 0
abbrev nm_NoPlan___init__ : List Str := ["self"]
theorem sc_NoPlan___init__ : FnScope nm_NoPlan___init__ ["self"] (defScope s_NoPlan___init__) := ⟨rfl, rfl, rfl, by decide +kernel, rfl, by decide +kernel, by decide +kernel⟩
abbrev s_NoText___init__ : Stmt := inner (top 3) 0
abbrev nm_NoText___init__ : List Str := ["self"]
theorem sc_NoText___init__ : FnScope nm_NoText___init__ ["self"] (defScope s_NoText___init__) := ⟨rfl, rfl, rfl, by decide +kernel, rfl, by decide +kernel, by decide +kernel⟩
abbrev s_NoKnot___init__ : Stmt := inner (top 4) 0
abbrev nm_NoKnot___init__ : List Str := ["self", "number"]
theorem sc_NoKnot___init__ : FnScope nm_NoKnot___init__ ["self", "number"] (defScope s_NoKnot___init__) := ⟨rfl, rfl, rfl, by decide +kernel, rfl, by decide +kernel, by decide +kernel⟩
abbrev s_NoFresh___init__ : Stmt := inner (top 5) 0
abbrev nm_NoFresh___init__ : List Str := ["self", "lowest"]
theorem sc_NoFresh___init__ : FnScope nm_NoFresh___init__ ["self", "lowest"] (defScope s_NoFresh___init__) := ⟨rfl, rfl, rfl, by decide +kernel, rfl, by decide +kernel, by decide +kernel⟩
abbrev s_NoBound___init__ : Stmt := inner (top 6) 0
abbrev nm_NoBound___init__ : List Str := ["self", "low", "high"]
theorem sc_NoBound___init__ : FnScope nm_NoBound___init__ ["self", "low", "high"] (defScope s_NoBound___init__) := ⟨rfl, rfl, rfl, by decide +kernel, rfl, by decide +kernel, by decide +kernel⟩
abbrev s_NoGrow___init__ : Stmt := inner (top 7) 0
abbrev nm_NoGrow___init__ : List Str := ["self"]
theorem sc_NoGrow___init__ : FnScope nm_NoGrow___init__ ["self"] (defScope s_NoGrow___init__) := ⟨rfl, rfl, rfl, by decide +kernel, rfl, by decide +kernel, by decide +kernel⟩
abbrev s_NotWider___init__ : Stmt := inner (top 8) 0
abbrev nm_NotWider___init__ : List Str := ["self", "cap"]
theorem sc_NotWider___init__ : FnScope nm_NotWider___init__ ["self", "cap"] (defScope s_NotWider___init__) := ⟨rfl, rfl, rfl, by decide +kernel, rfl, by decide +kernel, by decide +kernel⟩
abbrev s_TooFar___init__ : Stmt := inner (top 9) 0
abbrev nm_TooFar___init__ : List Str := ["self", "cap"]
theorem sc_TooFar___init__ : FnScope nm_TooFar___init__ ["self", "cap"] (defScope s_TooFar___init__) := ⟨rfl, rfl, rfl, by decide +kernel, rfl, by decide +kernel, by decide +kernel⟩
abbrev s_IsPut___init__ : Stmt := inner (top 10) 0
abbrev nm_IsPut___init__ : List Str := ["self", "name"]
theorem sc_IsPut___init__ : FnScope nm_IsPut___init__ ["self", "name"] (defScope s_IsPut___init__) := ⟨rfl, rfl, rfl, by decide +kernel, rfl, by decide +kernel, by decide +kernel⟩
abbrev s_NotOn___init__ : Stmt := inner (top 11) 0
abbrev nm_NotOn___init__ : List Str := ["self", "mark"]
theorem sc_NotOn___init__ : FnScope nm_NotOn___init__ ["self", "mark"] (defScope s_NotOn___init__) := ⟨rfl, rfl, rfl, by decide +kernel, rfl, by decide +kernel, by decide +kernel⟩
abbrev s_IsRule___init__ : Stmt := inner (top 12) 0
abbrev nm_IsRule___init__ : List Str := ["self", "word"]
theorem sc_IsRule___init__ : FnScope nm_IsRule___init__ ["self", "word"] (defScope s_IsRule___init__) := ⟨rfl, rfl, rfl, by decide +kernel, rfl, by decide +kernel, by decide +kernel⟩
abbrev s_NoRule___init__ : Stmt := inner (top 13) 0
abbrev nm_NoRule___init__ : List Str := ["self", "word"]
theorem sc_NoRule___init__ : FnScope nm_NoRule___init__ ["self", "word"] (defScope s_NoRule___init__) := ⟨rfl, rfl, rfl, by decide +kernel, rfl, by decide +kernel, by decide +kernel⟩
abbrev s_TooMany___init__ : Stmt := inner (top 14) 0
abbrev nm_TooMany___init__ : List Str := ["self", "many"]
theorem sc_TooMany___init__ : FnScope nm_TooMany___init__ ["self", "many"] (defScope s_TooMany___init__) := ⟨rfl, rfl, rfl, by decide +kernel, rfl, by decide +kernel, by decide +kernel⟩
abbrev s_NoPut___init__ : Stmt := inner (top 15) 0
abbrev nm_NoPut___init__ : List Str := ["self"]
theorem sc_NoPut___init__ : FnScope nm_NoPut___init__ ["self"] (defScope s_NoPut___init__) := ⟨rfl, rfl, rfl, by decide +kernel, rfl, by decide +kernel, by decide +kernel⟩
abbrev s_NoDeed___init__ : Stmt := inner (top 16) 0
abbrev nm_NoDeed___init__ : List Str := ["self"]
theorem sc_NoDeed___init__ : FnScope nm_NoDeed___init__ ["self"] (defScope s_NoDeed___init__) := ⟨rfl, rfl, rfl, by decide +kernel, rfl, by decide +kernel, by decide +kernel⟩
abbrev s_IsBroken___init__ : Stmt := inner (top 17) 0
abbrev nm_IsBroken___init__ : List Str := ["self"]
theorem sc_IsBroken___init__ : FnScope nm_IsBroken___init__ ["self"] (defScope s_IsBroken___init__) := ⟨rfl, rfl, rfl, by decide +kernel, rfl, by decide +kernel, by decide +kernel⟩
abbrev s_HasSome___init__ : Stmt := inner (top 18) 0
abbrev nm_HasSome___init__ : List Str := ["self"]
theorem sc_HasSome___init__ : FnScope nm_HasSome___init__ ["self"] (defScope s_HasSome___init__) := ⟨rfl, rfl, rfl, by decide +kernel, rfl, by decide +kernel, by decide +kernel⟩
/-! ### a def that stands in the top and keeps a promise -/
structure At (K : PySem.W.Frag) (mg : Str → Option Value) (x : Str) (st : Stmt) : Prop where
  ex : ∃ f fd, mg x = some (.ref f) ∧ Fun K x x st f fd
structure Has (P : Program) (w : World) (K : PySem.W.Frag) (mg : Str → Option Value) (base : Heap) (k : Nat) (x : Str) (ps : List Str) (sp : Sp) : Prop where
  ex : ∃ f fd, mg x = some (.ref f) ∧ PySem.W.keepIn K (.ref f) = true ∧ Binds K fd ps [] ∧ FnOk P w K mg base CX0 k f fd ps sp
theorem pe_has {X : Cx} {k : Nat} {x : Str} {ps : List Str} {sp : Sp} {e : Expr} {es : List Expr} {t : TA} {p pos : Pos} (h : Has X.prog X.w X.K X.mg X.base k x ps sp) (hr : Room k X.A) (hg : Gl X x) (ha : PA X (e :: es) t)
    (hdb : (x == ("__debug__" : Str)) = false := by decide) (he : starEach (e :: es) X.env = (false, eval e X.env) :: starEach es X.env := by rfl) (hpl : (backTo pos (starEach es X.env)).any (·.1) = false := by rfl) :
    PE X (.Call (.Name x p) (e :: es) [] pos) (tCall sp [] E0 t) := by
  obtain ⟨f, fd, hm, hk, hb, F⟩ := h.ex
  exact pe_call F hr hg hm hk hb .nil pass0 ha hdb he hpl
abbrev BindsAll (x : Str) (st : Stmt) (ps : List Str) : Prop :=
  ∀ (kV doc pm : Value) (an : Option Addr) (cdv ct : Value) (us : List Value), us.length = ps.length → bindArgs (PySem.W.fnOf x x (defArgs st) (defBody st) (defScope st) .none kV doc pm an cdv ct) ⟨us, []⟩ = pure (ps.zip us)
section
variable {P : Program} {w : World} {K : PySem.W.Frag} {mg : Str → Option Value} {base : Heap}
theorem has_of {x : Str} {st : Stmt} {N ps : List Str} {k : Nat} {sp : Sp} (A : At K mg x st) (S : FnScope N ps (defScope st)) (B : BindsAll x st ps) (len : ∀ vs H Q E, sp vs H Q E → vs.length = ps.length)
    (hbody : ∀ (f : Addr) (cdv : Value) (A : Around) (outer : List Env) (s : Shared) (H : Hp) (vs : List V) (Q : VK) (E : XK), Room k (A.deeper (envOfC x (defScope st) s.heap.objs.size f cdv)) → sp vs H Q E →
      ∃ t, PSs (cxOf CX0 P w K mg base N x (defScope st) f cdv A outer s H E).nox (defBody st) t ∧ t { nx := fun _ H' => Q .non H', rt := Q } (start N vs) H) : Has P w K mg base (k + 1) x ps sp := by
  obtain ⟨f, fd, hm, F⟩ := A.ex
  exact ⟨f, fd, hm, F.kp, F.binds B, F.ok S len fun cdv A outer s H vs Q E hr h => hbody f cdv A outer s H vs Q E hr h⟩
end
theorem pe_const {X : Cx} {x : Str} {i : Int} {pos : Pos} (hm : ∃ t, X.mg x = some (.int i t)) (hg : Gl X x) (hd : (x == ("__debug__" : Str)) = false := by decide) : PE X (.Name x pos) (tC (.int i)) := by
  obtain ⟨t, hm⟩ := hm
  exact pe_glob hg hm ⟨t, rfl⟩ hd
/-! ### repr of a truth -/
def boolText (b : Bool) : Str := if b then "True" else "False"
theorem boolText_inj {a b : Bool} (h : boolText a = boolText b) : a = b := by
  cases a <;> cases b <;> first | rfl | exact absurd h (by decide +kernel)
theorem call_repr_bool {X : Cx} : CallR X (.builtin "repr") (fun xs H Q => ∃ b, xs = [.bl b] ∧ Q (.str (boolText b)) H) := by
  intro pins s σ H xs us Q I r h
  obtain ⟨b, rfl, q⟩ := h
  obtain ⟨u, rfl, ru⟩ := vals1 r
  cases ru
  cases b with
  | true => exact PySem.P.repr_of_bool ⟨.str (boolText true), H, I.tok _, ⟨_, rfl⟩, q⟩
  | false => exact PySem.P.repr_of_bool ⟨.str (boolText false), H, I.tok _, ⟨_, rfl⟩, q⟩
/-! ### heaps -/
/-- all that is known stays, but for what stands at t -/
def Kp (t : Addr) (H H' : Hp) : Prop := ∀ b o, H b = some o → b ≠ t → H' b = some o
theorem Kp.refl {t : Addr} (H : Hp) : Kp t H H := fun _ _ h _ => h
theorem Kp.trans {t : Addr} {H H1 H2 : Hp} (a : Kp t H H1) (b : Kp t H1 H2) : Kp t H H2 := fun c o h n => b c o (a c o h n) n
theorem Kp.new {t p : Addr} {H : Hp} {o : HO} (h : H p = none) : Kp t H (upd H p o) := fun b u e _ => by
  rw [upd_ne (ne_of_none e h)]
  exact e
theorem Kp.at {t : Addr} {H : Hp} {o : HO} : Kp t H (upd H t o) := fun b u e n => by
  rw [upd_ne n]
  exact e
theorem Kp.same {t : Addr} {H H' : Hp} (s : Same H H') : Kp t H H' := fun b o e _ => s b o e
theorem same_new {H : Hp} {p : Addr} {o : HO} (h : H p = none) : Same H (upd H p o) := fun b u e => by
  rw [upd_ne (ne_of_none e h)]
  exact e
/-! ### the tape -/
def tk (c : Addr) (spot left : Int) : List (Key × V) := [(.inr "cells", .ref c), (.inr "spot", .int spot), (.inr "left", .int left)]
structure TapeC (H : Hp) (t c : Addr) (ns : List Int) (spot left : Int) : Prop where
  d : H t = some (.dK (tk c spot left))
  l : H c = some (.lst (ns.map V.int))
  ne : 0 < ns.length
  lt : ns.length ≤ 63
  s0 : 0 ≤ spot
  l0 : 0 ≤ left
/-- a tape at t, its cells at c, of which at most n draws are taken -/
def Tape (H : Hp) (t c : Addr) (n : Nat) : Prop := ∃ ns spot left, TapeC H t c ns spot left ∧ spot ≤ n
theorem Tape.ne {H : Hp} {t c : Addr} {n : Nat} (h : Tape H t c n) : t ≠ c := by
  obtain ⟨ns, spot, left, h, _⟩ := h
  exact ne_of h.d h.l (by intro z; cases z)
theorem Tape.le {H : Hp} {t c : Addr} {n m : Nat} (h : Tape H t c n) (l : n ≤ m) : Tape H t c m := by
  obtain ⟨ns, spot, left, h, e⟩ := h
  exact ⟨ns, spot, left, h, by omega⟩
theorem Tape.stay {H H' : Hp} {t c : Addr} {n : Nat} (h : Tape H t c n) (k : ∀ b o, H b = some o → b = t ∨ b = c → H' b = some o) : Tape H' t c n := by
  obtain ⟨ns, spot, left, h, e⟩ := h
  exact ⟨ns, spot, left, ⟨k _ _ h.d (.inl rfl), k _ _ h.l (.inr rfl), h.ne, h.lt, h.s0, h.l0⟩, e⟩
theorem Tape.same {H H' : Hp} {t c : Addr} {n : Nat} (h : Tape H t c n) (s : Same H H') : Tape H' t c n := h.stay fun b o e _ => s b o e
theorem Tape.new {H : Hp} {t c p : Addr} {n : Nat} {o : HO} (h : Tape H t c n) (hp : H p = none) : Tape (upd H p o) t c n := h.same (same_new hp)
theorem Tape.at_t {H : Hp} {t c : Addr} {n : Nat} (h : Tape H t c n) : ∃ o, H t = some o := by
  obtain ⟨ns, spot, left, h, _⟩ := h
  exact ⟨_, h.d⟩
theorem Tape.at_c {H : Hp} {t c : Addr} {n : Nat} (h : Tape H t c n) : ∃ o, H c = some o := by
  obtain ⟨ns, spot, left, h, _⟩ := h
  exact ⟨_, h.l⟩
theorem k_cells : ¬ (("cells" : Str) = "spot") := by decide +kernel
theorem k_cells2 : ¬ (("cells" : Str) = "left") := by decide +kernel
theorem k_spot : ¬ (("spot" : Str) = "left") := by decide +kernel
theorem tk_cells (c : Addr) (a b : Int) : valV (tk c a b) (Sum.inr "cells" : Key) = some (.ref c) := valV_pos rfl
theorem tk_spot (c : Addr) (a b : Int) : valV (tk c a b) (Sum.inr "spot" : Key) = some (.int a) := by
  unfold tk
  rw [valV_neg (fun e => k_cells (Sum.inr.inj e)), valV_pos rfl]
theorem tk_left (c : Addr) (a b : Int) : valV (tk c a b) (Sum.inr "left" : Key) = some (.int b) := by
  unfold tk
  rw [valV_neg (fun e => k_cells2 (Sum.inr.inj e)), valV_neg (fun e => k_spot (Sum.inr.inj e)), valV_pos rfl]
theorem tk_put_spot (c : Addr) (a b x : Int) : putK (tk c a b) (Sum.inr "spot" : Key) (.int x) = tk c x b := by
  rfl
theorem tk_put_left (c : Addr) (a b x : Int) : putK (tk c a b) (Sum.inr "left" : Key) (.int x) = tk c a x := by
  rfl
theorem dg_cells {H : Hp} {t c : Addr} {a b : Int} (h : H t = some (.dK (tk c a b))) : DGet H t (.str "cells") (some (.ref c)) := by
  have g := DGet.k (k := (Sum.inr "cells" : Key)) h
  rw [tk_cells] at g
  exact g
theorem dg_spot {H : Hp} {t c : Addr} {a b : Int} (h : H t = some (.dK (tk c a b))) : DGet H t (.str "spot") (some (.int a)) := by
  have g := DGet.k (k := (Sum.inr "spot" : Key)) h
  rw [tk_spot] at g
  exact g
theorem dg_left {H : Hp} {t c : Addr} {a b : Int} (h : H t = some (.dK (tk c a b))) : DGet H t (.str "left") (some (.int b)) := by
  have g := DGet.k (k := (Sum.inr "left" : Key)) h
  rw [tk_left] at g
  exact g
theorem dp_spot {H : Hp} {t c : Addr} {a b : Int} (x : Int) (h : H t = some (.dK (tk c a b))) : DPut H t (.str "spot") (.int x) (upd H t (.dK (tk c x b))) := by
  have g := DPut.k (k := (Sum.inr "spot" : Key)) (v := .int x) h (small1000 (by show 3 ≤ 1000; decide))
  rw [tk_put_spot] at g
  exact g
theorem dp_left {H : Hp} {t c : Addr} {a b : Int} (x : Int) (h : H t = some (.dK (tk c a b))) : DPut H t (.str "left") (.int x) (upd H t (.dK (tk c a x))) := by
  have g := DPut.k (k := (Sum.inr "left" : Key)) (v := .int x) h (small1000 (by show 3 ≤ 1000; decide))
  rw [tk_put_left] at g
  exact g
theorem Tape.fresh {H : Hp} {t c p : Addr} {n : Nat} (h : Tape H t c n) (hp : H p = none) : p ≠ t := by
  obtain ⟨o, e⟩ := h.at_t
  exact (ne_of_none e hp).symm
theorem Tape.fresh_c {H : Hp} {t c p : Addr} {n : Nat} (h : Tape H t c n) (hp : H p = none) : p ≠ c := by
  obtain ⟨o, e⟩ := h.at_c
  exact (ne_of_none e hp).symm
/-! ### a list beside the empty list -/
section
variable {X : Cx}
def rEqNil (K : PySem.W.Frag) (neg : Bool) : R2 := fun x y H Q => ∃ a b xs, x = .ref a ∧ y = .ref b ∧ SqL K H a xs ∧ SqL K H b [] ∧ Q (.bl (if neg = true then !xs.isEmpty else xs.isEmpty)) H
theorem op_eqNil (hu : X.A.units + 1 < cLine) : OpR X (compareOp .Eq) (rEqNil X.K false) := by
  intro pins s σ H x y v u Q I rx ry h
  obtain ⟨a, b, xs, rfl, rfl, ha, hb, q⟩ := h
  cases rx
  cases ry
  obtain ⟨us, vs, pl, _⟩ := I.list ha
  obtain ⟨ws, vs2, pl2, _⟩ := I.list hb
  cases vs2
  have l := vs.length
  cases xs with
  | nil =>
    cases vs
    exact SeqAt.RcAt.lists (e := fun _ => true) pl.isList pl2.isList rfl (by omega) (fun j h1 => absurd h1 (Nat.not_lt_zero _)) _ _ _ _ ⟨.bl true, H, I, rfl, q⟩
  | cons z zs => exact SeqAt.RcAt.lists_lengths pl.isList pl2.isList (by rw [List.size_toArray, ← l]; rfl) (by omega) _ _ _ _ ⟨.bl false, H, I, rfl, q⟩
theorem op_neNil (hu : X.A.units + 1 < cLine) : OpR X (compareOp .NotEq) (rEqNil X.K true) := by
  intro pins s σ H x y v u Q I rx ry h
  obtain ⟨a, b, xs, rfl, rfl, ha, hb, q⟩ := h
  cases rx
  cases ry
  obtain ⟨us, vs, pl, _⟩ := I.list ha
  obtain ⟨ws, vs2, pl2, _⟩ := I.list hb
  cases vs2
  have l := vs.length
  cases xs with
  | nil =>
    cases vs
    exact SeqAt.RcNeAt.lists (e := fun _ => true) pl.isList pl2.isList rfl (by omega) (fun j h1 => absurd h1 (Nat.not_lt_zero _)) _ _ _ _ ⟨.bl false, H, I, rfl, q⟩
  | cons z zs => exact SeqAt.RcNeAt.lists_lengths pl.isList pl2.isList (by rw [List.size_toArray, ← l]; rfl) (by omega) _ _ _ _ ⟨.bl true, H, I, rfl, q⟩
end
/-! ### comprehensions that leave what is known as it is -/
theorem take_sel {α β : Type} (t : α → Bool) (f : α → β) {xs : List α} {i : Nat} {x : α} (h : xs[i]? = some x) :
    ((xs.take (i + 1)).filter t).map f = ((xs.take i).filter t).map f ++ (if t x = true then [f x] else []) := by
  rw [List.take_add_one, h, List.filter_append, List.map_append]
  by_cases ht : t x = true
  · rw [if_pos ht]
    simp [ht]
  · rw [if_neg ht]
    simp [ht]
section
variable {K : PySem.W.Frag} {a : Addr} {xs : List V} {tt : TT} {te : TE} {vs : List Nat} {σ : L2.St} {H : Hp} {D : Addr} {Qd : Hp → Prop} {j : Nat}
/-- what a turn asks: the test, the item -/
structure SelT (H : Hp) (σ : L2.St) (vs : List Nat) (j : Nat) (tt : TT) (te : TE) (x : V) (b : Bool) (y : V) : Prop where
  wip : wipe ((wipe σ vs).set j (some x)) vs = wipe σ vs
  tst : ∀ H', Same H H' → ∀ R : Bool → Hp → Prop, (∀ H'', Same H' H'' → R b H'') → tt ((wipe σ vs).set j (some x)) H' R
  elt : b = true → ∀ H', Same H H' → ∀ R : VK, (∀ H'', Same H' H'' → R y H'') → te ((wipe σ vs).set j (some x)) H' R
theorem sel_turn {x y : V} {b : Bool} {acc : List V} {H' : Hp} {P : Hp → Prop} (hD : H D = none) (s : SelT H σ vs j tt te x b y) (hs : Same H H') (ha : H' D = some (.lst acc)) (hz : acc.length < sizeLine)
    (k : ∀ H'', Same H H'' → H'' D = some (.lst (acc ++ (if b = true then [y] else []))) → P H'') :
    gName j x (wipe σ vs) H' fun σ2 H2 => wipe σ2 vs = wipe σ vs ∧ tt σ2 H2 fun c H3 => if c = true then te σ2 H3 fun y H4 => ∃ acc, H4 D = some (.lst acc) ∧ acc.length < sizeLine ∧ P (upd H4 D (.lst (acc ++ [y]))) else P H3 := by
  refine ⟨s.wip, s.tst H' hs _ fun H3 s3 => ?_⟩
  have h3 := s3 D _ ha
  cases b with
  | false =>
    refine iteF (k H3 (hs.trans s3) ?_)
    rw [h3, if_neg Bool.false_ne_true, List.append_nil]
  | true =>
    refine iteT (s.elt rfl H3 (hs.trans s3) _ fun H4 s4 => ⟨acc, s4 D _ h3, hz, k _ (fun c o e => ?_) ?_⟩)
    · rw [upd_ne (ne_of_none e hD)]
      exact s4 c o (s3 c o (hs c o e))
    · rw [upd_same, if_pos rfl]
theorem lc_sel_list (t : V → Bool) (f : V → V) (hx : SqL K H a xs) (hD : H D = none) (hz : xs.length ≤ 1000000) (hs : ∀ x ∈ xs, SelT H σ vs j tt te x (t x) (f x)) (k : ∀ H', Same H H' → H' D = some (.lst ((xs.filter t).map f)) → Qd H') :
    ∃ W : Nat → Nat → Hp → Prop, (∃ m, W 0 m (upd H D (.lst []))) ∧ ∀ i m H, W i m H →
      ((Itl K a).stop i H ∧ Qd H) ∨ ((Itl K a).go i H ∧ ∃ Nx : Hp → Prop, (∀ H', Nx H' → ∃ m', m' < m ∧ W (i + 1) m' H') ∧ ∀ x H', (Itl K a).yld i H x H' → gName j x (wipe σ vs) H' fun σ2 H2 => wipe σ2 vs = wipe σ vs ∧ tt σ2 H2 fun b H3 =>
        if b = true then te σ2 H3 fun y H4 => ∃ acc, H4 D = some (.lst acc) ∧ acc.length < sizeLine ∧ Nx (upd H4 D (.lst (acc ++ [y]))) else Nx H3) := by
  have line : 1000000 < sizeLine := by decide
  refine lc_list (xs := xs) (fun i H' => Same H H' ∧ H' D = some (.lst (((xs.take i).filter t).map f))) ⟨same_new hD, upd_same⟩ (fun i H' _ p => p.1.seq hx) (fun i x H' hi p => ?_) fun H' p => k H' p.1 (by rw [p.2, List.take_length])
  refine sel_turn hD (hs x (List.mem_of_getElem? hi)) p.1 p.2 ?_ fun H'' s'' e => ⟨s'', by rw [e, take_sel t f hi]⟩
  have l1 := List.length_filter_le t (xs.take i)
  have l2 := List.length_take_le i xs
  have l3 : (xs.take i).length ≤ xs.length := by rw [List.length_take]; omega
  rw [List.length_map]
  omega
theorem Same.seqT {H H' : Hp} (e : Same H H') (h : SqT K H a xs) : SqT K H' a xs := by
  rcases h with (h | ⟨o, h⟩) | h
  · exact .inl (.inl (e _ _ h))
  · exact .inl (.inr ⟨o, e _ _ h⟩)
  · exact .inr h
theorem lc_sel_tup (t : V → Bool) (f : V → V) (hx : SqT K H a xs) (hD : H D = none) (hz : xs.length ≤ 1000000) (hs : ∀ x ∈ xs, SelT H σ vs j tt te x (t x) (f x)) (k : ∀ H', Same H H' → H' D = some (.lst ((xs.filter t).map f)) → Qd H') :
    ∃ W : Nat → Nat → Hp → Prop, (∃ m, W 0 m (upd H D (.lst []))) ∧ ∀ i m H, W i m H →
      ((Itt K a).stop i H ∧ Qd H) ∨ ((Itt K a).go i H ∧ ∃ Nx : Hp → Prop, (∀ H', Nx H' → ∃ m', m' < m ∧ W (i + 1) m' H') ∧ ∀ x H', (Itt K a).yld i H x H' → gName j x (wipe σ vs) H' fun σ2 H2 => wipe σ2 vs = wipe σ vs ∧ tt σ2 H2 fun b H3 =>
        if b = true then te σ2 H3 fun y H4 => ∃ acc, H4 D = some (.lst acc) ∧ acc.length < sizeLine ∧ Nx (upd H4 D (.lst (acc ++ [y]))) else Nx H3) := by
  have line : 1000000 < sizeLine := by decide
  refine lc_tup (xs := xs) (fun i H' => Same H H' ∧ H' D = some (.lst (((xs.take i).filter t).map f))) ⟨same_new hD, upd_same⟩ (fun i H' _ p => Same.seqT p.1 hx) (fun i x H' hi p => ?_) fun H' p => k H' p.1 (by rw [p.2, List.take_length])
  refine sel_turn hD (hs x (List.mem_of_getElem? hi)) p.1 p.2 ?_ fun H'' s'' e => ⟨s'', by rw [e, take_sel t f hi]⟩
  have l1 := List.length_filter_le t (xs.take i)
  have l3 : (xs.take i).length ≤ xs.length := by rw [List.length_take]; omega
  rw [List.length_map]
  omega
theorem take_range {n i : Nat} (h : i < n) : (List.range n)[i]? = some i := by
  rw [List.getElem?_range h]
theorem lc_sel_range {lo : Int} {n : Nat} (t : Nat → Bool) (f : Nat → V) (hD : H D = none) (hz : n ≤ 1000000) (hs : ∀ i, i < n → SelT H σ vs j tt te (.int (lo + i)) (t i) (f i)) (k : ∀ H', Same H H' → H' D = some (.lst (((List.range n).filter t).map f)) → Qd H') :
    ∃ W : Nat → Nat → Hp → Prop, (∃ m, W 0 m (upd H D (.lst []))) ∧ ∀ i m H, W i m H →
      ((Itr lo n).stop i H ∧ Qd H) ∨ ((Itr lo n).go i H ∧ ∃ Nx : Hp → Prop, (∀ H', Nx H' → ∃ m', m' < m ∧ W (i + 1) m' H') ∧ ∀ x H', (Itr lo n).yld i H x H' → gName j x (wipe σ vs) H' fun σ2 H2 => wipe σ2 vs = wipe σ vs ∧ tt σ2 H2 fun b H3 =>
        if b = true then te σ2 H3 fun y H4 => ∃ acc, H4 D = some (.lst acc) ∧ acc.length < sizeLine ∧ Nx (upd H4 D (.lst (acc ++ [y]))) else Nx H3) := by
  have line : 1000000 < sizeLine := by decide
  refine lc_range (fun i H' => Same H H' ∧ H' D = some (.lst ((((List.range n).take i).filter t).map f))) ⟨same_new hD, upd_same⟩ (fun i H' hi p => ?_) fun H' p => k H' p.1 (by rw [p.2, List.take_of_length_le (by rw [List.length_range]; omega)])
  refine sel_turn hD (hs i hi) p.1 p.2 ?_ fun H'' s'' e => ⟨s'', by rw [e, take_sel t f (take_range hi)]⟩
  have l1 := List.length_filter_le t ((List.range n).take i)
  have l3 : ((List.range n).take i).length ≤ n := by rw [List.length_take, List.length_range]; omega
  rw [List.length_map]
  omega
end
theorem filter_all {α : Type} (xs : List α) : xs.filter (fun _ => true) = xs := List.filter_eq_self.mpr fun _ _ => rfl
theorem Kp.free {t D : Addr} {H H' : Hp} (k : Kp t H H') (h : H' D = none) (n : D ≠ t) : H D = none := by
  cases e : H D with
  | none => rfl
  | some o =>
    rw [k D o e n] at h
    cases h
theorem Kp.mut {t p : Addr} {H H' : Hp} {o : HO} (k : Kp t H H') (h : H p = none) : Kp t H (upd H' p o) := fun b u e n => by
  rw [upd_ne (ne_of_none e h)]
  exact k b u e n
theorem Tape.mut {H : Hp} {t c p : Addr} {n : Nat} {o : HO} (h : Tape H t c n) (n1 : p ≠ t) (n2 : p ≠ c) : Tape (upd H p o) t c n := h.stay fun b u e z => by
  rw [upd_ne]
  · exact e
  · rcases z with rfl | rfl
    · exact n1.symm
    · exact n2.symm
theorem yes_go {σ : L2.St} {H : Hp} {A B : Hp → Prop} (h : A H) : tYes σ H (fun b H' => if b = true then A H' else B H') := by
  show (if true = true then A H else B H)
  rw [if_pos rfl]
  exact h
/-! ### d.update(e) of two dicts -/
theorem mt_update {X : Cx} : MtR X "dict.update" (fun x xs H Q => ∃ (a b : Addr) (ks ms : List (Key × V)), x = .ref a ∧ xs = [.ref b] ∧ H a = some (.dK ks) ∧ H b = some (.dK ms) ∧ a ≠ b ∧ ks.length + ms.length ≤ sizeLine ∧
    Q .non (upd H a (.dK (mergeK ks ms)))) := by
  intro pins s σ H x xs v us Q I rx rxs h
  obtain ⟨a, b, ks, ms, rfl, rfl, ha, hb, ne, few, q⟩ := h
  cases rx
  obtain ⟨u, rfl, ru⟩ := vals1 rxs
  cases ru
  obtain ⟨za, da, va, ra, dda⟩ := dk_of I.hok ha
  obtain ⟨zb, db, vb, rb, ddb⟩ := dk_of I.hok hb
  refine call_meetsIn PySem.F.slot_dict_update dda.typeIs PySem.F.entry_dict_update (PySem.F.args_dict_update_2 _ _) (meets_dict_update (mixKind X.prog X.w) a b ne db) ⟨va, vb, dda, ddb, by rw [← ra.length, ← rb.length]; exact few, fun h' d1 d2 same => ?_⟩
  have there : ∃ o, h'.get? a = some o := by
    obtain ⟨o, _, _, ho, _⟩ := id d1
    exact ⟨o, ho⟩
  have small : (mergeK ks ms).length ≤ sizeLine := Nat.le_trans (length_mergeK ms ks) few
  exact ⟨.non, _, d_write (t' := s.toks) I (by rw [ha]; exact True.intro) same there (dk_new small da (rb.merge ra) d1), rfl, q⟩
/-! ### rules whose reading names the written part, for use within a comprehension -/
section
variable {X : Cx} {K : PySem.W.Frag}
theorem op_inK (h : X.K = K) : OpR X (compareOp .In) (rIn K false) := h ▸ op_in_seq
theorem op_notInK (h : X.K = K) : OpR X (compareOp .NotIn) (rIn K true) := h ▸ op_notIn_seq
theorem op_eqNilK (h : X.K = K) (hu : X.A.units + 1 < cLine) : OpR X (compareOp .Eq) (rEqNil K false) := h ▸ op_eqNil hu
theorem op_neNilK (h : X.K = K) (hu : X.A.units + 1 < cLine) : OpR X (compareOp .NotEq) (rEqNil K true) := h ▸ op_neNil hu
theorem ix_listK (h : X.K = K) : IxR X (rIxL K) := h ▸ ix_list
theorem ix_tupK (h : X.K = K) : IxR X (rIxT K) := h ▸ ix_tup
theorem ix_seqK (h : X.K = K) : IxR X (rIx K) := h ▸ ix_seq
theorem len_seqK (h : X.K = K) : CallR X (.builtin "len") (fun xs H Q => ∃ p ys, xs = [.ref p] ∧ (SqL K H p ys ∨ SqT K H p ys) ∧ Q (.int (ys.length : Nat)) H) := h ▸ call_len_seq
theorem pi_listK {tg l : Expr} {tl : TE} (h : X.K = K) (hl : PE X l tl) : PI X tg l (iList K tl) := h ▸ pi_list hl
theorem pi_tupK {tg l : Expr} {tl : TE} (h : X.K = K) (hl : PE X l tl) : PI X tg l (iTup K tl) := h ▸ pi_tup hl
end
theorem bd__law_begun : BindsAll "_law_begun" s__law_begun ["_law_script"] := fun _ _ _ _ _ _ us hl => match us, hl with | [_], _ => rfl
theorem bd__law_draw : BindsAll "_law_draw" s__law_draw ["_law_tape", "_law_many"] := fun _ _ _ _ _ _ us hl => match us, hl with | [_, _], _ => rfl
theorem bd__law_pick : BindsAll "_law_pick" s__law_pick ["_law_tape", "_law_some"] := fun _ _ _ _ _ _ us hl => match us, hl with | [_, _], _ => rfl
theorem bd__law_under : BindsAll "_law_under" s__law_under ["_law_error"] := fun _ _ _ _ _ _ us hl => match us, hl with | [_], _ => rfl
theorem bd_law : BindsAll "law" s_law ["_law_script"] := fun _ _ _ _ _ _ us hl => match us, hl with | [_], _ => rfl
/-! ### making an exception of an own class, over any of the builtin ones -/
/-- by which __new__ an own class is made, and what its mro must tell -/
structure NewBy (bm : List Value) (nB newId : String) : Prop where
  f : ∃ i l, ExcBaseFacts nB newId i l
  b : bm.contains (.type nB) = true
  a : bm.contains (.type "AttributeError") = false
  n : bm.contains (.type "NameError") = false
section
variable {M : Model} {A : Around} {E : Value → Shared → Prop} {h : Heap} {g : Array GenState} {d : Drawn} {t : Nat} {os : OsState}
variable {nm q : Str} {C N : Addr} {bs bm : List Value} {hdct : Bool} {sn : List Str} {sub : List Value} {ab : Bool} {col : Option Bool} {dd : Option Addr} {k0 k1 k2 k3 k5 : Option Value} {nB newId iB initId : String}
theorem new_checked (Y : NewBy bm nB newId) {rest : List Value} {Q : Unit → Shared → Prop} (o : h.get? C = some (excClassObj nm q C N bs bm hdct sn sub ab col dd k0 k1 k2 k3 k5 newId))
    (k : Q () ⟨h, g, d, t, os⟩) : wpAny M A (checkBuiltinCall newId ⟨.ref C :: rest, []⟩) Q E ⟨h, g, d, t, os⟩ := by
  obtain ⟨⟨i, l, F⟩, yb, _, _⟩ := Y
  have own : (Value.ref C :: bm).contains (.type nB) = true := by
    rw [List.contains_cons, yb]
    exact Bool.or_true _
  have star := F.noStar
  simp only [F.newRow, F.newSplit, F.newKind, checkBuiltinCall]
  repeat (first
    | refine wpAny_loadPart_at o ?_
    | (refine wpAny_isSubtype_exc o ?_; rw [own])
    | refine wpAny_staticBase_exc o ?_
    | refine wpAny_madeBy_exc o ?_
    | simp only [Bool.false_eq_true, if_false, bne_self_eq_false]
    | wp_step)
  exact k
end
section
variable {prog : Program} {w : World} {A : Around} {E : Value → Shared → Prop} {R : Result → Shared → Prop} {h : Heap} {g : Array GenState} {d : Drawn} {t : Nat} {os : OsState}
variable {nm q : Str} {C N : Addr} {bs bm : List Value} {hdct : Bool} {sn : List Str} {sub : List Value} {ab : Bool} {col : Option Bool} {dd : Option Addr} {k0 k1 k2 k3 k5 : Option Value} {nB newId iB initId : String}
/-- the new object, its args aside -/
abbrev bare (C t : Addr) : Obj := { cls := .ref C, data := .fields #[.ref t, .none, .none, .none, .bool false, .none] }
theorem new_made (Y : NewBy bm nB newId) {rest : List Value} (o : h.get? C = some (excClassObj nm q C N bs bm hdct sn sub ab col dd k0 k1 k2 k3 k5 newId))
    (k : R (.ok (.ret (.ref (h.objs.size + 1)))) ⟨(h.push (PySem.W.kdv_tup rest)).push (bare C h.objs.size), g, d, t, os⟩) (few : rest.length ≤ sizeLine) :
    codeAny (model prog w) A (.builtin newId ⟨.ref C :: rest, []⟩) R ⟨h, g, d, t, os⟩ := by
  obtain ⟨⟨i, l, F⟩, yb, ya, yn⟩ := Y
  have e1 := F.ends
  have m1 : (Value.ref C :: bm).contains (.type nB) = true := by
    rw [List.contains_cons, yb]
    exact Bool.or_true _
  have m2 : (Value.ref C :: bm).contains (.type "AttributeError") = false := by
    rw [List.contains_cons, ya]
    rfl
  have m3 : (Value.ref C :: bm).contains (.type "NameError") = false := by
    rw [List.contains_cons, yn]
    rfl
  refine codeAny_builtinAt F.entry ?_
  unfold Builtin.«BaseException.__new__»
  refine PySem.wpAt_bind ?_
  show PySem.wpAt _ _ _ (stack >>= _) _ _ _
  refine PySem.wpAt_bind (PySem.wpAt_stack fun p1 p2 => PySem.wpAt_of_wpAny ?_)
  wp_walk
  refine PySem.wpAt_of_wpAny ?_
  rw [F.owner]
  repeat (first
    | with_reducible refine wpAny_madeHere_exc F.canon o ?_
    | with_reducible refine wpAny_loadPart_at o ?_
    | (with_reducible refine wpAny_isSubtype_exc o ?_; first | rw [m1] | rw [m2] | rw [m3])
    | wp_step)
  show R _ _
  rw [Heap.size_push]
  exact k
theorem type_made (Y : NewBy bm nB newId) {rest : List Value} {fI : Addr} {Q : Fin → Shared → Prop} (o : h.get? C = some (excClassObj nm q C N bs bm hdct sn sub ab col dd k0 k1 k2 k3 k5 newId))
    (hi : PySem.W.Looks (model prog w) h (typeLookup (.ref C) "__init__") (some (.ref fI))) (hb : ∀ x, PySem.W.Looks (model prog w) h (bindSpecial (.ref fI) x) (.ref fI, [x])) (few : rest.length ≤ sizeLine)
    (k : codeAny (model prog w) A (.call (.ref fI) ⟨.ref (h.objs.size + 1) :: rest, []⟩) (fun r s' => match r with | .ok (.ret v) => v = .none ∧ Q (.done (.ret (.ref (h.objs.size + 1)))) s' | .ok _ => False | .error e => E e s')
      ⟨(h.push (PySem.W.kdv_tup rest)).push (bare C h.objs.size), g, d, t, os⟩) :
    wpAny (model prog w) A (Builtin.«type.__call__» ⟨.ref C :: rest, []⟩) Q E ⟨h, g, d, t, os⟩ := by
  obtain ⟨i, l, F⟩ := Y.f
  repeat (first
    | with_reducible refine wpAny_loadPart_at o ?_
    | with_reducible refine wpAny_madeBy_exc o ?_
    | wp_step)
  refine codeAny_call_builtin_code (Code.quiet_builtin _ F.quiet) (new_checked Y o ?_)
  refine new_made Y o ?_ few
  show wpAny _ _ _ _ _ _
  have up : ∀ b u, h.get? b = some u → ((h.push (PySem.W.kdv_tup rest)).push (bare C h.objs.size)).get? b = some u := fun b u e => Heap.get?_push_of_some _ (Heap.get?_push_of_some _ e)
  have o2 := up _ _ o
  have at2 : ((h.push (PySem.W.kdv_tup rest)).push (bare C h.objs.size)).get? (h.objs.size + 1) = some (bare C h.objs.size) := by heap_get
  have self : (Value.ref C :: bm).contains (.ref C) = true := by simp
  have i2 := hi.keeps up
  have b2 := (hb (.ref (h.objs.size + 1))).keeps up
  unfold isInstance
  repeat (first
    | with_reducible refine wpAny_loadPart_at at2 ?_
    | (with_reducible refine wpAny_isSubtype_exc o2 ?_; rw [self])
    | wp_step)
  show wpAny _ _ (typeLookup (.ref C) _) _ _ _
  refine i2.at ?_
  refine wpAny_holding (wpAny_bind (b2.at ?_))
  refine wpAny_bind (wpAny_call (codeAny_mono k fun r s2 z => ?_))
  rcases r with e | (v | _ | _ | _)
  all_goals first
    | exact z
    | exact z.elim
    | skip
  obtain ⟨rfl, z⟩ := z
  first
    | exact wpAny_pure (wpAny_pure z)
    | (wp_walk; done)
    | (wp_walk; exact z)
theorem call_made (Y : NewBy bm nB newId) {rest : List Value} {fI : Addr} (o : h.get? C = some (excClassObj nm q C N bs bm hdct sn sub ab col dd k0 k1 k2 k3 k5 newId))
    (hi : PySem.W.Looks (model prog w) h (typeLookup (.ref C) "__init__") (some (.ref fI))) (hb : ∀ x, PySem.W.Looks (model prog w) h (bindSpecial (.ref fI) x) (.ref fI, [x])) (few : rest.length ≤ sizeLine)
    (k : codeAny (model prog w) (A.under (.builtin "type.__call__" ⟨.ref C :: rest, []⟩)) (.call (.ref fI) ⟨.ref (h.objs.size + 1) :: rest, []⟩) (PySem.W.InitBack (h.objs.size + 1) R)
      ⟨(h.push (PySem.W.kdv_tup rest)).push (bare C h.objs.size), g, d, t, os⟩) :
    codeAny (model prog w) A (.call (.ref C) ⟨rest, []⟩) R ⟨h, g, d, t, os⟩ := by
  have t1 := tc_lookup
  have t2 := tc_bind (.ref C)
  have ty : (⟨h, g, d, t, os⟩ : Shared).TypeIs (.ref C) "type" := ⟨_, o, rfl⟩
  refine codeAny_of_tree ?_
  show wpAny _ _ (callAny (.ref C) _) _ _ _
  repeat (any_goals (first
    | assumption
    | with_reducible refine wpAny_loadPart_at o ?_
    | wp_step))
  refine ⟨rfl, ?_⟩
  refine codeAny_call_builtin_at (Code.quiet_builtin _ (by decide +kernel)) entry_typeCall (wpAny_check_type_call_sub o (type_made Y o hi hb few ?_))
  refine codeAny_mono k fun r s2 z => ?_
  rcases r with e | (v | _ | _ | _)
  all_goals exact z
end

/-! ### the builtin __init__ that an own one calls -/
structure InitBy (bm : List Value) (iB initId : String) : Prop where
  c : ∃ n, ExcClass iB n initId
  b : bm.contains (.type iB) = true
section
variable {prog : Program} {w : World} {A : Around} {E : Value → Shared → Prop} {R : Result → Shared → Prop} {h : Heap} {g : Array GenState} {d : Drawn} {t : Nat} {os : OsState}
variable {nm q : Str} {C N : Addr} {bs bm : List Value} {hdct : Bool} {sn : List Str} {sub : List Value} {ab : Bool} {col : Option Bool} {dd : Option Addr} {k0 k1 k2 k3 k5 : Option Value} {newId iB initId : String}
theorem init_checked {M : Model} (Y : InitBy bm iB initId) {e : Addr} {oe : Obj} {rest : List Value} {Q : Unit → Shared → Prop} (o : h.get? C = some (excClassObj nm q C N bs bm hdct sn sub ab col dd k0 k1 k2 k3 k5 newId)) (he : h.get? e = some oe) (hc : oe.cls = .ref C)
    (k : Q () ⟨h, g, d, t, os⟩) : wpAny M A (checkBuiltinCall initId ⟨.ref e :: rest, []⟩) Q E ⟨h, g, d, t, os⟩ := by
  obtain ⟨⟨n, F⟩, yb⟩ := Y
  have own : (Value.ref C :: bm).contains (.type iB) = true := by
    rw [List.contains_cons, yb]
    exact Bool.or_true _
  have star := F.notStar
  simp only [F.initSig, F.initSplit, F.initKind, checkBuiltinCall]
  repeat (first
    | (with_reducible refine wpAny_loadPart_at he ?_; rw [hc])
    | with_reducible refine wpAny_loadPart_at o ?_
    | (with_reducible refine wpAny_isSubtype_exc o ?_; rw [own])
    | wp_step)
  refine wpAny_onRaise ?_
  rw [show ∀ (x y : String) (n : Nat), Bind.check ⟨.positional, "*", iB, .self, [⟨"args", .varPos, false⟩]⟩ x y n (List.map (fun z => z.fst) ({ pos := Value.ref e :: rest } : Args).kw) = pure () from
    fun x y n => check_star_args _ _ _ _ _ _]
  exact wpAny_pure k
theorem init_done (Y : InitBy bm iB initId) {e t0 : Addr} {rest : List Value} (o : h.get? C = some (excClassObj nm q C N bs bm hdct sn sub ab col dd k0 k1 k2 k3 k5 newId)) (he : h.get? e = some (bare C t0)) (few : rest.length ≤ sizeLine)
    (k : ∀ h2 t1, (∀ b u, b ≠ e → h.get? b = some u → h2.get? b = some u) → h2.get? e = some (bare C t1) → R (.ok (.ret .none)) ⟨h2, g, d, t, os⟩) :
    codeAny (model prog w) A (.call (.builtin initId) ⟨.ref e :: rest, []⟩) R ⟨h, g, d, t, os⟩ := by
  obtain ⟨n, F⟩ := Y.c
  refine codeAny_call_builtin F.init.plain F.initEntry (init_checked Y o he rfl ?_)
  wp_walk
  refine k _ h.objs.size (fun b u hb hu => ?_) ?_
  · rw [Heap.get?_update_other _ _ (Ne.symm hb)]
    exact Heap.get?_push_of_some _ hu
  · rw [Heap.get?_update_self _ (Heap.get?_push_of_some _ he) rfl]
    rfl
end
/-! ### an own class, as the written part tells it -/
structure OwnC (K : PySem.W.Frag) (C : Addr) (B newId initId : String) (bm : List Value) : Prop where
  cls : ∃ nm q N bs sn sub ab col dd k0 k1 k2 k3 k5, K.lookup C = some (excClassObj nm q C N bs bm true sn sub ab col dd k0 k1 k2 k3 k5 newId)
  new : ∃ nB, NewBy bm nB newId
  ini : InitBy bm B initId
  sto : ∃ S, StoreFacts S bm "object.__setattr__" "object"
  sa : PySem.W.findIn K (.ref C) "__setattr__" = some (some (.builtin "object.__setattr__"))
  tl : PySem.W.excTail bm bm = true
  ob : bm.contains (.type "object") = true
  exC : PySem.W.subIn K (.ref C) (.type "BaseException") = some true
  tyC : PySem.W.typeIn K (.ref C) = some (.type "type")
  kC : PySem.W.keepIn K (.ref C) = true
section
variable {X : Cx} {pins : List (Addr × Obj)} {σ : L2.St} {H : Hp} {s : Shared} {a C dx : Addr} {f : Str} {y : V} {u : Value} {fs : List (Str × V)} {A : Around} {B newId initId : String} {bm : List Value}
/-- B.__init__(self, ..) tells nothing -/
theorem own_init {us : List Value} {E : Value → Shared → Prop} {Q : Value → Shared → Prop} (T : OwnC X.K C B newId initId bm) (I : Inv X pins σ H s) (e : H a = some (exo a C none)) (few : us.length ≤ sizeLine) (k : ∀ s', Inv X pins σ H s' → Q .none s') :
    wpAny (model X.prog X.w) A (call (.builtin initId) (.ref a :: us)) Q E s := by
  obtain ⟨nm, q, N, bs, sn, sub, ab, col, dd, k0, k1, k2, k3, k5, o⟩ := T.cls
  obtain ⟨t1, at1⟩ := exo_at I.hok e
  obtain ⟨hp, g, d, t, os⟩ := s
  refine wpAny_call (init_done T.ini (I.kIn _ _ o) at1 few fun h2 t2 stay at2 => ?_)
  have J := I.write (t' := t) (x := a) (e := a) (o := exo a C none) (by rw [e]; exact True.intro) (.inl rfl) stay ⟨_, at2⟩ (exo_ok at2)
  have same : upd H a (exo a C none) = H := funext fun b => by
    by_cases hb : b = a
    · subst hb
      rw [upd_same, e]
    · rw [upd_ne hb]
  rw [same] at J
  exact k _ J
end
def tOwnI (K : PySem.W.Frag) (B newId initId : String) (bm : List Value) (ta : TA) : TE := fun σ H Q => ta σ H fun vs H1 => ∃ (a C : Addr) (ws : List V), vs = .ref a :: ws ∧ ws.length ≤ 1000 ∧ OwnC K C B newId initId bm ∧ H1 a = some (exo a C none) ∧ Q .non H1
section
variable {X : Cx} {o e : Expr} {es : List Expr} {to te : TE} {ta : TA} {f : Str} {p p' p1 p2 pos : Pos} {B newId initId : String} {bm : List Value}
/-- B.__init__(self, ..), B builtin -/
theorem pe_ownInit {x : Str} {pl : Sem Bool} (hg : Gl X x) (hm : X.mg x = none) (hb : bootBuiltins x = some (.type B)) (ty : typeOf (.type B) = pure (.type "type")) (st : Manifest.isStub B = false)
    (vV : PySem.W.findCls X.K (.type B) (.type "type") "__init__" = some (.val (.builtin initId))) (kb : PySem.W.handedIn (.builtin initId) = true) (ha : PA X (e :: es) ta) (n1 : x ≠ "__name__" := by decide) (n2 : (x == ("__debug__" : Str)) = false := by decide)
    (hc : eval (.Call (.Attribute (.Name x p1) "__init__" p2) (e :: es) [] pos) X.env = (do
      let ov ← eval (.Name x p1) X.env
      standAt p2.atName
      let (f, first) ← holding [ov] (getMethod ov "__init__" pl)
      callWith pos f first (backTo pos (starEach (e :: es) X.env)) (backToKw pos (keywordEach [] X.env))) := by rfl)
    (he : starEach (e :: es) X.env = (false, eval e X.env) :: starEach es X.env := by rfl) (hpl : (backTo pos (starEach es X.env)).any (·.1) = false := by rfl) :
    PE X (.Call (.Attribute (.Name x p1) "__init__" p2) (e :: es) [] pos) (tOwnI X.K B newId initId bm ta) := by
  refine ⟨fun pins s σ H Q I h => ?_⟩
  refine PySem.W.methodCall_KW (ld_blt I hg hm hb ?_ n1 n2) hc
  obtain ⟨m, fr⟩ := I.fr
  refine PySem.W.method_type fr I.ok.mod.kin ty st vV kb ?_
  show wpAny _ _ (callWith pos (Value.builtin initId) [] (backTo pos (starEach (e :: es) X.env)) []) _ _ _
  refine PyProof.Rows.callWith_method1 (thn (ha.run pos pins _ σ H _ (I.tok _) h) fun us s1 ⟨vs, H1, I1, r1, a, C, ws, ev, few, T, ea, k⟩ => ?_) he hpl
  subst ev
  cases r1 with
  | @cons _ u0 _ ur ra rw' =>
    obtain rfl : u0 = Value.ref a := ra
    have fit : ur.length ≤ sizeLine := by
      rw [← Paired.length rw', sizeLine_eq]
      omega
    exact own_init T I1 ea fit fun s2 J => ⟨.non, H1, J, rfl, k⟩
/-- C(e, ..) as a value: a new exception -/
def tOwnV (C : Addr) (sp : Sp) (ta : TA) : TE := fun σ H Q => ta σ H fun vs H1 => vs.length ≤ 1000 ∧ ∀ a, H1 a = none → sp (.ref a :: vs) (upd H1 a (exo a C none)) (fun v H2 => v = .non ∧ Q (.ref a) H2) (fun _ _ _ => False)
theorem own_call {CX : CXT} {C fI : Addr} {k : Nat} {fd : FuncData} {ps : List Str} {sp : Sp} (T : OwnC X.K C B newId initId bm) (iC : PySem.W.findIn X.K (.ref C) "__init__" = some (some (.ref fI))) (tI : PySem.W.typeIn X.K (.ref fI) = some (.type "function"))
    (F1 : FnOk X.prog X.w X.K X.mg X.base CX k fI fd ps sp) (hr : Room (k + 1) X.A) (hb : Binds X.K fd ps []) (hx : Passes CX X (fun _ _ _ => False)) {pins : List (Addr × Obj)} {σ : L2.St} {H : Hp} {s : Shared} {Q : VK} {us : List Value} {vs : List V}
    (I : Inv X pins σ H s) (r : Vals vs us) (few : vs.length ≤ 1000) (h : ∀ a, H a = none → sp (.ref a :: vs) (upd H a (exo a C none)) (fun v H2 => v = .non ∧ Q (.ref a) H2) (fun _ _ _ => False)) :
    wpAny (model X.prog X.w) X.A (call (.ref C) us) (EP X pins σ Q) X.xe s := by
  obtain ⟨nm, q, N, bs, sn, sub, ab, col, dd, k0, k1, k2, k3, k5, o⟩ := T.cls
  obtain ⟨nB, Y⟩ := T.new
  obtain ⟨hp, g, dr, tk, os⟩ := s
  have lt : hp.objs.size ≤ hp.objs.size + 1 := Nat.le_succ _
  have no : H (hp.objs.size + 1) = none := I.hok.fresh lt
  have hq := h (hp.objs.size + 1) no
  have up : ∀ b u, hp.get? b = some u → ((hp.push (PySem.W.kdv_tup us)).push (bare C hp.objs.size)).get? b = some u := fun b u e => Heap.get?_push_of_some _ (Heap.get?_push_of_some _ e)
  have at2 : ((hp.push (PySem.W.kdv_tup us)).push (bare C hp.objs.size)).get? (hp.objs.size + 1) = some (bare C hp.objs.size) := by heap_get
  have I2 : Inv X pins σ (upd H (hp.objs.size + 1) (exo (hp.objs.size + 1) C none)) ⟨(hp.push (PySem.W.kdv_tup us)).push (bare C hp.objs.size), g, dr, tk, os⟩ :=
    I.laid (t' := tk) (a := hp.objs.size + 1) (o := exo (hp.objs.size + 1) C none) (h' := (hp.push (PySem.W.kdv_tup us)).push (bare C hp.objs.size)) up lt (exo_ok at2)
  have r2 : Vals (V.ref (hp.objs.size + 1) :: vs) (Value.ref (hp.objs.size + 1) :: us) := .cons rfl r
  have hl : (Value.ref (hp.objs.size + 1) :: us).length = ps.length := by
    rw [← r2.length]
    exact F1.len _ _ _ _ hq
  have fit : us.length ≤ sizeLine := by
    rw [← Paired.length r, sizeLine_eq]
    omega
  have hbd := hb ⟨(hp.push (PySem.W.kdv_tup us)).push (bare C hp.objs.size), g, dr, tk, os⟩ (Value.ref (hp.objs.size + 1) :: us) I2.kIn (by rw [List.append_nil]; exact hl)
  rw [List.append_nil] at hbd
  refine wpAny_call (call_made Y (I.kIn _ _ o) (PySem.W.looks_findIn I.kIn iC) (fun x => PySem.W.bind_fn I.kIn x tI) fit
    (codeAny_mono (F1.run _ X.stack _ _ ⟨Value.ref (hp.objs.size + 1) :: us, []⟩ (Value.ref (hp.objs.size + 1) :: us) _ _ (fun _ _ _ => False) (hr.make C us []) (I2.env0.make C us []) hbd r2 hq) fun r s2 z => ?_))
  cases r with
  | error er => exact hx pins σ _ _ er s2 I2 z
  | ok fl =>
    cases fl with
    | ret u =>
      obtain ⟨v, H2, J, rv, ev, k⟩ := I2.after z
      subst ev
      exact ⟨rv, .ref (hp.objs.size + 1), H2, J, rfl, k⟩
    | next => exact False.elim z
    | brk => exact False.elim z
    | cont => exact False.elim z
theorem pe_own {CX : CXT} {x : Str} {C fI : Addr} {k : Nat} {fd : FuncData} {ps : List Str} {sp : Sp} (T : OwnC X.K C B newId initId bm) (iC : PySem.W.findIn X.K (.ref C) "__init__" = some (some (.ref fI))) (tI : PySem.W.typeIn X.K (.ref fI) = some (.type "function"))
    (F1 : FnOk X.prog X.w X.K X.mg X.base CX k fI fd ps sp) (hr : Room (k + 1) X.A) (hb : Binds X.K fd ps []) (hx : Passes CX X (fun _ _ _ => False)) (hg : Gl X x) (hm : X.mg x = some (.ref C)) (ha : PA X (e :: es) ta)
    (hdb : (x == ("__debug__" : Str)) = false := by decide) (he : starEach (e :: es) X.env = (false, eval e X.env) :: starEach es X.env := by rfl) (hpl : (backTo pos (starEach es X.env)).any (·.1) = false := by rfl) :
    PE X (.Call (.Name x p) (e :: es) [] pos) (tOwnV C sp ta) := by
  refine ⟨fun pins s σ H Q I h => ?_⟩
  refine wpAny_Call_Name_kw (ld_glob I hg hm ?_ hdb)
  refine PySem.W.callWith_K (h₀ := X.base) I.ok.mod.kin T.kC (thn (ha.run pos pins s σ H _ I h) fun us s1 ⟨vs, H1, I1, r1, hz, q1⟩ => ⟨I1.kIn, ?_⟩) he hpl
  exact own_call T iC tI F1 hr hb hx I1 r1 hz q1
theorem pe_own0 {CX : CXT} {x : Str} {C fI : Addr} {k : Nat} {fd : FuncData} {ps : List Str} {sp : Sp} (T : OwnC X.K C B newId initId bm) (iC : PySem.W.findIn X.K (.ref C) "__init__" = some (some (.ref fI))) (tI : PySem.W.typeIn X.K (.ref fI) = some (.type "function"))
    (F1 : FnOk X.prog X.w X.K X.mg X.base CX k fI fd ps sp) (hr : Room (k + 1) X.A) (hb : Binds X.K fd ps []) (hx : Passes CX X (fun _ _ _ => False)) (hg : Gl X x) (hm : X.mg x = some (.ref C)) (hdb : (x == ("__debug__" : Str)) = false := by decide) :
    PE X (.Call (.Name x p) [] [] pos) (tOwnV C sp tNil) := by
  refine ⟨fun pins s σ H Q I h => ?_⟩
  refine wpAny_Call_Name_kw (ld_glob I hg hm ?_ hdb)
  exact PySem.W.callWith_K0 I.kIn T.kC (own_call (us := []) T iC tI F1 hr hb hx I .nil h.1 h.2)
end

/-! ### self.f = e on such -/
section
open PySem.Builtin PySem.Builtin.ObjectAttr
variable {prog : Program} {w : World} {A : Around} {R : Result → Shared → Prop} {hp : Heap} {g : Array GenState} {d : Drawn} {t : Nat} {os : OsState} {K : PySem.W.Frag} {C x dx : Addr} {B newId initId : String} {bm : List Value} {name : Str} {tk : Tok} {v : Value} {fv : Array Value}
theorem OwnC.clsIn (T : OwnC K C B newId initId bm) : ∃ cd : ClassData, PySem.W.clsIn K C = some cd ∧ cd.mro = .ref C :: bm ∧ cd.hasDict = true := by
  obtain ⟨nm, q, N, bs, sn, sub, ab, col, dd, k0, k1, k2, k3, k5, o⟩ := T.cls
  refine ⟨{ name := nm, bases := bs, mro := .ref C :: bm, ns := N, qualname := q, hasDict := true, slotNames := sn, subclasses := sub, abstract := ab, collection := col, hasDel := false }, ?_, rfl, rfl⟩
  unfold PySem.W.clsIn
  rw [o] <;> rfl
theorem OwnC.over (T : OwnC K C B newId initId bm) : PySem.W.excOver K C bm = true := by
  obtain ⟨cd, hc, hm, _⟩ := T.clsIn
  unfold PySem.W.excOver
  rw [hc]
  show (match cd.mro with | .ref C' :: l => C' == C && PySem.W.excTail bm l | _ => false) = true
  rw [hm]
  show (C == C && PySem.W.excTail bm bm) = true
  rw [T.tl, Bool.and_true]
  exact beq_self_eq_true C
theorem taker_none (h : PySem.W.findIn K (.ref C) name = some none) : PySem.W.takerIn K C name = some none := by
  unfold PySem.W.takerIn
  rw [h]
  rfl
theorem own_sa0 (T : OwnC K C B newId initId bm) (X : K.In hp) (hx : hp.get? x = some { cls := .ref C, data := .fields fv }) (no : PySem.W.findIn K (.ref C) name = some none)
    (k : ∀ h2 t2 dx, (∀ b u, b ≠ x → hp.get? b = some u → h2.get? b = some u) → hp.objs.size ≤ dx → dx ≠ x → h2.get? x = some { cls := .ref C, dict := some dx, data := .fields fv } →
      h2.Ns1 dx (fun y => if y = name then some v else none) → R (.ok (.ret .none)) ⟨h2, g, d, t2, os⟩) :
    codeAny (model prog w) A (.call (.builtin "object.__setattr__") ⟨[.ref x, .str name tk, v], []⟩) R ⟨hp, g, d, t, os⟩ := by
  obtain ⟨S, SF⟩ := T.sto
  obtain ⟨cd, hc, hm, hh⟩ := T.clsIn
  have far : x ≠ hp.objs.size := Nat.ne_of_lt (Heap.lt_size hx)
  have lk : PySem.W.Looks (model prog w) hp (classData C) cd := PySem.W.looks_clsIn X hc
  refine PySem.W.osa_openX (s := ⟨hp, g, d, t, os⟩) (ox := { cls := .ref C, data := .fields fv }) (od := none) SF X ⟨hx, rfl, rfl, trivial⟩ T.over (taker_none no) fun b => ?_
  show wpAny _ _ (storeInOwnDict (.ref x) (.ref C) (.str name tk) name v b) _ _ _
  obtain ⟨c1, c2, c3, c4, c5, hd, c7, c8, c9, c10, c11⟩ := cd
  dsimp only at hh
  subst hh
  unfold storeInOwnDict ownDictForStores
  repeat (first
    | with_reducible refine PySem.HandSPX.store_in_new ?_ ?_
    | with_reducible refine wpAny_loadPart_at hx ?_
    | with_reducible refine lk.at ?_
    | wp_step)
  · exact ⟨_, #[], _, (Heap.get?_update_ne _ _ _ _ far.symm).trans (Heap.get?_push_at rfl rfl), rfl, fun e he => absurd he (by simp), fun _ => rfl⟩
  · intro h2 t2 hn hs
    have hx1 : (hp.push { cls := .type "dict", data := .dict #[] }).get? x = some { cls := .ref C, data := .fields fv } := Heap.get?_push_of_some _ hx
    refine k h2 t2 hp.objs.size (fun b u hb hu => ?_) (Nat.le_refl _) far.symm ?_ hn
    · exact (hs.2 b (Nat.ne_of_lt (Heap.lt_size hu))).trans ((Heap.get?_update_ne _ _ _ _ hb).trans (Heap.get?_push_of_some _ hu))
    · exact (hs.2 x far).trans (Heap.get?_update_self _ hx1 rfl)
theorem own_sa1 {m0 : Str → Option Value} {nl : List Str} (T : OwnC K C B newId initId bm) (X : K.In hp) (hx : hp.get? x = some { cls := .ref C, dict := some dx, data := .fields fv }) (hns : hp.Ns1 dx m0) (hw : Within m0 nl) (hz : nl.length ≤ 1000)
    (no : PySem.W.findIn K (.ref C) name = some none)
    (k : ∀ h2 t2, (∀ b u, b ≠ dx → hp.get? b = some u → h2.get? b = some u) → h2.Ns1 dx (fun y => if y = name then some v else m0 y) → R (.ok (.ret .none)) ⟨h2, g, d, t2, os⟩) :
    codeAny (model prog w) A (.call (.builtin "object.__setattr__") ⟨[.ref x, .str name tk, v], []⟩) R ⟨hp, g, d, t, os⟩ := by
  obtain ⟨S, SF⟩ := T.sto
  obtain ⟨cd, hc, hm, hh⟩ := T.clsIn
  obtain ⟨oD, _, _, hoD, _, _⟩ := hns.count hw
  have lk : PySem.W.Looks (model prog w) hp (classData C) cd := PySem.W.looks_clsIn X hc
  refine PySem.W.osa_openX (s := ⟨hp, g, d, t, os⟩) (ox := { cls := .ref C, dict := some dx, data := .fields fv }) (od := some oD) SF X ⟨hx, rfl, rfl, hoD⟩ T.over (taker_none no) fun b => ?_
  show wpAny _ _ (storeInOwnDict (.ref x) (.ref C) (.str name tk) name v b) _ _ _
  obtain ⟨c1, c2, c3, c4, c5, hd, c7, c8, c9, c10, c11⟩ := cd
  dsimp only at hh
  subst hh
  unfold storeInOwnDict ownDictForStores
  repeat (first
    | with_reducible refine PySem.OEX.store_in_old hns hw hz ?_
    | with_reducible refine wpAny_loadPart_at hx ?_
    | with_reducible refine lk.at ?_
    | wp_step)
  intro h2 t2 hn hs
  exact k h2 t2 (fun b u hb hu => (hs.2 b hb).trans hu) hn
end
section
variable {X : Cx} {pins : List (Addr × Obj)} {σ : L2.St} {H : Hp} {s : Shared} {a C dx : Addr} {f : Str} {y : V} {u : Value} {fs : List (Str × V)} {Q : Unit → Shared → Prop} {E : Value → Shared → Prop} {A : Around} {B newId initId : String} {bm : List Value}
theorem own_st0 (T : OwnC X.K C B newId initId bm) (I : Inv X pins σ H s) (e : H a = some (exo a C none)) (no : PySem.W.findIn X.K (.ref C) f = some none) (ry : RelV y u)
    (k : ∀ dx s', H dx = none → dx ≠ a → Inv X pins σ (upd (upd H dx (exd dx [(f, y)])) a (exo a C (some dx))) s' → Q () s') : wpAny (model X.prog X.w) A (setAttr (.ref a) f u) Q E s := by
  obtain ⟨t1, ho⟩ := exo_at I.hok e
  obtain ⟨hp, g, d, t, os⟩ := s
  refine PySem.W.set_plain I.kIn (ox := { cls := .ref C, dict := none, data := .fields #[.ref t1, .none, .none, .none, .bool false, .none] }) (od := none) ⟨ho, rfl, rfl, trivial⟩ T.sa ?_
  refine own_sa0 T I.kIn ho no fun h2 t2 dx stay dn dne hx hn => ?_
  have nodx : H dx = none := I.hok.fresh dn
  have ndx : ∀ {b : Addr} {o : Obj}, hp.get? b = some o → b ≠ dx := fun {b o} z => Nat.ne_of_lt (Nat.lt_of_lt_of_le (Heap.lt_size z) dn)
  have na : ∀ {b : Addr}, H b = none → b ≠ a := fun {b} n z => by
    rw [z, e] at n
    cases n
  have un : Un X.fs [] H (upd (upd H dx (exd dx [(f, y)])) a (exo a C (some dx))) hp h2 := {
    keep := fun b o z n _ _ => stay b o (na n) z
    slot := fun b o z n _ _ => ⟨o.slots, stay b o (na n) z⟩
    free := fun b o z n _ => by
      rw [upd_ne (na n), upd_ne (ndx z)]
      exact n
    there := fun b o z _ => by
      by_cases hb : b = a
      · subst hb
        exact ⟨_, hx⟩
      · exact ⟨o, stay b o hb z⟩
    tups := fun b xs z => by
      rw [upd_ne (L2.at_ne e z exo_tup), upd_ne (ne_of_none z nodx)]
      exact z
    frzs := fun b o v z => by
      rw [upd_ne (L2.at_ne e z exo_frz), upd_ne (ne_of_none z nodx)]
      exact z
    tbls := fun b ps z => ⟨#[], by
      rw [upd_ne (L2.at_ne e z exo_tbl), upd_ne (ne_of_none z nodx), z]
      simp⟩ }
  refine k dx _ nodx dne (I.un (t' := t2) un fun b o z => ?_)
  by_cases hb : b = a
  · subst hb
    rw [upd_same] at z
    cases z
    exact exo_ok hx
  · rw [upd_ne hb] at z
    by_cases hd : b = dx
    · subst hd
      rw [upd_same] at z
      cases z
      exact exd_ok hn (relO_put (fs := []) ry fun g => True.intro)
    · rw [upd_ne hd] at z
      refine (I.hok b o z).stay (fun c v hc q => stay c v ?_ q) (fun c hc => ?_) fun c xs hc => ?_
      · rcases hc with hc | hc
        · subst hc
          exact hb
        · exact L2.at_ne e hc exo_own
      · rw [upd_ne (L2.at_ne e hc exo_own), upd_ne (ne_of_none hc nodx)]
        exact hc
      · rw [upd_ne (L2.at_ne e hc exo_tup), upd_ne (ne_of_none hc nodx)]
        exact hc
theorem own_st1 (T : OwnC X.K C B newId initId bm) (I : Inv X pins σ H s) (e : H a = some (exo a C (some dx))) (ed : H dx = some (exd dx fs)) (hl : fs.length ≤ 900) (no : PySem.W.findIn X.K (.ref C) f = some none) (ry : RelV y u)
    (k : ∀ s', Inv X pins σ (upd H dx (exd dx ((f, y) :: fs))) s' → Q () s') : wpAny (model X.prog X.w) A (setAttr (.ref a) f u) Q E s := by
  obtain ⟨t1, ho⟩ := exo_at I.hok e
  obtain ⟨mA, hns, rel⟩ := exd_at I.hok ed
  have hw := within_of rel
  obtain ⟨hp, g, d, t, os⟩ := s
  obtain ⟨oD, _, _, hoD, _, _⟩ := hns.count hw
  refine PySem.W.set_plain I.kIn (ox := { cls := .ref C, dict := some dx, data := .fields #[.ref t1, .none, .none, .none, .bool false, .none] }) (od := some oD) ⟨ho, rfl, rfl, hoD⟩ T.sa ?_
  refine own_sa1 T I.kIn ho hns hw (by rw [List.length_map]; omega) no fun h2 t2 stay hn => ?_
  have there : ∃ o, h2.get? dx = some o := by
    obtain ⟨o, _, _, z, _⟩ := id hn
    exact ⟨o, z⟩
  exact k _ (I.write (t' := t2) (x := dx) (e := dx) (o := exd dx ((f, y) :: fs)) (by rw [ed]; exact True.intro) (.inl rfl) stay there (exd_ok hn (relO_put ry rel)))
end
def tOwnS (K : PySem.W.Frag) (B newId initId : String) (bm : List Value) (f : Str) (to te : TE) : TS := fun D σ H => te σ H fun y H1 => to σ H1 fun x H2 => ∃ a C : Addr, x = .ref a ∧ OwnC K C B newId initId bm ∧ PySem.W.findIn K (.ref C) f = some none ∧
  ((H2 a = some (exo a C none) ∧ ∀ dx, H2 dx = none → dx ≠ a → D.nx σ (upd (upd H2 dx (exd dx [(f, y)])) a (exo a C (some dx)))) ∨
    ∃ (dx : Addr) (fs : List (Str × V)), H2 a = some (exo a C (some dx)) ∧ H2 dx = some (exd dx fs) ∧ fs.length ≤ 900 ∧ D.nx σ (upd H2 dx (exd dx ((f, y) :: fs))))
theorem ps_ownS {X : Cx} {o e : Expr} {to te : TE} {f : Str} {p' pos : Pos} {B newId initId : String} {bm : List Value} (ho : PE X o to) (he : PE X e te) (hs : swapsWith e (some (.Attribute o f p')) pos.line X.env = pure false := by rfl) :
    PS X (.Assign [.Attribute o f p'] e pos) (tOwnS X.K B newId initId bm f to te) := by
  refine ⟨fun pins s σ H D I h => ?_⟩
  refine plainObj_wpAny_Assign_Attribute (thn (he.run pins s σ H _ I h) fun v s1 ⟨y, H1, I1, r1, q1⟩ => thn (ho.run pins s1 σ H1 _ I1 q1) fun u s2 ⟨x, H2, I2, r2, a, C, ex, T, no, z⟩ => ?_) hs
  subst ex
  obtain rfl : u = Value.ref a := r2
  rcases z with ⟨ea, z⟩ | ⟨dx, fs, ea, ed, hl, z⟩
  · exact own_st0 T I2 ea no r1 fun dx s2 n ne J => ⟨σ, _, J, z dx n ne⟩
  · exact own_st1 T I2 ea ed hl no r1 fun s2 J => ⟨σ, _, J, z⟩

/-! ### isinstance of an exception that is held as a value -/
section
open PySem.W
variable {prog : Program} {w : World} {A : Around} {E : Value → Shared → Prop} {s : Shared} {K : Frag} {x D : Addr} {ox : Obj} {od : Option Obj}
theorem found_data {n : Str} {a g : Value} (hc : (clsIn K D).isSome = true) (h1 : findIn K (.ref D) n = some (some a)) (h2 : specialIn K a "__get__" = some (some g)) (h3 : takesIn K a = some true) :
    findObj K D od n = some (.bind g a) := by
  obtain ⟨cd, z⟩ := Option.isSome_iff_exists.mp hc
  unfold findObj
  rw [z, Option.bind_some, h1, Option.bind_some]
  simp [h2, h3]
theorem class_told {Q : Option Value → Shared → Prop} (T : ExcC K D) (X : K.In s.heap) (I : InstAt s.heap x ox D od) (k : Q (some (.ref D)) { s with toks := s.toks + 1 }) : wpAny (model prog w) A (getAttr? (.ref x) "__class__") Q E s := by
  have there : (clsIn K D).isSome = true := by
    obtain ⟨cd, z, _⟩ := any_some T.hd
    rw [z]
    rfl
  have fo : findObj K D od "__class__" = some (.bind (.builtin "getset_descriptor.__get__") (.builtin "object.__class__")) := found_data there T.ha T.hn T.ht
  obtain ⟨hp, g, d, t, os⟩ := s
  have l0 := I.type (M := model prog w)
  have l1 := looks_findIn (M := model prog w) X T.hg
  have l2 := looks_findIn (M := model prog w) X T.hk
  have l3 := looks_find (M := model prog w) X I fo
  have under : Looks (model prog w) hp (isInstance (.ref x) (.type "BaseException")) true := l0.andThen (looks_subIn X T.hs)
  have z0 : (false && onTheHeap (Value.builtin "BaseException.__getattribute__")) = false := rfl
  have z2 : (Value.builtin "BaseException.__getattribute__" == Value.builtin "object.__getattribute__") = false := by decide +kernel
  have z1 : (onTheHeap (Value.ref D) && Value.builtin "BaseException.__getattribute__" == Value.builtin "object.__getattribute__") = false := by
    rw [z2]
    rfl
  unfold getAttr?
  unfold getAttrBy?
  unfold getAttrBy
  refine wpAny_bind (wpAny_mkText (wpAny_bind (wpAny_attempt (wpAny_holding (wpAny_bind (l0.at (wpAny_bind (l1.at ?_))))))))
  show wpAny _ _ (if (onTheHeap (Value.ref D) && Value.builtin "BaseException.__getattribute__" == Value.builtin "object.__getattribute__") = true
    then _ else _) _ _ _
  rw [z1, if_neg Bool.false_ne_true]
  unfold getAttrByItsOwn
  unfold hookBefore
  refine wpAny_bind ?_
  rw [if_pos (show onTheHeap (Value.ref D) = true by rfl)]
  refine l2.at ?_
  refine wpAny_bind ?_
  refine wpAny_attempt (wpAny_holding ?_)
  unfold callGetattribute
  rw [z0, if_neg Bool.false_ne_true]
  unfold boundAndCalled
  rw [PySem.F.excAttr_ValueError.ga.bind (.ref x)]
  refine wpAny_bind ?_
  refine wpAny_pure ?_
  show wpAny (model prog w) _ (call (.builtin "BaseException.__getattribute__") [.ref x, .str "__class__" t]) _ _ _
  refine wpAny_call ?_
  refine codeAny_call_builtin PySem.F.excAttr_ValueError.ga.plain PySem.F.entry_bexc_ga ?_
  refine @check_slot (model prog w) _ _ ⟨hp, g, d, t + 1, os⟩ "BaseException.__getattribute__" "BaseException" "__getattribute__" (.ref x) [.str "__class__" t] [] _ (by decide +kernel) (by decide +kernel) under (PySem.F.args_bexc_ga (.ref x) (.str "__class__" t)) ?_
  unfold PySem.Builtin.«object.__getattribute__»
  refine wpAny_bind ?_
  refine wpAny_of_eq (a := ((Value.ref x : Value), [Value.str "__class__" t])) (by first | rfl | (simp only [PySem.Builtin.slotArgs]; done)) ?_
  refine wpAny_bind ?_
  refine wpAny_pure (wpAny_bind (l0.at (wpAny_bind (l3.at ?_))))
  show wpAny (model prog w) _ (holding [Value.builtin "object.__class__"] (call (.builtin "getset_descriptor.__get__") [.builtin "object.__class__", .ref x, .ref D]) >>= ret) _ _ _
  refine wpAny_bind ?_
  refine wpAny_holding (wpAny_call (class_get (s := ⟨hp, g, d, t + 1, os⟩) (ox := ox) (od := od) X I T.hm ?_))
  refine wpAny_pure ?_
  show wpAny (model prog w) _ (handedOut (.ref D)) _ _ _
  rw [handedOut_of (v := .ref D) rfl]
  first
    | exact wpAny_pure (wpAny_pure k)
    | exact wpAny_pure k
    | exact wpAny_pure (wpAny_bind (wpAny_pure (wpAny_pure k)))
theorem exo_kit (T : ExcC K D) : KitX K (.ref x) (.ref D) (fun h => InstAt h x ox D od) where
  ty := fun _ _ _ I => I.type
  it := fun M h X _ => by
    obtain ⟨cd, z, _⟩ := any_some T.hd
    unfold clsIn at z
    split at z
    · rename_i o
      intro _ _ _ s' k q
      unfold isType
      unfold loadHead
      exact wpAny_bind (wpAny_loadPart (k _ _ (X _ _ o)) (wpAny_pure q))
    · cases z
  ne := fun h tp _ _ _ _ X htp => by
    obtain ⟨cd, z, _⟩ := any_some T.hd
    refine Bool.eq_false_iff.mpr fun q => ?_
    have e : D = tp := Value.ref.inj (beq_iff_eq.mp q)
    subst e
    unfold clsIn at z
    split at z
    · rename_i o
      cases (X _ _ o).symm.trans htp
    · cases z
  ca := fun X I k => class_told T X I k
theorem kit_own {C C' : Addr} (T' : PySem.W.hasDictIn K C' = true) (ty : typeIn K (.ref C') = some (.type "type")) (ex : subIn K (.ref C) (.ref C') = some (decide (C = C'))) :
    kitOne K (.ref C) (.ref C') = some (decide (C = C')) := by
  unfold kitOne
  by_cases h : C = C'
  · subst h
    rw [if_pos (beq_self_eq_true _), decide_eq_true rfl]
  · rw [if_neg (fun z => h (Value.ref.inj (beq_iff_eq.mp z)))]
    unfold kitCls
    obtain ⟨cd, z, _⟩ := any_some T'
    have yes : ((clsIn K C').isSome && typeIn K (.ref C') == some (.type "type")) = true := by
      rw [z, ty]
      rfl
    show (if ((clsIn K C').isSome && typeIn K (.ref C') == some (.type "type")) = true then subIn K (.ref C) (.ref C') else none) = _
    rw [if_pos yes]
    exact ex
end
/-- isinstance(e, c), e an exception of an own class that is held as a value -/
def rIsO (K : PySem.W.Frag) : List V → Hp → VK → Prop := fun xs H Q => ∃ (a C : Addr) (d : Option Addr) (c : V) (cv : Value) (b : Bool), xs = [.ref a, c] ∧ ClsV c cv ∧ ExcC K C ∧ H a = some (exo a C d) ∧ (∀ dx, d = some dx → ∃ fs, H dx = some (exd dx fs)) ∧ PySem.W.kitOne K (.ref C) cv = some b ∧ Q (.bl b) H
theorem call_isO {X : Cx} : CallR X (.builtin "isinstance") (rIsO X.K) := by
  intro pins s σ H xs us Q I r h
  obtain ⟨a, C, d, c, cv, b, rfl, kc, T, ea, ed, e, q⟩ := h
  obtain ⟨u1, u2, rfl, r1, r2⟩ := vals2 r
  have e2 := kc.eq r2
  subst e2
  cases r1
  obtain ⟨t1, ho⟩ := exo_at I.hok ea
  have J : ∃ od, PySem.W.InstAt s.heap a { cls := .ref C, dict := d, data := .fields #[.ref t1, .none, .none, .none, .bool false, .none] } C od := by
    cases d with
    | none => exact ⟨none, ho, rfl, rfl, trivial⟩
    | some dx =>
      obtain ⟨fs, hd⟩ := ed dx rfl
      obtain ⟨mA, hns, rel⟩ := exd_at I.hok hd
      obtain ⟨oD, _, _, hoD, _, _⟩ := hns.count (within_of rel)
      exact ⟨some oD, ho, rfl, rfl, hoD⟩
  obtain ⟨od, J⟩ := J
  exact PySem.W.kia_one (exo_kit T) I.kIn J e (fun z => nomatch z) fun tk => ⟨.bl b, H, I.tok tk, rfl, q⟩
/-- e.f of such -/
def tOwnF (K : PySem.W.Frag) (f : Str) (te : TE) : TE := fun σ H Q => te σ H fun x H1 => ∃ (a C d : Addr) (fs : List (Str × V)) (v : V), x = .ref a ∧ XfC K C ∧ PySem.W.findIn K (.ref C) f = some none ∧ H1 a = some (exo a C (some d)) ∧ H1 d = some (exd d fs) ∧ fs.lookup f = some v ∧ Q v H1
theorem pe_ownF {X : Cx} {e : Expr} {te : TE} {pos : Pos} {n : Str} (he : PE X e te) (hb : attributeBase e n X.env (eval e X.env) = eval e X.env := by rfl) : PE X (.Attribute e n pos) (tOwnF X.K n te) := by
  refine ⟨fun pins s σ H Q I h => ?_⟩
  refine attr_of hb (thn (he.run pins s σ H _ I h) fun u s1 hh => ?_)
  obtain ⟨x, H1, I1, rx, a, C, d, fs, v, ex, T, no, ea, ed, l, q⟩ := hh
  subst ex
  obtain rfl : u = Value.ref a := rx
  obtain ⟨t1, ho⟩ := exo_at I1.hok ea
  obtain ⟨mA, hns, rel⟩ := exd_at I1.hok ed
  obtain ⟨od, hoD, hl⟩ := lookIn_ns hns
  obtain ⟨u, hu, ru⟩ := RelO.some_of (v := v) (o := mA n) (by rw [← l]; exact rel n)
  have J : PySem.W.InstAt s1.heap a { cls := .ref C, dict := some d, data := .fields #[.ref t1, .none, .none, .none, .bool false, .none] } C (some od) := ⟨ho, rfl, rfl, hoD⟩
  exact HandSPX.exc_get I1.kIn J T.ga T.gg T.exC (PySem.W.findObj_own T.hdC no rfl (by rw [hl, hu])) (handed_of ru) ⟨v, H1, I1.tok _, ru, q⟩

/-! ### the law's own def, run where the law is asked: nothing is being shown there -/
def RunAt (P : Program) (w : World) (K : PySem.W.Frag) (mg : Str → Option Value) (base : Heap) (f : Addr) (fd : FuncData) (ps : List Str) (sp : Sp) : Prop :=
  ∀ (s : Shared) (H : Hp) (us : List Value) (vs : List V) (Q : VK) (E : XK), Env0 P w K mg base callerA [] s H → BindsTo s fd ⟨us, []⟩ (ps.zip us) → Vals vs us → sp vs H Q E → codeAny (model P w) callerA (.call (.ref f) ⟨us, []⟩) (CR CX0 [] P w H s Q E) s
section
variable {P : Program} {w : World} {K : PySem.W.Frag} {mg : Str → Option Value} {base : Heap}
theorem run_at {x qual : Str} {st : Stmt} {f : Addr} {fd : FuncData} {N ps : List Str} {k : Nat} {sp : Sp} (F : Fun K x qual st f fd) (S : FnScope N ps (defScope st)) (room : Room (k + 1) callerA) (len : ∀ vs H Q E, sp vs H Q E → vs.length = ps.length)
    (body : ∀ (cdv : Value) (s : Shared) (H : Hp) (vs : List V) (Q : VK) (E : XK), Room k (callerA.deeper (envOfC qual (defScope st) s.heap.objs.size f cdv)) → sp vs H Q E →
      ∃ t, PSs (cxOf CX0 P w K mg base N qual (defScope st) f cdv callerA [] s H E).nox (defBody st) t ∧ t { nx := fun _ H' => Q .non H', rt := Q } (start N vs) H) : RunAt P w K mg base f fd ps sp := by
  obtain ⟨oc, od, kV, doc, pm, an, cdv, ct, osl, rfl, lk, hcd⟩ := F.ex
  intro s H us vs Q E e0 hb r hsp
  have few := len _ _ _ _ hsp
  have kin : K.In s.heap := e0.mod.kin.keeps fun b o z => (e0.bs b o z).1
  have lim : s.heap.NoLimit := e0.mod.nolimit.keeps fun b o z => (e0.bs b o z).1
  have kinds : ∀ z ∈ ps.zip us, (defScope st).names.lookup z.1 = some .local ∨ ((defScope st).names.lookup z.1 = some .cell ∧ ((cellsFrom (s.heap.objs.size + 1) (defScope st).names []).lookup z.1).isSome = true) := by
    rintro ⟨n, v⟩ hz
    rcases S.par n (List.of_mem_zip hz).1 with z | z
    · exact .inl z
    · exact .inr ⟨z, PySem.W.cellsFrom_some _ _ _ (.inl z)⟩
  refine codeAny_call_function room.depth (kin _ _ lk) rfl S.co S.gen rfl (PySem.W.codeRec_of kin hcd) (hb _ _ _ _ ?_)
  refine wpAny_newFunctionEnv_cells S.kind kinds fun env he s1 z => ?_
  subst he
  refine ⟨lim.keeps z.toInCall.keep, codeAny_func ?_⟩
  obtain ⟨t, ht, hq⟩ := body cdv s H vs Q E (room.deeper _) hsp
  have I : Inv (cxOf CX0 P w K mg base N qual (defScope st) f cdv callerA [] s H E) [] (start N vs) H s1 := inv_start S room.hd e0 few r z
  refine wpAny_mono (ht.nox.run [] s1 (start N vs) H _ I hq) (fun fl s2 hs => ?_) fun e s2 hs => hs
  cases fl with
  | ret u =>
    obtain ⟨v, σ2, H2, J, rv, q⟩ := hs
    exact ⟨v, H2, J.os, J.bare, J.base, J.hok, rv, q⟩
  | next =>
    obtain ⟨σ2, H2, J, q⟩ := hs
    exact ⟨.non, H2, J.os, J.bare, J.base, J.hok, rfl, q⟩
  | brk =>
    obtain ⟨_, _, _, q⟩ := hs
    exact q.elim
  | cont =>
    obtain ⟨_, _, _, q⟩ := hs
    exact q.elim
theorem law_at {mb : Str → Option Value} {fa p : Addr} {fd : FuncData} {x : Str} {sp : Sp} {s1 : Shared} {vs : List Value} {ns : List Int}
    (kin : K.In s1.heap) (hns : s1.heap.Ns mainGlobals mg) (hb : s1.heap.Ns builtinsNs mb) (hbb : ∀ y : Str, y ≠ "__name__" → mb y = bootBuiltins y) (hlim : s1.heap.NoLimit) (hg : s1.gens = #[])
    (hp : s1.heap.get? p = some { cls := .type "list", data := .seq vs.toArray }) (hi : IntsAre vs ns) (few : ns.length ≤ sizeLine)
    (F : ∀ base : Heap, K.In base → base.Ns mainGlobals mg → RunAt P w K mg base fa fd [x] sp) (binds : ∀ (s : Shared) (u : Value), BindsTo s fd ⟨[u], []⟩ [(x, u)])
    (hsp : ∀ H : Hp, Only H → SqL K H p (ns.map V.int) → sp [.ref p] H (fun v _ => v = .bl true) fun _ _ _ => False) :
    codeAny (model P w) callerA (.call (.ref fa) ⟨[.ref p], []⟩) (fun r s2 => r = .ok (.ret (.bool true)) ∧ OldK s1.heap s2.heap ∧ s2.os = s1.os ∧ AllBare s2.gens) s1 := by
  have rv := vals_ints hi
  have core : ∀ H : Hp, Only H → SqL K H p (ns.map V.int) → HOk P w H s1.heap → (∀ b, H b ≠ none → b = p) → (H p ≠ none → K.lookup p = none) →
      codeAny (model P w) callerA (.call (.ref fa) ⟨[.ref p], []⟩) (fun r s2 => r = .ok (.ret (.bool true)) ∧ OldK s1.heap s2.heap ∧ s2.os = s1.os ∧ AllBare s2.gens) s1 := by
    intro H only seq hok one hK
    have below : ∀ {b : Addr} {o : Obj}, s1.heap.get? b = some o → H b = none → (hidT s1.heap H).get? b = some o := fun e n => hidT_get e n
    have dicts : ∀ {b : Addr} {o : Obj} {es : Array DictEntry} {ep : Nat}, s1.heap.get? b = some o → o.data = .dict es ep → H b = none := by
      intro b o es ep e d
      cases q : H b with
      | none => rfl
      | some u =>
        obtain rfl : b = p := one b (by rw [q]; simp)
        rw [hp] at e
        cases e
        cases (show Data.seq vs.toArray _ = Data.dict es ep from d)
    have spaces : ∀ {b : Addr} {m : Str → Option Value}, s1.heap.Ns b m → (hidT s1.heap H).Ns b m := by
      rintro b m ⟨o, es, ep, e, d, r⟩
      exact ⟨o, es, ep, below e (dicts e d), d, r⟩
    have kin2 : K.In (hidT s1.heap H) := fun b o e => by
      refine below (kin b o e) ?_
      cases q : H b with
      | none => rfl
      | some u =>
        obtain rfl : b = p := one b (by rw [q]; simp)
        rw [hK (by rw [q]; simp)] at e
        cases e
    have mod : Mod K mg (hidT s1.heap H) := by
      obtain ⟨mc, c1, c2⟩ := hlim
      exact ⟨kin2, spaces hns, ⟨mb, spaces hb, hbb⟩, ⟨mc, spaces c1, c2⟩⟩
    have e0 : Env0 P w K mg (hidT s1.heap H) callerA [] s1 H :=
      ⟨rfl, mod, fun b o e => of_hidT e, Nat.le_of_eq (hidT_size _ _), trivial, fun b z => absurd (show b ∈ ([] : List Addr) from z) (by simp), hok, .of_eq hg⟩
    refine codeAny_mono (F _ kin2 (spaces hns) s1 H [.ref p] [.ref p] _ _ e0 (binds s1 (.ref p)) (.cons rfl .nil) (hsp H only seq)) fun r s2 h => ?_
    cases r with
    | error e => exact h.elim
    | ok fl =>
      cases fl with
      | next => exact h.elim
      | brk => exact h.elim
      | cont => exact h.elim
      | ret u =>
        obtain ⟨v, H2, os, bare, un, hok2, rel, q⟩ := h
        obtain rfl : v = .bl true := q
        obtain rfl : u = Value.bool true := rel
        refine ⟨rfl, OldK.of_keep fun b o e => ?_, os, bare⟩
        cases q : H b with
        | none => exact un.keep b o e q (fun z => absurd (show b ∈ ([] : List Addr) from z) (by simp)) (by simp)
        | some u =>
          rcases only b with z | ⟨ob, xs, z⟩
          · rw [q] at z
            cases z
          · obtain ⟨a1, _⟩ := hok b _ z
            obtain ⟨a2, _⟩ := hok2 b _ (un.frzs b ob _ z)
            rw [e] at a1
            cases a1
            exact a2
  cases hk : K.lookup p with
  | some o =>
    have e := kin p o hk
    rw [hp] at e
    cases e
    have lv := hi.length
    refine core (fun _ => none) (fun _ => .inl rfl) (.inr ⟨_, vs.toArray, _, hk, rfl, rfl, rfl, ?_, by simpa using rv⟩) (fun b u z => ?_) (fun b z => absurd rfl z) fun z => absurd rfl z
    · rw [List.size_toArray, lv]
      exact few
    · cases (show (none : Option HO) = some u from z)
  | none =>
    refine core (fun b => if b = p then some (.frz { cls := .type "list", data := .seq vs.toArray } (.lst (ns.map V.int))) else none) (fun b => ?_) (.inl (.inr ⟨{ cls := .type "list", data := .seq vs.toArray }, if_pos rfl⟩)) (fun b u z => ?_) (fun b z => ?_) fun _ => hk
    · by_cases hb : b = p
      · exact .inr ⟨_, _, if_pos hb⟩
      · exact .inl (if_neg hb)
    · by_cases hb : b = p
      · subst hb
        cases (if_pos rfl).symm.trans z
        refine ⟨hp, ?_, vs, _, rv, hp⟩
        rw [List.length_map]
        exact few
      · cases (if_neg hb).symm.trans z
    · by_cases hb : b = p
      · exact hb
      · exact absurd (if_neg hb) z
end
theorem walk_at {l : PySem.W.OpenLaw} {n : Nat} {q : Program} {loose : List Str} {XP : (Str → Option Value) → Heap → Prop} {YP : World → Heap → Prop} {d : DefRec} {K : Params → PySem.W.Frag} {sp : World → Sp} {x : Str}
    (hn : l.most = some n) (hn2 : n ≤ sizeLine) (hdf : d.params.defaults = []) (hY : ∀ (w : World) (h : Heap), YP w h → (K w.params).In h)
    (F : ∀ (w : World) (mg : Str → Option Value) (fa : Addr) (h : Heap), (K w.params).In h → h.Ns mainGlobals mg → mg d.name = some (.ref fa) →
      ∃ fd : FuncData, (∀ (s : Shared) (u : Value), BindsTo s fd ⟨[u], []⟩ [(x, u)]) ∧ ∀ base : Heap, (K w.params).In base → base.Ns mainGlobals mg → RunAt l.prog w (K w.params) mg base fa fd [x] (sp w))
    (hsp : ∀ (w : World) (H : Hp) (a : Addr) (ns : List Int), ns.length ≤ n → Only H → SqL (K w.params) H a (ns.map V.int) → sp w [.ref a] H (fun v _ => v = .bl true) fun _ _ _ => False) :
    PySem.W.WalkO q loose XP YP l.row.toRowW d [] (fun f vs => PySem.call f vs) := by
  refine Att.attach_call hn hdf fun w s0 s1 mg mb fa o pm cd doc a vs ns G Y ho hd hcd hmg hobj hints hlen hg => ?_
  obtain ⟨fd, hb, hF⟩ := F w mg fa _ (hY w _ Y) G.T.g hmg
  exact law_at (hY w _ Y) G.T.g G.T.b G.T.builtins G.T.nolimit hg hobj hints (Nat.le_trans hlen hn2) hF hb fun H only seq => hsp w H a ns hlen only seq

/-! ### repr of a list where nothing is being shown; None in an f-string -/
theorem call_reprD {X : Cx} (hg : X.A.guards = some []) (hu : X.A.units + 64 < cLine) : CallR X (.builtin "repr") (fun xs H Q => ∃ a d, xs = [.ref a] ∧ Dp X.K H (.ref a) d ∧ d.showable = true ∧ d.hasDict = false ∧ d.depth ≤ 60 ∧ d.shown.length ≤ sizeLine ∧ Q (.str d.shown) H) := by
  intro pins s σ H xs us Q I r h
  obtain ⟨a, d, rfl, hd, h1, h2, h3, h4, q⟩ := h
  obtain ⟨u, rfl, ru⟩ := vals1 r
  cases ru
  obtain ⟨as, rd⟩ := Dp.reads I d (.ref a) (.ref a) hd rfl
  exact repr_of_reads' (s := s) rd h1 (fun z => by rw [h2] at z; cases z) hg (by omega) (fun _ _ z => z) (fun h2 u tk k => ⟨.str d.shown, H, I.kept (t' := tk) k, ⟨_, rfl⟩, q⟩) h4
def fmtN (Q : VK) : VK := fun x H1 => (∃ y : Str, x = .str y ∧ y.length ≤ sizeLine ∧ Q (.str y) H1) ∨ (∃ i : Int, x = .int i ∧ i.natAbs.log2 < 1920 ∧ Q (.str (toString i)) H1) ∨ (x = .non ∧ Q (.str "None") H1)
def tFmtN (te : TE) : TE := fun σ H Q => te σ H (fmtN Q)
theorem pe_fmtN {X : Cx} {e : Expr} {te : TE} {pos : Pos} (he : PE X e te) : PE X (.FormattedValue e (-1) none pos) (tFmtN te) := by
  refine ⟨fun pins s σ H Q I h => ?_⟩
  refine wpAny_FormattedValue_plain (thn (he.run pins s σ H _ I h) fun v s1 z => ?_)
  obtain ⟨x, H1, I1, rx, q⟩ := z
  rcases q with ⟨y, rfl, hz, q⟩ | ⟨i, rfl, hz, q⟩ | ⟨rfl, q⟩
  · obtain ⟨t, rfl⟩ := rx
    exact wpAny_formatField_str ⟨.str y, H1, I1, ⟨t, rfl⟩, q⟩ ⟨.str y, H1, I1.tok _, ⟨_, rfl⟩, q⟩ hz
  · obtain ⟨t, rfl⟩ := rx
    exact wpAny_formatField_int hz ⟨.str (toString i), H1, I1.tok _, ⟨_, rfl⟩, q⟩
  · cases rx
    exact wpAny_formatField_none ⟨.str "None", H1, I1.tok _, ⟨_, rfl⟩, q⟩
/-! ### what a field may hold -/
/-- a whole number up to 10 ** 12, a short text, None -/
inductive Fld : V → Prop where
  | int (i : Int) (a : -999999999999 < i) (b : i < 999999999999) : Fld (.int i)
  | str (z : Str) (h : z.length ≤ 100) : Fld (.str z)
  | non : Fld .non
def fldText : V → Str
  | .int i => toString i
  | .str z => z
  | _ => "None"
theorem fld_log {i : Int} (a : -999999999999 < i) (b : i < 999999999999) : i.natAbs.log2 < 1920 := by
  have h : i.natAbs < 2 ^ 41 := by
    have e : (2 : Nat) ^ 41 = 2199023255552 := by decide
    omega
  exact Nat.lt_of_lt_of_le (PySem.Flt.log2_lt_of (by decide) h) (by decide)
theorem fld_short {i : Int} (a : -999999999999 < i) (b : i < 999999999999) : ((toString i : String) : Str).length ≤ 13 := by
  have h := intsShort_of_noneOrIn (lo := -999999999999) (hi := 999999999999) (by decide) (by decide) (.int i) (by
    show (decide (-999999999999 < i) && decide (i < 999999999999)) = true
    rw [decide_eq_true a, decide_eq_true b]
    rfl)
  exact of_decide_eq_true h
theorem fld_fmt {v : V} {H : Hp} {Q : VK} (h : Fld v) (k : ∀ y : Str, y.length ≤ 100 → Q (.str y) H) : fmtN Q v H := by
  cases h with
  | int i a b => exact .inr (.inl ⟨i, rfl, fld_log a b, k _ (Nat.le_trans (fld_short a b) (by decide))⟩)
  | str z h => exact .inl ⟨z, rfl, Nat.le_trans h (by decide), k _ h⟩
  | non => exact .inr (.inr ⟨rfl, k _ (by decide)⟩)

/-! ### the four builtin classes -/
abbrev bmV : List Value := [.type "ValueError", .type "Exception", .type "BaseException", .type "object"]
abbrev bmI : List Value := [.type "IndexError", .type "LookupError", .type "Exception", .type "BaseException", .type "object"]
abbrev bmK : List Value := [.type "KeyError", .type "LookupError", .type "Exception", .type "BaseException", .type "object"]
abbrev bmL : List Value := [.type "LookupError", .type "Exception", .type "BaseException", .type "object"]
theorem store_K : StoreFacts "KeyError" bmK "object.__setattr__" "object" where
  mro := by kernel_rfl
  slot := .of (n := "__setattr__")
    (owner := "object")
    (by
      rw [typeLookup_type]
      rw [builtinLookup_eq_fast]
      kernel_rfl)
    (by decide +kernel)
    (by decide +kernel)
    (by decide +kernel)
    (by
      first
        | exact .inl (by decide +kernel)
        | exact .inr (by decide +kernel))
    (by
      rw [isSubtype_type]
      kernel_rfl)
  entry := PySem.F.entry_object_sa
  kind := by decide +kernel
  split := by decide +kernel
  hasOwner := by decide +kernel
  args := PySem.F.store_ValueError.args
  passes := fun self => by kernel_rfl
structure BaseOf (B newId initId : String) (bm : List Value) : Prop where
  new : ∃ nB, NewBy bm nB newId
  ini : InitBy bm B initId
  sto : ∃ S, StoreFacts S bm "object.__setattr__" "object"
  tl : PySem.W.excTail bm bm = true
  ob : bm.contains (.type "object") = true
  flat : ∀ C : Addr, bm.contains (.ref C) = false
theorem base_V : BaseOf "ValueError" "ValueError.__new__" "ValueError.__init__" bmV :=
  ⟨⟨"ValueError", ⟨_, _, PySem.F.excBase_ValueError⟩, by decide +kernel, by decide +kernel, by decide +kernel⟩, ⟨⟨_, excClass_ValueError⟩, by decide +kernel⟩, ⟨_, PySem.F.store_ValueError⟩, by decide +kernel, by decide +kernel, fun _ => rfl⟩
theorem base_I : BaseOf "IndexError" "IndexError.__new__" "IndexError.__init__" bmI :=
  ⟨⟨"IndexError", ⟨_, _, PySem.F.excBase_IndexError⟩, by decide +kernel, by decide +kernel, by decide +kernel⟩, ⟨⟨_, excClass_IndexError⟩, by decide +kernel⟩, ⟨_, PySem.F.store_IndexError⟩, by decide +kernel, by decide +kernel, fun _ => rfl⟩
theorem base_L : BaseOf "LookupError" "LookupError.__new__" "LookupError.__init__" bmL :=
  ⟨⟨"LookupError", ⟨_, _, PySem.F.excBase_LookupError⟩, by decide +kernel, by decide +kernel, by decide +kernel⟩, ⟨⟨_, excClass_LookupError⟩, by decide +kernel⟩, ⟨_, PySem.F.store_LookupError⟩, by decide +kernel, by decide +kernel, fun _ => rfl⟩
/-- KeyError's own new is LookupError's -/
theorem base_K : BaseOf "KeyError" "LookupError.__new__" "KeyError.__init__" bmK :=
  ⟨⟨"LookupError", ⟨_, _, PySem.F.excBase_LookupError⟩, by decide +kernel, by decide +kernel, by decide +kernel⟩, ⟨⟨_, excClass_KeyError⟩, by decide +kernel⟩, ⟨_, store_K⟩, by decide +kernel, by decide +kernel, fun _ => rfl⟩
theorem meta_V : typeOf (.type "ValueError") = pure (.type "type") := by kernel_rfl
theorem meta_K : typeOf (.type "KeyError") = pure (.type "type") := by kernel_rfl
theorem meta_I : typeOf (.type "IndexError") = pure (.type "type") := by kernel_rfl
theorem meta_L : typeOf (.type "LookupError") = pure (.type "type") := by kernel_rfl
/-! ### an own class of the top -/
section
open PySem.W
structure ClsAt (K : Frag) (mg : Str → Option Value) (C : Addr) (x qual : Str) (B newId initId : String) (bm : List Value) (st : Stmt) (fs : List Str) : Prop where
  mg : mg x = some (.ref C)
  own : OwnC K C B newId initId bm
  xf : XfC K C
  ex : ExcC K C
  no : ∀ f ∈ fs, findIn K (.ref C) f = some none
  ini : ∃ F fd, findIn K (.ref C) "__init__" = some (some (.ref F)) ∧ typeIn K (.ref F) = some (.type "function") ∧ Fun K "__init__" qual st F fd
theorem cls_mk {K : Frag} {mg : Str → Option Value} {C F : Addr} {x qual : Str} {B newId initId : String} {bm : List Value} {st : Stmt} {fs : List Str} {nm q : Str} {N : Addr} {bs : List Value} {sn : List Str} {sub : List Value} {ab : Bool} {col : Option Bool} {dd : Option Addr} {k0 k1 k2 k3 k5 : Option Value} {fd : FuncData}
    (Y : BaseOf B newId initId bm) (m : mg x = some (.ref C)) (o : K.lookup C = some (excClassObj nm q C N bs bm true sn sub ab col dd k0 k1 k2 k3 k5 newId)) (i : findIn K (.ref C) "__init__" = some (some (.ref F))) (t : typeIn K (.ref F) = some (.type "function")) (f : Fun K "__init__" qual st F fd)
    (h1 : findIn K (.ref C) "__setattr__" = some (some (.builtin "object.__setattr__"))) (h2 : subIn K (.ref C) (.type "BaseException") = some true) (h3 : typeIn K (.ref C) = some (.type "type")) (h4 : keepIn K (.ref C) = true)
    (h5 : findIn K (.ref C) "__getattribute__" = some (some (.builtin "BaseException.__getattribute__"))) (h6 : findIn K (.ref C) "__getattr__" = some none) (h7 : hasDictIn K C = true) (h8 : findIn K (.ref C) "__class__" = some (some (.builtin "object.__class__")))
    (h9 : mroIn K C (.type "object") = some true) (e1 : specialIn K (.builtin "object.__class__") "__get__" = some (some (.builtin "getset_descriptor.__get__"))) (e2 : takesIn K (.builtin "object.__class__") = some true)
    (no : ∀ f ∈ fs, findIn K (.ref C) f = some none) : ClsAt K mg C x qual B newId initId bm st fs :=
  ⟨m, ⟨⟨nm, q, N, bs, sn, sub, ab, col, dd, k0, k1, k2, k3, k5, o⟩, Y.new, Y.ini, Y.sto, h1, Y.tl, Y.ob, h2, h3, h4⟩, ⟨h5, h6, h2, h7⟩, ⟨h5, h6, h2, h7, h8, e1, e2, h9⟩, no, F, fd, i, t, f⟩
theorem no0 {p : Str → Prop} : ∀ f ∈ ([] : List Str), p f := fun f h => by cases h
theorem no1 {p : Str → Prop} {a : Str} (h : p a) : ∀ f ∈ [a], p f := fun f hf => by
  rw [List.mem_singleton.mp hf]
  exact h
theorem no2 {p : Str → Prop} {a b : Str} (h : p a) (k : p b) : ∀ f ∈ [a, b], p f := fun f hf => by
  rcases List.mem_cons.mp hf with e | e
  · rw [e]
    exact h
  · rw [List.mem_singleton.mp e]
    exact k
/-- whether one stands under another -/
theorem kit_two {K : Frag} {mg mg' : Str → Option Value} {C C' : Addr} {x qual x' qual' : Str} {B newId initId B' newId' initId' : String} {bm bm' : List Value} {st st' : Stmt} {fs fs' : List Str} (T : ClsAt K mg C x qual B newId initId bm st fs) (T' : ClsAt K mg' C' x' qual' B' newId' initId' bm' st' fs')
    (flat : bm.contains (.ref C') = false) : kitOne K (.ref C) (.ref C') = some (decide (C = C')) := by
  refine kit_own T'.ex.hd T'.own.tyC ?_
  obtain ⟨cd, hc, hm, _⟩ := T.own.clsIn
  show mroIn K C (.ref C') = _
  unfold mroIn
  rw [hc, Option.bind_some, hm]
  show some ((Value.ref C :: bm).contains (.ref C')) = _
  rw [List.contains_cons, flat, Bool.or_false]
  congr 1
  by_cases h : C = C'
  · subst h
    rw [decide_eq_true rfl]
    exact beq_self_eq_true _
  · rw [decide_eq_false h]
    exact Bool.eq_false_iff.mpr fun z => h (Value.ref.inj (beq_iff_eq.mp z)).symm
theorem kit_base {K : Frag} {mg : Str → Option Value} {C : Addr} {x qual : Str} {B newId initId : String} {bm : List Value} {st : Stmt} {fs : List Str} {T : String} {b : Bool} (Y : ClsAt K mg C x qual B newId initId bm st fs) (km : kitMeta T = true) (h : bm.contains (.type T) = b) :
    kitOne K (.ref C) (.type T) = some b := by
  obtain ⟨cd, hc, hm, _⟩ := Y.own.clsIn
  show (if (Value.ref C == Value.type T) = true then some true else kitCls K (.ref C) (.type T)) = _
  have ne : (Value.ref C == Value.type T) = false := Bool.eq_false_iff.mpr fun z => by
    have e := beq_iff_eq.mp z
    cases e
  rw [ne, if_neg Bool.false_ne_true]
  show (if kitMeta T = true then subIn K (.ref C) (.type T) else none) = _
  rw [if_pos km]
  show mroIn K C (.type T) = _
  unfold mroIn
  rw [hc, Option.bind_some, hm]
  show some ((Value.ref C :: bm).contains (.type T)) = _
  rw [List.contains_cons, h]
  rfl
end
/-- its __init__ keeps sp -/
structure HasC (P : Program) (w : World) (K : PySem.W.Frag) (mg : Str → Option Value) (base : Heap) (C : Addr) (x : Str) (ps : List Str) (sp : Sp) : Prop where
  ex : ∃ (B newId initId : String) (bm : List Value) (F : Addr) (fd : FuncData), mg x = some (.ref C) ∧ OwnC K C B newId initId bm ∧ PySem.W.findIn K (.ref C) "__init__" = some (some (.ref F)) ∧ PySem.W.typeIn K (.ref F) = some (.type "function") ∧ FnOk P w K mg base CX0 1 F fd ps sp ∧ Binds K fd ps []
theorem pe_hasC {X : Cx} {C : Addr} {x : Str} {ps : List Str} {sp : Sp} {e : Expr} {es : List Expr} {t : TA} {p pos : Pos} (h : HasC X.prog X.w X.K X.mg X.base C x ps sp) (hr : Room 2 X.A) (hg : Gl X x) (ha : PA X (e :: es) t)
    (hdb : (x == ("__debug__" : Str)) = false := by decide) (he : starEach (e :: es) X.env = (false, eval e X.env) :: starEach es X.env := by rfl) (hpl : (backTo pos (starEach es X.env)).any (·.1) = false := by rfl) :
    PE X (.Call (.Name x p) (e :: es) [] pos) (tOwnV C sp t) := by
  obtain ⟨B, newId, initId, bm, F, fd, hm, T, iC, tI, f, b⟩ := h.ex
  exact pe_own T iC tI f hr b pass0 hg hm ha hdb he hpl
theorem pe_hasC0 {X : Cx} {C : Addr} {x : Str} {ps : List Str} {sp : Sp} {p pos : Pos} (h : HasC X.prog X.w X.K X.mg X.base C x ps sp) (hr : Room 2 X.A) (hg : Gl X x) (hdb : (x == ("__debug__" : Str)) = false := by decide) :
    PE X (.Call (.Name x p) [] [] pos) (tOwnV C sp tNil) := by
  obtain ⟨B, newId, initId, bm, F, fd, hm, T, iC, tI, f, b⟩ := h.ex
  exact pe_own0 T iC tI f hr b pass0 hg hm hdb
/-! ### what such an __init__ promises: no field, one, two -/
section
variable (C : Addr) (f g : Str)
def spI0 : Sp := fun vs H Q _ => ∃ a, vs = [.ref a] ∧ H a = some (exo a C none) ∧ Q .non H
def spI1 : Sp := fun vs H Q _ => ∃ a v, vs = [.ref a, v] ∧ Fld v ∧ H a = some (exo a C none) ∧ ∀ dx, H dx = none → dx ≠ a → Q .non (upd (upd H dx (exd dx [(f, v)])) a (exo a C (some dx)))
def spI2 : Sp := fun vs H Q _ => ∃ a u v, vs = [.ref a, u, v] ∧ Fld u ∧ Fld v ∧ H a = some (exo a C none) ∧ ∀ dx, H dx = none → dx ≠ a → Q .non (upd (upd (upd H dx (exd dx [(f, u)])) a (exo a C (some dx))) dx (exd dx [(g, v), (f, u)]))
end
/-! ### texts of parts -/
theorem part2 {a y : Str} {n m : Nat} (h1 : a.length ≤ n) (h2 : y.length ≤ m) : (a ++ y).length ≤ n + m := by
  rw [PySem.Str.length_append]
  exact Nat.add_le_add h1 h2
theorem part {a y : Str} {n m : Nat} (h1 : a.length ≤ n) (h2 : y.length ≤ m) (h3 : n + m ≤ 10000) : (a ++ y).length ≤ sizeLine :=
  Nat.le_trans (part2 h1 h2) (Nat.le_trans h3 (by decide))
/-- an own class by its name -/
theorem pe_cls {X : Cx} {x : Str} {C : Addr} {pos : Pos} (m : X.mg x = some (.ref C)) (hg : Gl X x) (hd : (x == ("__debug__" : Str)) = false := by decide) : PE X (.Name x pos) (tC (.ref C)) := pe_glob (v := .ref C) hg m rfl hd
theorem getD_inj {l : List Addr} (nd : l.Nodup) (i j : Nat) (hi : i < l.length) (hj : j < l.length) (h : l.getD i 0 = l.getD j 0) : i = j := by
  rw [List.getD_eq_getElem?_getD, List.getD_eq_getElem?_getD, List.getElem?_eq_getElem hi, List.getElem?_eq_getElem hj, Option.getD_some, Option.getD_some] at h
  have z := List.pairwise_iff_getElem.mp nd
  rcases Nat.lt_trichotomy i j with c | c | c
  · exact absurd h (z i j hi hj c)
  · exact c
  · exact absurd h.symm (z j i hj hi c)

structure Top (K : PySem.W.Frag) (mg : Str → Option Value) (cs : Nat → Addr) : Prop where
  d__law_begun : At K mg "_law_begun" s__law_begun
  d__law_draw : At K mg "_law_draw" s__law_draw
  d__law_pick : At K mg "_law_pick" s__law_pick
  d__law_under : At K mg "_law_under" s__law_under
  d_law : At K mg "law" s_law
  k_NoMarks : ClsAt K mg (cs 0) "NoMarks" "NoMarks.__init__" "ValueError" "ValueError.__new__" "ValueError.__init__" bmV s_NoMarks___init__ []
  k_NoPlan : ClsAt K mg (cs 1) "NoPlan" "NoPlan.__init__" "ValueError" "ValueError.__new__" "ValueError.__init__" bmV s_NoPlan___init__ []
  k_NoText : ClsAt K mg (cs 2) "NoText" "NoText.__init__" "ValueError" "ValueError.__new__" "ValueError.__init__" bmV s_NoText___init__ []
  k_NoKnot : ClsAt K mg (cs 3) "NoKnot" "NoKnot.__init__" "ValueError" "ValueError.__new__" "ValueError.__init__" bmV s_NoKnot___init__ ["number"]
  k_NoFresh : ClsAt K mg (cs 4) "NoFresh" "NoFresh.__init__" "ValueError" "ValueError.__new__" "ValueError.__init__" bmV s_NoFresh___init__ ["lowest"]
  k_NoBound : ClsAt K mg (cs 5) "NoBound" "NoBound.__init__" "ValueError" "ValueError.__new__" "ValueError.__init__" bmV s_NoBound___init__ ["low", "high"]
  k_NoGrow : ClsAt K mg (cs 6) "NoGrow" "NoGrow.__init__" "ValueError" "ValueError.__new__" "ValueError.__init__" bmV s_NoGrow___init__ []
  k_NotWider : ClsAt K mg (cs 7) "NotWider" "NotWider.__init__" "ValueError" "ValueError.__new__" "ValueError.__init__" bmV s_NotWider___init__ ["cap"]
  k_TooFar : ClsAt K mg (cs 8) "TooFar" "TooFar.__init__" "ValueError" "ValueError.__new__" "ValueError.__init__" bmV s_TooFar___init__ ["cap"]
  k_IsPut : ClsAt K mg (cs 9) "IsPut" "IsPut.__init__" "KeyError" "LookupError.__new__" "KeyError.__init__" bmK s_IsPut___init__ ["name"]
  k_NotOn : ClsAt K mg (cs 10) "NotOn" "NotOn.__init__" "KeyError" "LookupError.__new__" "KeyError.__init__" bmK s_NotOn___init__ ["mark"]
  k_IsRule : ClsAt K mg (cs 11) "IsRule" "IsRule.__init__" "KeyError" "LookupError.__new__" "KeyError.__init__" bmK s_IsRule___init__ ["word"]
  k_NoRule : ClsAt K mg (cs 12) "NoRule" "NoRule.__init__" "KeyError" "LookupError.__new__" "KeyError.__init__" bmK s_NoRule___init__ ["word"]
  k_TooMany : ClsAt K mg (cs 13) "TooMany" "TooMany.__init__" "IndexError" "IndexError.__new__" "IndexError.__init__" bmI s_TooMany___init__ ["many"]
  k_NoPut : ClsAt K mg (cs 14) "NoPut" "NoPut.__init__" "IndexError" "IndexError.__new__" "IndexError.__init__" bmI s_NoPut___init__ []
  k_NoDeed : ClsAt K mg (cs 15) "NoDeed" "NoDeed.__init__" "IndexError" "IndexError.__new__" "IndexError.__init__" bmI s_NoDeed___init__ []
  k_IsBroken : ClsAt K mg (cs 16) "IsBroken" "IsBroken.__init__" "LookupError" "LookupError.__new__" "LookupError.__init__" bmL s_IsBroken___init__ []
  k_HasSome : ClsAt K mg (cs 17) "HasSome" "HasSome.__init__" "LookupError" "LookupError.__new__" "LookupError.__init__" bmL s_HasSome___init__ []
  one : ∀ i j, i < 18 → j < 18 → cs i = cs j → i = j
  i_ValueError : PySem.W.findCls K (.type "ValueError") (.type "type") "__init__" = some (.val (.builtin "ValueError.__init__"))
  i_IndexError : PySem.W.findCls K (.type "IndexError") (.type "type") "__init__" = some (.val (.builtin "IndexError.__init__"))
  i_KeyError : PySem.W.findCls K (.type "KeyError") (.type "type") "__init__" = some (.val (.builtin "KeyError.__init__"))
  i_LookupError : PySem.W.findCls K (.type "LookupError") (.type "type") "__init__" = some (.val (.builtin "LookupError.__init__"))
  b_len : mg "len" = none
  b_isinstance : mg "isinstance" = none
  b_IndexError : mg "IndexError" = none
  b_KeyError : mg "KeyError" = none
  b_ValueError : mg "ValueError" = none
  b_range : mg "range" = none
  b_LookupError : mg "LookupError" = none
  b_repr : mg "repr" = none
section
variable {P : Program} {w : World} {K : PySem.W.Frag} {mg : Str → Option Value} {base : Heap} {cs : Nat → Addr}
theorem hc_NoMarks (T : Top K mg cs) : HasC P w K mg base (cs 0) "NoMarks" ["self"] (spI0 (cs 0)) := by
  obtain ⟨F, fd, iC, tI, f⟩ := T.k_NoMarks.ini
  refine ⟨_, _, _, _, F, fd, T.k_NoMarks.mg, T.k_NoMarks.own, iC, tI, ?_, f.binds fun _ _ _ _ _ _ us hl => match us, hl with | [_], _ => rfl⟩
  refine f.ok sc_NoMarks___init__ (fun vs H Q E h => ?_) (fun cdv A outer s H vs Q E hr h => ?_)
  · obtain ⟨a, rfl, _⟩ := h
    rfl
  · have nd := sc_NoMarks___init__.nd
    obtain ⟨a, rfl, ha, k⟩ := h
    refine ⟨_, (pss_one (ps_expr (pe_ownInit (newId := "ValueError.__new__") (initId := "ValueError.__init__") (bm := bmV) (by rfl) T.b_ValueError (by decide +kernel) meta_V (by decide +kernel) T.i_ValueError (by decide +kernel) (pa_cons (pv 0) (pa_cons pe_str pa_nil))))), ?_⟩
    exact ⟨_, rfl, ⟨a, cs 0, [_], rfl, by show 1 ≤ 1000; decide, T.k_NoMarks.own, ha, k⟩⟩
theorem hc_NoPlan (T : Top K mg cs) : HasC P w K mg base (cs 1) "NoPlan" ["self"] (spI0 (cs 1)) := by
  obtain ⟨F, fd, iC, tI, f⟩ := T.k_NoPlan.ini
  refine ⟨_, _, _, _, F, fd, T.k_NoPlan.mg, T.k_NoPlan.own, iC, tI, ?_, f.binds fun _ _ _ _ _ _ us hl => match us, hl with | [_], _ => rfl⟩
  refine f.ok sc_NoPlan___init__ (fun vs H Q E h => ?_) (fun cdv A outer s H vs Q E hr h => ?_)
  · obtain ⟨a, rfl, _⟩ := h
    rfl
  · have nd := sc_NoPlan___init__.nd
    obtain ⟨a, rfl, ha, k⟩ := h
    refine ⟨_, (pss_one (ps_expr (pe_ownInit (newId := "ValueError.__new__") (initId := "ValueError.__init__") (bm := bmV) (by rfl) T.b_ValueError (by decide +kernel) meta_V (by decide +kernel) T.i_ValueError (by decide +kernel) (pa_cons (pv 0) (pa_cons pe_str pa_nil))))), ?_⟩
    exact ⟨_, rfl, ⟨a, cs 1, [_], rfl, by show 1 ≤ 1000; decide, T.k_NoPlan.own, ha, k⟩⟩
theorem hc_NoText (T : Top K mg cs) : HasC P w K mg base (cs 2) "NoText" ["self"] (spI0 (cs 2)) := by
  obtain ⟨F, fd, iC, tI, f⟩ := T.k_NoText.ini
  refine ⟨_, _, _, _, F, fd, T.k_NoText.mg, T.k_NoText.own, iC, tI, ?_, f.binds fun _ _ _ _ _ _ us hl => match us, hl with | [_], _ => rfl⟩
  refine f.ok sc_NoText___init__ (fun vs H Q E h => ?_) (fun cdv A outer s H vs Q E hr h => ?_)
  · obtain ⟨a, rfl, _⟩ := h
    rfl
  · have nd := sc_NoText___init__.nd
    obtain ⟨a, rfl, ha, k⟩ := h
    refine ⟨_, (pss_one (ps_expr (pe_ownInit (newId := "ValueError.__new__") (initId := "ValueError.__init__") (bm := bmV) (by rfl) T.b_ValueError (by decide +kernel) meta_V (by decide +kernel) T.i_ValueError (by decide +kernel) (pa_cons (pv 0) (pa_cons pe_str pa_nil))))), ?_⟩
    exact ⟨_, rfl, ⟨a, cs 2, [_], rfl, by show 1 ≤ 1000; decide, T.k_NoText.own, ha, k⟩⟩
theorem hc_NoKnot (T : Top K mg cs) : HasC P w K mg base (cs 3) "NoKnot" ["self", "number"] (spI1 (cs 3) "number") := by
  obtain ⟨F, fd, iC, tI, f⟩ := T.k_NoKnot.ini
  refine ⟨_, _, _, _, F, fd, T.k_NoKnot.mg, T.k_NoKnot.own, iC, tI, ?_, f.binds fun _ _ _ _ _ _ us hl => match us, hl with | [_, _], _ => rfl⟩
  refine f.ok sc_NoKnot___init__ (fun vs H Q E h => ?_) (fun cdv A outer s H vs Q E hr h => ?_)
  · obtain ⟨a, v0, rfl, _⟩ := h
    rfl
  · have nd := sc_NoKnot___init__.nd
    obtain ⟨a, v0, rfl, f0, ha, k⟩ := h
    refine ⟨_, (pss_cons (ps_expr (pe_ownInit (newId := "ValueError.__new__") (initId := "ValueError.__init__") (bm := bmV) (by rfl) T.b_ValueError (by decide +kernel) meta_V (by decide +kernel) T.i_ValueError (by decide +kernel) (pa_cons (pv 0) (pa_cons (pe_joined (.cons pe_str (.cons (pe_fmtN (pv 1)) .nil))) pa_nil))))
    (pss_one (ps_ownS (B := "ValueError") (newId := "ValueError.__new__") (initId := "ValueError.__init__") (bm := bmV) (pv 0) (pv 1)))), ?_⟩
    refine ⟨_, rfl, ?_⟩
    refine ⟨_, rfl, part (n := 0) (m := 100) (by decide) (by decide +kernel) (by decide), ?_⟩
    refine ⟨_, rfl, fld_fmt f0 fun yf0 hf0 => ?_⟩
    refine ⟨_, rfl, part (n := 100) (m := 100) (part2 (n := 0) (m := 100) (by decide) (by decide +kernel)) hf0 (by decide), ?_⟩
    refine ⟨a, cs 3, [_], rfl, by show 1 ≤ 1000; decide, T.k_NoKnot.own, ha, ?_⟩
    exact ⟨_, rfl, _, rfl, a, cs 3, rfl, T.k_NoKnot.own, T.k_NoKnot.no _ (by simp), .inl ⟨ha, fun dx n ne => k dx n ne⟩⟩
theorem hc_NoFresh (T : Top K mg cs) : HasC P w K mg base (cs 4) "NoFresh" ["self", "lowest"] (spI1 (cs 4) "lowest") := by
  obtain ⟨F, fd, iC, tI, f⟩ := T.k_NoFresh.ini
  refine ⟨_, _, _, _, F, fd, T.k_NoFresh.mg, T.k_NoFresh.own, iC, tI, ?_, f.binds fun _ _ _ _ _ _ us hl => match us, hl with | [_, _], _ => rfl⟩
  refine f.ok sc_NoFresh___init__ (fun vs H Q E h => ?_) (fun cdv A outer s H vs Q E hr h => ?_)
  · obtain ⟨a, v0, rfl, _⟩ := h
    rfl
  · have nd := sc_NoFresh___init__.nd
    obtain ⟨a, v0, rfl, f0, ha, k⟩ := h
    refine ⟨_, (pss_cons (ps_expr (pe_ownInit (newId := "ValueError.__new__") (initId := "ValueError.__init__") (bm := bmV) (by rfl) T.b_ValueError (by decide +kernel) meta_V (by decide +kernel) T.i_ValueError (by decide +kernel) (pa_cons (pv 0) (pa_cons (pe_joined (.cons pe_str (.cons (pe_fmtN (pv 1)) (.cons pe_str .nil)))) pa_nil))))
    (pss_one (ps_ownS (B := "ValueError") (newId := "ValueError.__new__") (initId := "ValueError.__init__") (bm := bmV) (pv 0) (pv 1)))), ?_⟩
    refine ⟨_, rfl, ?_⟩
    refine ⟨_, rfl, part (n := 0) (m := 100) (by decide) (by decide +kernel) (by decide), ?_⟩
    refine ⟨_, rfl, fld_fmt f0 fun yf0 hf0 => ?_⟩
    refine ⟨_, rfl, part (n := 100) (m := 100) (part2 (n := 0) (m := 100) (by decide) (by decide +kernel)) hf0 (by decide), ?_⟩
    refine ⟨_, rfl, part (n := 200) (m := 100) (part2 (n := 100) (m := 100) (part2 (n := 0) (m := 100) (by decide) (by decide +kernel)) hf0) (by decide +kernel) (by decide), ?_⟩
    refine ⟨a, cs 4, [_], rfl, by show 1 ≤ 1000; decide, T.k_NoFresh.own, ha, ?_⟩
    exact ⟨_, rfl, _, rfl, a, cs 4, rfl, T.k_NoFresh.own, T.k_NoFresh.no _ (by simp), .inl ⟨ha, fun dx n ne => k dx n ne⟩⟩
theorem hc_NoBound (T : Top K mg cs) : HasC P w K mg base (cs 5) "NoBound" ["self", "low", "high"] (spI2 (cs 5) "low" "high") := by
  obtain ⟨F, fd, iC, tI, f⟩ := T.k_NoBound.ini
  refine ⟨_, _, _, _, F, fd, T.k_NoBound.mg, T.k_NoBound.own, iC, tI, ?_, f.binds fun _ _ _ _ _ _ us hl => match us, hl with | [_, _, _], _ => rfl⟩
  refine f.ok sc_NoBound___init__ (fun vs H Q E h => ?_) (fun cdv A outer s H vs Q E hr h => ?_)
  · obtain ⟨a, v0, v1, rfl, _⟩ := h
    rfl
  · have nd := sc_NoBound___init__.nd
    obtain ⟨a, v0, v1, rfl, f0, f1, ha, k⟩ := h
    refine ⟨_, (pss_cons (ps_expr (pe_ownInit (newId := "ValueError.__new__") (initId := "ValueError.__init__") (bm := bmV) (by rfl) T.b_ValueError (by decide +kernel) meta_V (by decide +kernel) T.i_ValueError (by decide +kernel) (pa_cons (pv 0) (pa_cons (pe_joined (.cons pe_str (.cons (pe_fmtN (pv 1)) (.cons pe_str (.cons (pe_fmtN (pv 2)) .nil))))) pa_nil))))
    (pss_cons (ps_ownS (B := "ValueError") (newId := "ValueError.__new__") (initId := "ValueError.__init__") (bm := bmV) (pv 0) (pv 1))
    (pss_one (ps_ownS (B := "ValueError") (newId := "ValueError.__new__") (initId := "ValueError.__init__") (bm := bmV) (pv 0) (pv 2))))), ?_⟩
    refine ⟨_, rfl, ?_⟩
    refine ⟨_, rfl, part (n := 0) (m := 100) (by decide) (by decide +kernel) (by decide), ?_⟩
    refine ⟨_, rfl, fld_fmt f0 fun yf0 hf0 => ?_⟩
    refine ⟨_, rfl, part (n := 100) (m := 100) (part2 (n := 0) (m := 100) (by decide) (by decide +kernel)) hf0 (by decide), ?_⟩
    refine ⟨_, rfl, part (n := 200) (m := 100) (part2 (n := 100) (m := 100) (part2 (n := 0) (m := 100) (by decide) (by decide +kernel)) hf0) (by decide +kernel) (by decide), ?_⟩
    refine ⟨_, rfl, fld_fmt f1 fun yf1 hf1 => ?_⟩
    refine ⟨_, rfl, part (n := 300) (m := 100) (part2 (n := 200) (m := 100) (part2 (n := 100) (m := 100) (part2 (n := 0) (m := 100) (by decide) (by decide +kernel)) hf0) (by decide +kernel)) hf1 (by decide), ?_⟩
    refine ⟨a, cs 5, [_], rfl, by show 1 ≤ 1000; decide, T.k_NoBound.own, ha, ?_⟩
    refine ⟨_, rfl, _, rfl, a, cs 5, rfl, T.k_NoBound.own, T.k_NoBound.no _ (by simp), .inl ⟨ha, fun dx n ne => ?_⟩⟩
    exact ⟨_, rfl, _, rfl, a, cs 5, rfl, T.k_NoBound.own, T.k_NoBound.no _ (by simp), .inr ⟨dx, _, upd_same, by rw [upd_ne ne]; exact upd_same, by show 1 ≤ 900; decide, k dx n ne⟩⟩
theorem hc_NoGrow (T : Top K mg cs) : HasC P w K mg base (cs 6) "NoGrow" ["self"] (spI0 (cs 6)) := by
  obtain ⟨F, fd, iC, tI, f⟩ := T.k_NoGrow.ini
  refine ⟨_, _, _, _, F, fd, T.k_NoGrow.mg, T.k_NoGrow.own, iC, tI, ?_, f.binds fun _ _ _ _ _ _ us hl => match us, hl with | [_], _ => rfl⟩
  refine f.ok sc_NoGrow___init__ (fun vs H Q E h => ?_) (fun cdv A outer s H vs Q E hr h => ?_)
  · obtain ⟨a, rfl, _⟩ := h
    rfl
  · have nd := sc_NoGrow___init__.nd
    obtain ⟨a, rfl, ha, k⟩ := h
    refine ⟨_, (pss_one (ps_expr (pe_ownInit (newId := "ValueError.__new__") (initId := "ValueError.__init__") (bm := bmV) (by rfl) T.b_ValueError (by decide +kernel) meta_V (by decide +kernel) T.i_ValueError (by decide +kernel) (pa_cons (pv 0) (pa_cons pe_str pa_nil))))), ?_⟩
    exact ⟨_, rfl, ⟨a, cs 6, [_], rfl, by show 1 ≤ 1000; decide, T.k_NoGrow.own, ha, k⟩⟩
theorem hc_NotWider (T : Top K mg cs) : HasC P w K mg base (cs 7) "NotWider" ["self", "cap"] (spI1 (cs 7) "cap") := by
  obtain ⟨F, fd, iC, tI, f⟩ := T.k_NotWider.ini
  refine ⟨_, _, _, _, F, fd, T.k_NotWider.mg, T.k_NotWider.own, iC, tI, ?_, f.binds fun _ _ _ _ _ _ us hl => match us, hl with | [_, _], _ => rfl⟩
  refine f.ok sc_NotWider___init__ (fun vs H Q E h => ?_) (fun cdv A outer s H vs Q E hr h => ?_)
  · obtain ⟨a, v0, rfl, _⟩ := h
    rfl
  · have nd := sc_NotWider___init__.nd
    obtain ⟨a, v0, rfl, f0, ha, k⟩ := h
    refine ⟨_, (pss_cons (ps_expr (pe_ownInit (newId := "ValueError.__new__") (initId := "ValueError.__init__") (bm := bmV) (by rfl) T.b_ValueError (by decide +kernel) meta_V (by decide +kernel) T.i_ValueError (by decide +kernel) (pa_cons (pv 0) (pa_cons (pe_joined (.cons pe_str (.cons (pe_fmtN (pv 1)) .nil))) pa_nil))))
    (pss_one (ps_ownS (B := "ValueError") (newId := "ValueError.__new__") (initId := "ValueError.__init__") (bm := bmV) (pv 0) (pv 1)))), ?_⟩
    refine ⟨_, rfl, ?_⟩
    refine ⟨_, rfl, part (n := 0) (m := 100) (by decide) (by decide +kernel) (by decide), ?_⟩
    refine ⟨_, rfl, fld_fmt f0 fun yf0 hf0 => ?_⟩
    refine ⟨_, rfl, part (n := 100) (m := 100) (part2 (n := 0) (m := 100) (by decide) (by decide +kernel)) hf0 (by decide), ?_⟩
    refine ⟨a, cs 7, [_], rfl, by show 1 ≤ 1000; decide, T.k_NotWider.own, ha, ?_⟩
    exact ⟨_, rfl, _, rfl, a, cs 7, rfl, T.k_NotWider.own, T.k_NotWider.no _ (by simp), .inl ⟨ha, fun dx n ne => k dx n ne⟩⟩
theorem hc_TooFar (T : Top K mg cs) : HasC P w K mg base (cs 8) "TooFar" ["self", "cap"] (spI1 (cs 8) "cap") := by
  obtain ⟨F, fd, iC, tI, f⟩ := T.k_TooFar.ini
  refine ⟨_, _, _, _, F, fd, T.k_TooFar.mg, T.k_TooFar.own, iC, tI, ?_, f.binds fun _ _ _ _ _ _ us hl => match us, hl with | [_, _], _ => rfl⟩
  refine f.ok sc_TooFar___init__ (fun vs H Q E h => ?_) (fun cdv A outer s H vs Q E hr h => ?_)
  · obtain ⟨a, v0, rfl, _⟩ := h
    rfl
  · have nd := sc_TooFar___init__.nd
    obtain ⟨a, v0, rfl, f0, ha, k⟩ := h
    refine ⟨_, (pss_cons (ps_expr (pe_ownInit (newId := "ValueError.__new__") (initId := "ValueError.__init__") (bm := bmV) (by rfl) T.b_ValueError (by decide +kernel) meta_V (by decide +kernel) T.i_ValueError (by decide +kernel) (pa_cons (pv 0) (pa_cons (pe_joined (.cons pe_str (.cons (pe_fmtN (pv 1)) .nil))) pa_nil))))
    (pss_one (ps_ownS (B := "ValueError") (newId := "ValueError.__new__") (initId := "ValueError.__init__") (bm := bmV) (pv 0) (pv 1)))), ?_⟩
    refine ⟨_, rfl, ?_⟩
    refine ⟨_, rfl, part (n := 0) (m := 100) (by decide) (by decide +kernel) (by decide), ?_⟩
    refine ⟨_, rfl, fld_fmt f0 fun yf0 hf0 => ?_⟩
    refine ⟨_, rfl, part (n := 100) (m := 100) (part2 (n := 0) (m := 100) (by decide) (by decide +kernel)) hf0 (by decide), ?_⟩
    refine ⟨a, cs 8, [_], rfl, by show 1 ≤ 1000; decide, T.k_TooFar.own, ha, ?_⟩
    exact ⟨_, rfl, _, rfl, a, cs 8, rfl, T.k_TooFar.own, T.k_TooFar.no _ (by simp), .inl ⟨ha, fun dx n ne => k dx n ne⟩⟩
theorem hc_IsPut (T : Top K mg cs) : HasC P w K mg base (cs 9) "IsPut" ["self", "name"] (spI1 (cs 9) "name") := by
  obtain ⟨F, fd, iC, tI, f⟩ := T.k_IsPut.ini
  refine ⟨_, _, _, _, F, fd, T.k_IsPut.mg, T.k_IsPut.own, iC, tI, ?_, f.binds fun _ _ _ _ _ _ us hl => match us, hl with | [_, _], _ => rfl⟩
  refine f.ok sc_IsPut___init__ (fun vs H Q E h => ?_) (fun cdv A outer s H vs Q E hr h => ?_)
  · obtain ⟨a, v0, rfl, _⟩ := h
    rfl
  · have nd := sc_IsPut___init__.nd
    obtain ⟨a, v0, rfl, f0, ha, k⟩ := h
    refine ⟨_, (pss_cons (ps_expr (pe_ownInit (newId := "LookupError.__new__") (initId := "KeyError.__init__") (bm := bmK) (by rfl) T.b_KeyError (by decide +kernel) meta_K (by decide +kernel) T.i_KeyError (by decide +kernel) (pa_cons (pv 0) (pa_cons (pe_joined (.cons (pe_fmtN (pv 1)) (.cons pe_str .nil))) pa_nil))))
    (pss_one (ps_ownS (B := "KeyError") (newId := "LookupError.__new__") (initId := "KeyError.__init__") (bm := bmK) (pv 0) (pv 1)))), ?_⟩
    refine ⟨_, rfl, ?_⟩
    refine ⟨_, rfl, fld_fmt f0 fun yf0 hf0 => ?_⟩
    refine ⟨_, rfl, part (n := 0) (m := 100) (by decide) hf0 (by decide), ?_⟩
    refine ⟨_, rfl, part (n := 100) (m := 100) (part2 (n := 0) (m := 100) (by decide) hf0) (by decide +kernel) (by decide), ?_⟩
    refine ⟨a, cs 9, [_], rfl, by show 1 ≤ 1000; decide, T.k_IsPut.own, ha, ?_⟩
    exact ⟨_, rfl, _, rfl, a, cs 9, rfl, T.k_IsPut.own, T.k_IsPut.no _ (by simp), .inl ⟨ha, fun dx n ne => k dx n ne⟩⟩
theorem hc_NotOn (T : Top K mg cs) : HasC P w K mg base (cs 10) "NotOn" ["self", "mark"] (spI1 (cs 10) "mark") := by
  obtain ⟨F, fd, iC, tI, f⟩ := T.k_NotOn.ini
  refine ⟨_, _, _, _, F, fd, T.k_NotOn.mg, T.k_NotOn.own, iC, tI, ?_, f.binds fun _ _ _ _ _ _ us hl => match us, hl with | [_, _], _ => rfl⟩
  refine f.ok sc_NotOn___init__ (fun vs H Q E h => ?_) (fun cdv A outer s H vs Q E hr h => ?_)
  · obtain ⟨a, v0, rfl, _⟩ := h
    rfl
  · have nd := sc_NotOn___init__.nd
    obtain ⟨a, v0, rfl, f0, ha, k⟩ := h
    refine ⟨_, (pss_cons (ps_expr (pe_ownInit (newId := "LookupError.__new__") (initId := "KeyError.__init__") (bm := bmK) (by rfl) T.b_KeyError (by decide +kernel) meta_K (by decide +kernel) T.i_KeyError (by decide +kernel) (pa_cons (pv 0) (pa_cons (pe_joined (.cons (pe_fmtN (pv 1)) (.cons pe_str .nil))) pa_nil))))
    (pss_one (ps_ownS (B := "KeyError") (newId := "LookupError.__new__") (initId := "KeyError.__init__") (bm := bmK) (pv 0) (pv 1)))), ?_⟩
    refine ⟨_, rfl, ?_⟩
    refine ⟨_, rfl, fld_fmt f0 fun yf0 hf0 => ?_⟩
    refine ⟨_, rfl, part (n := 0) (m := 100) (by decide) hf0 (by decide), ?_⟩
    refine ⟨_, rfl, part (n := 100) (m := 100) (part2 (n := 0) (m := 100) (by decide) hf0) (by decide +kernel) (by decide), ?_⟩
    refine ⟨a, cs 10, [_], rfl, by show 1 ≤ 1000; decide, T.k_NotOn.own, ha, ?_⟩
    exact ⟨_, rfl, _, rfl, a, cs 10, rfl, T.k_NotOn.own, T.k_NotOn.no _ (by simp), .inl ⟨ha, fun dx n ne => k dx n ne⟩⟩
theorem hc_IsRule (T : Top K mg cs) : HasC P w K mg base (cs 11) "IsRule" ["self", "word"] (spI1 (cs 11) "word") := by
  obtain ⟨F, fd, iC, tI, f⟩ := T.k_IsRule.ini
  refine ⟨_, _, _, _, F, fd, T.k_IsRule.mg, T.k_IsRule.own, iC, tI, ?_, f.binds fun _ _ _ _ _ _ us hl => match us, hl with | [_, _], _ => rfl⟩
  refine f.ok sc_IsRule___init__ (fun vs H Q E h => ?_) (fun cdv A outer s H vs Q E hr h => ?_)
  · obtain ⟨a, v0, rfl, _⟩ := h
    rfl
  · have nd := sc_IsRule___init__.nd
    obtain ⟨a, v0, rfl, f0, ha, k⟩ := h
    refine ⟨_, (pss_cons (ps_expr (pe_ownInit (newId := "LookupError.__new__") (initId := "KeyError.__init__") (bm := bmK) (by rfl) T.b_KeyError (by decide +kernel) meta_K (by decide +kernel) T.i_KeyError (by decide +kernel) (pa_cons (pv 0) (pa_cons (pe_joined (.cons (pe_fmtN (pv 1)) (.cons pe_str .nil))) pa_nil))))
    (pss_one (ps_ownS (B := "KeyError") (newId := "LookupError.__new__") (initId := "KeyError.__init__") (bm := bmK) (pv 0) (pv 1)))), ?_⟩
    refine ⟨_, rfl, ?_⟩
    refine ⟨_, rfl, fld_fmt f0 fun yf0 hf0 => ?_⟩
    refine ⟨_, rfl, part (n := 0) (m := 100) (by decide) hf0 (by decide), ?_⟩
    refine ⟨_, rfl, part (n := 100) (m := 100) (part2 (n := 0) (m := 100) (by decide) hf0) (by decide +kernel) (by decide), ?_⟩
    refine ⟨a, cs 11, [_], rfl, by show 1 ≤ 1000; decide, T.k_IsRule.own, ha, ?_⟩
    exact ⟨_, rfl, _, rfl, a, cs 11, rfl, T.k_IsRule.own, T.k_IsRule.no _ (by simp), .inl ⟨ha, fun dx n ne => k dx n ne⟩⟩
theorem hc_NoRule (T : Top K mg cs) : HasC P w K mg base (cs 12) "NoRule" ["self", "word"] (spI1 (cs 12) "word") := by
  obtain ⟨F, fd, iC, tI, f⟩ := T.k_NoRule.ini
  refine ⟨_, _, _, _, F, fd, T.k_NoRule.mg, T.k_NoRule.own, iC, tI, ?_, f.binds fun _ _ _ _ _ _ us hl => match us, hl with | [_, _], _ => rfl⟩
  refine f.ok sc_NoRule___init__ (fun vs H Q E h => ?_) (fun cdv A outer s H vs Q E hr h => ?_)
  · obtain ⟨a, v0, rfl, _⟩ := h
    rfl
  · have nd := sc_NoRule___init__.nd
    obtain ⟨a, v0, rfl, f0, ha, k⟩ := h
    refine ⟨_, (pss_cons (ps_expr (pe_ownInit (newId := "LookupError.__new__") (initId := "KeyError.__init__") (bm := bmK) (by rfl) T.b_KeyError (by decide +kernel) meta_K (by decide +kernel) T.i_KeyError (by decide +kernel) (pa_cons (pv 0) (pa_cons (pe_joined (.cons (pe_fmtN (pv 1)) (.cons pe_str .nil))) pa_nil))))
    (pss_one (ps_ownS (B := "KeyError") (newId := "LookupError.__new__") (initId := "KeyError.__init__") (bm := bmK) (pv 0) (pv 1)))), ?_⟩
    refine ⟨_, rfl, ?_⟩
    refine ⟨_, rfl, fld_fmt f0 fun yf0 hf0 => ?_⟩
    refine ⟨_, rfl, part (n := 0) (m := 100) (by decide) hf0 (by decide), ?_⟩
    refine ⟨_, rfl, part (n := 100) (m := 100) (part2 (n := 0) (m := 100) (by decide) hf0) (by decide +kernel) (by decide), ?_⟩
    refine ⟨a, cs 12, [_], rfl, by show 1 ≤ 1000; decide, T.k_NoRule.own, ha, ?_⟩
    exact ⟨_, rfl, _, rfl, a, cs 12, rfl, T.k_NoRule.own, T.k_NoRule.no _ (by simp), .inl ⟨ha, fun dx n ne => k dx n ne⟩⟩
theorem hc_TooMany (T : Top K mg cs) : HasC P w K mg base (cs 13) "TooMany" ["self", "many"] (spI1 (cs 13) "many") := by
  obtain ⟨F, fd, iC, tI, f⟩ := T.k_TooMany.ini
  refine ⟨_, _, _, _, F, fd, T.k_TooMany.mg, T.k_TooMany.own, iC, tI, ?_, f.binds fun _ _ _ _ _ _ us hl => match us, hl with | [_, _], _ => rfl⟩
  refine f.ok sc_TooMany___init__ (fun vs H Q E h => ?_) (fun cdv A outer s H vs Q E hr h => ?_)
  · obtain ⟨a, v0, rfl, _⟩ := h
    rfl
  · have nd := sc_TooMany___init__.nd
    obtain ⟨a, v0, rfl, f0, ha, k⟩ := h
    refine ⟨_, (pss_cons (ps_expr (pe_ownInit (newId := "IndexError.__new__") (initId := "IndexError.__init__") (bm := bmI) (by rfl) T.b_IndexError (by decide +kernel) meta_I (by decide +kernel) T.i_IndexError (by decide +kernel) (pa_cons (pv 0) (pa_cons (pe_joined (.cons pe_str (.cons (pe_fmtN (pv 1)) .nil))) pa_nil))))
    (pss_one (ps_ownS (B := "IndexError") (newId := "IndexError.__new__") (initId := "IndexError.__init__") (bm := bmI) (pv 0) (pv 1)))), ?_⟩
    refine ⟨_, rfl, ?_⟩
    refine ⟨_, rfl, part (n := 0) (m := 100) (by decide) (by decide +kernel) (by decide), ?_⟩
    refine ⟨_, rfl, fld_fmt f0 fun yf0 hf0 => ?_⟩
    refine ⟨_, rfl, part (n := 100) (m := 100) (part2 (n := 0) (m := 100) (by decide) (by decide +kernel)) hf0 (by decide), ?_⟩
    refine ⟨a, cs 13, [_], rfl, by show 1 ≤ 1000; decide, T.k_TooMany.own, ha, ?_⟩
    exact ⟨_, rfl, _, rfl, a, cs 13, rfl, T.k_TooMany.own, T.k_TooMany.no _ (by simp), .inl ⟨ha, fun dx n ne => k dx n ne⟩⟩
theorem hc_NoPut (T : Top K mg cs) : HasC P w K mg base (cs 14) "NoPut" ["self"] (spI0 (cs 14)) := by
  obtain ⟨F, fd, iC, tI, f⟩ := T.k_NoPut.ini
  refine ⟨_, _, _, _, F, fd, T.k_NoPut.mg, T.k_NoPut.own, iC, tI, ?_, f.binds fun _ _ _ _ _ _ us hl => match us, hl with | [_], _ => rfl⟩
  refine f.ok sc_NoPut___init__ (fun vs H Q E h => ?_) (fun cdv A outer s H vs Q E hr h => ?_)
  · obtain ⟨a, rfl, _⟩ := h
    rfl
  · have nd := sc_NoPut___init__.nd
    obtain ⟨a, rfl, ha, k⟩ := h
    refine ⟨_, (pss_one (ps_expr (pe_ownInit (newId := "IndexError.__new__") (initId := "IndexError.__init__") (bm := bmI) (by rfl) T.b_IndexError (by decide +kernel) meta_I (by decide +kernel) T.i_IndexError (by decide +kernel) (pa_cons (pv 0) (pa_cons pe_str pa_nil))))), ?_⟩
    exact ⟨_, rfl, ⟨a, cs 14, [_], rfl, by show 1 ≤ 1000; decide, T.k_NoPut.own, ha, k⟩⟩
theorem hc_NoDeed (T : Top K mg cs) : HasC P w K mg base (cs 15) "NoDeed" ["self"] (spI0 (cs 15)) := by
  obtain ⟨F, fd, iC, tI, f⟩ := T.k_NoDeed.ini
  refine ⟨_, _, _, _, F, fd, T.k_NoDeed.mg, T.k_NoDeed.own, iC, tI, ?_, f.binds fun _ _ _ _ _ _ us hl => match us, hl with | [_], _ => rfl⟩
  refine f.ok sc_NoDeed___init__ (fun vs H Q E h => ?_) (fun cdv A outer s H vs Q E hr h => ?_)
  · obtain ⟨a, rfl, _⟩ := h
    rfl
  · have nd := sc_NoDeed___init__.nd
    obtain ⟨a, rfl, ha, k⟩ := h
    refine ⟨_, (pss_one (ps_expr (pe_ownInit (newId := "IndexError.__new__") (initId := "IndexError.__init__") (bm := bmI) (by rfl) T.b_IndexError (by decide +kernel) meta_I (by decide +kernel) T.i_IndexError (by decide +kernel) (pa_cons (pv 0) (pa_cons pe_str pa_nil))))), ?_⟩
    exact ⟨_, rfl, ⟨a, cs 15, [_], rfl, by show 1 ≤ 1000; decide, T.k_NoDeed.own, ha, k⟩⟩
theorem hc_IsBroken (T : Top K mg cs) : HasC P w K mg base (cs 16) "IsBroken" ["self"] (spI0 (cs 16)) := by
  obtain ⟨F, fd, iC, tI, f⟩ := T.k_IsBroken.ini
  refine ⟨_, _, _, _, F, fd, T.k_IsBroken.mg, T.k_IsBroken.own, iC, tI, ?_, f.binds fun _ _ _ _ _ _ us hl => match us, hl with | [_], _ => rfl⟩
  refine f.ok sc_IsBroken___init__ (fun vs H Q E h => ?_) (fun cdv A outer s H vs Q E hr h => ?_)
  · obtain ⟨a, rfl, _⟩ := h
    rfl
  · have nd := sc_IsBroken___init__.nd
    obtain ⟨a, rfl, ha, k⟩ := h
    refine ⟨_, (pss_one (ps_expr (pe_ownInit (newId := "LookupError.__new__") (initId := "LookupError.__init__") (bm := bmL) (by rfl) T.b_LookupError (by decide +kernel) meta_L (by decide +kernel) T.i_LookupError (by decide +kernel) (pa_cons (pv 0) (pa_cons pe_str pa_nil))))), ?_⟩
    exact ⟨_, rfl, ⟨a, cs 16, [_], rfl, by show 1 ≤ 1000; decide, T.k_IsBroken.own, ha, k⟩⟩
theorem hc_HasSome (T : Top K mg cs) : HasC P w K mg base (cs 17) "HasSome" ["self"] (spI0 (cs 17)) := by
  obtain ⟨F, fd, iC, tI, f⟩ := T.k_HasSome.ini
  refine ⟨_, _, _, _, F, fd, T.k_HasSome.mg, T.k_HasSome.own, iC, tI, ?_, f.binds fun _ _ _ _ _ _ us hl => match us, hl with | [_], _ => rfl⟩
  refine f.ok sc_HasSome___init__ (fun vs H Q E h => ?_) (fun cdv A outer s H vs Q E hr h => ?_)
  · obtain ⟨a, rfl, _⟩ := h
    rfl
  · have nd := sc_HasSome___init__.nd
    obtain ⟨a, rfl, ha, k⟩ := h
    refine ⟨_, (pss_one (ps_expr (pe_ownInit (newId := "LookupError.__new__") (initId := "LookupError.__init__") (bm := bmL) (by rfl) T.b_LookupError (by decide +kernel) meta_L (by decide +kernel) T.i_LookupError (by decide +kernel) (pa_cons (pv 0) (pa_cons pe_str pa_nil))))), ?_⟩
    exact ⟨_, rfl, ⟨a, cs 17, [_], rfl, by show 1 ≤ 1000; decide, T.k_HasSome.own, ha, k⟩⟩
end
/-! ### what stands under what -/
section
variable {P : Program} {w : World} {K : PySem.W.Frag} {mg : Str → Option Value} {base : Heap} {cs : Nat → Addr}
theorem all_cls (T : Top K mg cs) : ∀ i, i < 18 → ∃ x qual B newId initId bm st fs, ClsAt K mg (cs i) x qual B newId initId bm st fs ∧ (∀ C : Addr, bm.contains (.ref C) = false) ∧ bm.contains (.type "ValueError") = decide (i < 9) ∧
    bm.contains (.type "KeyError") = (decide (9 ≤ i) && decide (i < 13)) ∧ bm.contains (.type "IndexError") = (decide (13 ≤ i) && decide (i < 16)) ∧ bm.contains (.type "LookupError") = decide (8 < i)
  | 0, _ => ⟨_, _, _, _, _, _, _, _, T.k_NoMarks, fun _ => rfl, by decide +kernel, by decide +kernel, by decide +kernel, by decide +kernel⟩
  | 1, _ => ⟨_, _, _, _, _, _, _, _, T.k_NoPlan, fun _ => rfl, by decide +kernel, by decide +kernel, by decide +kernel, by decide +kernel⟩
  | 2, _ => ⟨_, _, _, _, _, _, _, _, T.k_NoText, fun _ => rfl, by decide +kernel, by decide +kernel, by decide +kernel, by decide +kernel⟩
  | 3, _ => ⟨_, _, _, _, _, _, _, _, T.k_NoKnot, fun _ => rfl, by decide +kernel, by decide +kernel, by decide +kernel, by decide +kernel⟩
  | 4, _ => ⟨_, _, _, _, _, _, _, _, T.k_NoFresh, fun _ => rfl, by decide +kernel, by decide +kernel, by decide +kernel, by decide +kernel⟩
  | 5, _ => ⟨_, _, _, _, _, _, _, _, T.k_NoBound, fun _ => rfl, by decide +kernel, by decide +kernel, by decide +kernel, by decide +kernel⟩
  | 6, _ => ⟨_, _, _, _, _, _, _, _, T.k_NoGrow, fun _ => rfl, by decide +kernel, by decide +kernel, by decide +kernel, by decide +kernel⟩
  | 7, _ => ⟨_, _, _, _, _, _, _, _, T.k_NotWider, fun _ => rfl, by decide +kernel, by decide +kernel, by decide +kernel, by decide +kernel⟩
  | 8, _ => ⟨_, _, _, _, _, _, _, _, T.k_TooFar, fun _ => rfl, by decide +kernel, by decide +kernel, by decide +kernel, by decide +kernel⟩
  | 9, _ => ⟨_, _, _, _, _, _, _, _, T.k_IsPut, fun _ => rfl, by decide +kernel, by decide +kernel, by decide +kernel, by decide +kernel⟩
  | 10, _ => ⟨_, _, _, _, _, _, _, _, T.k_NotOn, fun _ => rfl, by decide +kernel, by decide +kernel, by decide +kernel, by decide +kernel⟩
  | 11, _ => ⟨_, _, _, _, _, _, _, _, T.k_IsRule, fun _ => rfl, by decide +kernel, by decide +kernel, by decide +kernel, by decide +kernel⟩
  | 12, _ => ⟨_, _, _, _, _, _, _, _, T.k_NoRule, fun _ => rfl, by decide +kernel, by decide +kernel, by decide +kernel, by decide +kernel⟩
  | 13, _ => ⟨_, _, _, _, _, _, _, _, T.k_TooMany, fun _ => rfl, by decide +kernel, by decide +kernel, by decide +kernel, by decide +kernel⟩
  | 14, _ => ⟨_, _, _, _, _, _, _, _, T.k_NoPut, fun _ => rfl, by decide +kernel, by decide +kernel, by decide +kernel, by decide +kernel⟩
  | 15, _ => ⟨_, _, _, _, _, _, _, _, T.k_NoDeed, fun _ => rfl, by decide +kernel, by decide +kernel, by decide +kernel, by decide +kernel⟩
  | 16, _ => ⟨_, _, _, _, _, _, _, _, T.k_IsBroken, fun _ => rfl, by decide +kernel, by decide +kernel, by decide +kernel, by decide +kernel⟩
  | 17, _ => ⟨_, _, _, _, _, _, _, _, T.k_HasSome, fun _ => rfl, by decide +kernel, by decide +kernel, by decide +kernel, by decide +kernel⟩
  | i + 18, h => absurd h (by omega)
structure Asked (K : PySem.W.Frag) (cs : Nat → Addr) (j : Nat) : Prop where
  ex : ExcC K (cs j)
  v : PySem.W.kitOne K (.ref (cs j)) (.type "ValueError") = some (decide (j < 9))
  k : PySem.W.kitOne K (.ref (cs j)) (.type "KeyError") = some (decide (9 ≤ j) && decide (j < 13))
  i : PySem.W.kitOne K (.ref (cs j)) (.type "IndexError") = some (decide (13 ≤ j) && decide (j < 16))
  l : PySem.W.kitOne K (.ref (cs j)) (.type "LookupError") = some (decide (8 < j))
  o : ∀ i, i < 18 → PySem.W.kitOne K (.ref (cs j)) (.ref (cs i)) = some (decide (j = i))
theorem asked (T : Top K mg cs) {j : Nat} (h : j < 18) : Asked K cs j := by
  obtain ⟨x, qual, B, newId, initId, bm, st, fs, Y, flat, bv, bk, bi, bl⟩ := all_cls T j h
  refine ⟨Y.ex, kit_base Y (by decide +kernel) bv, kit_base Y (by decide +kernel) bk, kit_base Y (by decide +kernel) bi, kit_base Y (by decide +kernel) bl, fun i hi => ?_⟩
  obtain ⟨x', qual', B', newId', initId', bm', st', fs', Y', _⟩ := all_cls T i hi
  rw [kit_two Y Y' (flat _)]
  congr 1
  by_cases e : j = i
  · subst e
    rw [decide_eq_true rfl, decide_eq_true rfl]
  · rw [decide_eq_false e, decide_eq_false fun z => e (T.one j i h hi z)]
theorem only_one : ∀ j : Fin 18, ((List.range 18).filter fun i => decide (j.val = i)).map (fun i : Nat => (0 : Int) + (i : Int)) = [((j.val : Nat) : Int)] := by decide
def bits (j : Nat) : List Nat → List V := List.map fun i => V.bl (decide (j = i))
def spUnder (cs : Nat → Addr) : Sp := fun vs H Q _ => ∃ (a : Addr) (j : Nat) (d : Option Addr), vs = [.ref a] ∧ j < 18 ∧ H a = some (exo a (cs j) d) ∧ (∀ dx, d = some dx → ∃ fs, H dx = some (exd dx fs)) ∧
  ∀ (H' : Hp) (t l1 l3 : Addr), Same H H' → H' t = some (.tup [.ref l1, .bl (decide (8 < j)), .ref l3]) → H' l1 = some (.lst [.bl (decide (j < 9)), .bl (decide (9 ≤ j) && decide (j < 13)), .bl (decide (13 ≤ j) && decide (j < 16))]) → H' l3 = some (.lst [.int (j : Nat)]) → Q (.ref t) H'
theorem has_under (T : Top K mg cs) : Has P w K mg base 1 "_law_under" ["_law_error"] (spUnder cs) := by
  refine has_of T.d__law_under sc__law_under bd__law_under (fun vs H Q E h => ?_) (fun f cdv A outer s H vs Q E hr h => ?_)
  · obtain ⟨a, j, d, rfl, _⟩ := h
    rfl
  · have hu := hu_of hr
    have nd := sc__law_under.nd
    obtain ⟨a, j, d, rfl, hj, ha, hd, k⟩ := h
    have Z := asked T hj
    have e0 : ∀ {H' : Hp}, Same H H' → H' a = some (exo a (cs j) d) := fun s => s _ _ ha
    have e1 : ∀ {H' : Hp}, Same H H' → ∀ dx, d = some dx → ∃ fs, H' dx = some (exd dx fs) := fun s dx z => by
      obtain ⟨fs, q⟩ := hd dx z
      exact ⟨fs, s _ _ q⟩
    have s0 := Same.refl H
    refine ⟨_, (pss_cons (ps_set (i := 1) nd rfl (.inl rfl) (pe_lst (pa_cons (pe_callB call_isO (by rfl) T.b_isinstance (by decide +kernel) (pa_cons (pv 0) (pa_cons (pe_bltn (v := .ty "ValueError") (u := .type "ValueError") (by rfl) T.b_ValueError (by decide +kernel) (by rfl)) pa_nil))) (pa_cons (pe_callB call_isO (by rfl) T.b_isinstance (by decide +kernel) (pa_cons (pv 0) (pa_cons (pe_bltn (v := .ty "KeyError") (u := .type "KeyError") (by rfl) T.b_KeyError (by decide +kernel) (by rfl)) pa_nil))) (pa_cons (pe_callB call_isO (by rfl) T.b_isinstance (by decide +kernel) (pa_cons (pv 0) (pa_cons (pe_bltn (v := .ty "IndexError") (u := .type "IndexError") (by rfl) T.b_IndexError (by decide +kernel) (by rfl)) pa_nil))) pa_nil)))))
    (pss_cons (ps_set (i := 2) nd rfl (.inr rfl) (pe_lst (pa_cons (pe_callB call_isO (by rfl) T.b_isinstance (by decide +kernel) (pa_cons (pv 0) (pa_cons (pe_cls T.k_NoMarks.mg (by rfl)) pa_nil))) (pa_cons (pe_callB call_isO (by rfl) T.b_isinstance (by decide +kernel) (pa_cons (pv 0) (pa_cons (pe_cls T.k_NoPlan.mg (by rfl)) pa_nil))) (pa_cons (pe_callB call_isO (by rfl) T.b_isinstance (by decide +kernel) (pa_cons (pv 0) (pa_cons (pe_cls T.k_NoText.mg (by rfl)) pa_nil))) pa_nil)))))
    (pss_cons (ps_set (i := 2) nd rfl (.inr rfl) (pe_op op_cat (pv 2) (pe_lst (pa_cons (pe_callB call_isO (by rfl) T.b_isinstance (by decide +kernel) (pa_cons (pv 0) (pa_cons (pe_cls T.k_NoKnot.mg (by rfl)) pa_nil))) (pa_cons (pe_callB call_isO (by rfl) T.b_isinstance (by decide +kernel) (pa_cons (pv 0) (pa_cons (pe_cls T.k_NoFresh.mg (by rfl)) pa_nil))) (pa_cons (pe_callB call_isO (by rfl) T.b_isinstance (by decide +kernel) (pa_cons (pv 0) (pa_cons (pe_cls T.k_NoBound.mg (by rfl)) pa_nil))) pa_nil))))))
    (pss_cons (ps_set (i := 2) nd rfl (.inr rfl) (pe_op op_cat (pv 2) (pe_lst (pa_cons (pe_callB call_isO (by rfl) T.b_isinstance (by decide +kernel) (pa_cons (pv 0) (pa_cons (pe_cls T.k_NoGrow.mg (by rfl)) pa_nil))) (pa_cons (pe_callB call_isO (by rfl) T.b_isinstance (by decide +kernel) (pa_cons (pv 0) (pa_cons (pe_cls T.k_NotWider.mg (by rfl)) pa_nil))) (pa_cons (pe_callB call_isO (by rfl) T.b_isinstance (by decide +kernel) (pa_cons (pv 0) (pa_cons (pe_cls T.k_TooFar.mg (by rfl)) pa_nil))) pa_nil))))))
    (pss_cons (ps_set (i := 2) nd rfl (.inr rfl) (pe_op op_cat (pv 2) (pe_lst (pa_cons (pe_callB call_isO (by rfl) T.b_isinstance (by decide +kernel) (pa_cons (pv 0) (pa_cons (pe_cls T.k_IsPut.mg (by rfl)) pa_nil))) (pa_cons (pe_callB call_isO (by rfl) T.b_isinstance (by decide +kernel) (pa_cons (pv 0) (pa_cons (pe_cls T.k_NotOn.mg (by rfl)) pa_nil))) (pa_cons (pe_callB call_isO (by rfl) T.b_isinstance (by decide +kernel) (pa_cons (pv 0) (pa_cons (pe_cls T.k_IsRule.mg (by rfl)) pa_nil))) pa_nil))))))
    (pss_cons (ps_set (i := 2) nd rfl (.inr rfl) (pe_op op_cat (pv 2) (pe_lst (pa_cons (pe_callB call_isO (by rfl) T.b_isinstance (by decide +kernel) (pa_cons (pv 0) (pa_cons (pe_cls T.k_NoRule.mg (by rfl)) pa_nil))) (pa_cons (pe_callB call_isO (by rfl) T.b_isinstance (by decide +kernel) (pa_cons (pv 0) (pa_cons (pe_cls T.k_TooMany.mg (by rfl)) pa_nil))) (pa_cons (pe_callB call_isO (by rfl) T.b_isinstance (by decide +kernel) (pa_cons (pv 0) (pa_cons (pe_cls T.k_NoPut.mg (by rfl)) pa_nil))) pa_nil))))))
    (pss_cons (ps_set (i := 2) nd rfl (.inr rfl) (pe_op op_cat (pv 2) (pe_lst (pa_cons (pe_callB call_isO (by rfl) T.b_isinstance (by decide +kernel) (pa_cons (pv 0) (pa_cons (pe_cls T.k_NoDeed.mg (by rfl)) pa_nil))) (pa_cons (pe_callB call_isO (by rfl) T.b_isinstance (by decide +kernel) (pa_cons (pv 0) (pa_cons (pe_cls T.k_IsBroken.mg (by rfl)) pa_nil))) (pa_cons (pe_callB call_isO (by rfl) T.b_isinstance (by decide +kernel) (pa_cons (pv 0) (pa_cons (pe_cls T.k_HasSome.mg (by rfl)) pa_nil))) pa_nil))))))
    (pss_one (ps_ret (pe_tup (pa_cons (pv 1) (pa_cons (pe_callB call_isO (by rfl) T.b_isinstance (by decide +kernel) (pa_cons (pv 0) (pa_cons (pe_bltn (v := .ty "LookupError") (u := .type "LookupError") (by rfl) T.b_LookupError (by decide +kernel) (by rfl)) pa_nil))) (pa_cons (pe_lc (own := [("_law_k", 3)]) (by rfl) nd (pi_range1 (by rfl) T.b_range (pa_cons (pe_callB call_len_seq (by rfl) T.b_len (by decide +kernel) (pa_cons (pv 2) pa_nil)) pa_nil)) (blkOk_by (own := [("_law_k", 3)]) (N := nm__law_under) (sc := defScope s__law_under) (by decide +kernel)) (fun _ _ _ _ _ => pg_name (i := 3) nd rfl (.inl rfl)) (fun _ _ _ _ _ => pts_one (pt_val (pe_ix (ix_listK (K := K) rfl) (pv 2) (pv 3) (fun _ _ => rfl)))) (fun _ _ _ _ _ => (pv 3))) pa_nil))))))))))))), ?_⟩
    refine ⟨_, rfl, a, cs j, d, .ty "ValueError", _, _, rfl, .ty _, Z.ex, e0 s0, e1 s0, Z.v, _, rfl, a, cs j, d, .ty "KeyError", _, _, rfl, .ty _, Z.ex, e0 s0, e1 s0, Z.k, _, rfl, a, cs j, d, .ty "IndexError", _, _, rfl, .ty _, Z.ex, e0 s0, e1 s0, Z.i, by show 3 ≤ sizeLine; decide, fun l1 n1 => ?_⟩
    have s1 := same_new (o := .lst [.bl (decide (j < 9)), .bl (decide (9 ≤ j) && decide (j < 13)), .bl (decide (13 ≤ j) && decide (j < 16))]) n1
    have h1 : (upd H l1 (.lst [.bl (decide (j < 9)), .bl (decide (9 ≤ j) && decide (j < 13)), .bl (decide (13 ≤ j) && decide (j < 16))])) l1 = some (.lst [.bl (decide (j < 9)), .bl (decide (9 ≤ j) && decide (j < 13)), .bl (decide (13 ≤ j) && decide (j < 16))]) := upd_same
    generalize upd H l1 (.lst [.bl (decide (j < 9)), .bl (decide (9 ≤ j) && decide (j < 13)), .bl (decide (13 ≤ j) && decide (j < 16))]) = H1 at s1 h1
    refine ⟨_, rfl, a, cs j, d, .ref (cs 0), _, _, rfl, .own _, Z.ex, e0 s1, e1 s1, Z.o 0 (by decide), _, rfl, a, cs j, d, .ref (cs 1), _, _, rfl, .own _, Z.ex, e0 s1, e1 s1, Z.o 1 (by decide), _, rfl, a, cs j, d, .ref (cs 2), _, _, rfl, .own _, Z.ex, e0 s1, e1 s1, Z.o 2 (by decide), by show 3 ≤ sizeLine; decide, fun l2 n2 => ?_⟩
    have s2 := s1.trans (same_new (o := .lst (bits j [0, 1, 2])) n2)
    have h2 := same_new (o := .lst (bits j [0, 1, 2])) n2 _ _ h1
    have g2 : (upd H1 l2 (.lst (bits j [0, 1, 2]))) l2 = some (.lst (bits j [0, 1, 2])) := upd_same
    show tSeq _ _ _ _ (upd H1 l2 (.lst (bits j [0, 1, 2])))
    generalize upd H1 l2 (.lst (bits j [0, 1, 2])) = H2 at s2 h2 g2
    refine ⟨_, rfl, _, rfl, a, cs j, d, .ref (cs 3), _, _, rfl, .own _, Z.ex, e0 s2, e1 s2, Z.o 3 (by decide), _, rfl, a, cs j, d, .ref (cs 4), _, _, rfl, .own _, Z.ex, e0 s2, e1 s2, Z.o 4 (by decide), _, rfl, a, cs j, d, .ref (cs 5), _, _, rfl, .own _, Z.ex, e0 s2, e1 s2, Z.o 5 (by decide), by show 3 ≤ sizeLine; decide, fun m3 p3 => ⟨l2, m3, _, _, rfl, rfl, same_new p3 _ _ g2, upd_same, by show 3 + 3 ≤ sizeLine; decide, fun l3 n3 => ?_⟩⟩
    have s3 : Same H (upd (upd H2 m3 (.lst (bits j [3, 4, 5]))) l3 (.lst (bits j [0, 1, 2, 3, 4, 5]))) := s2.trans ((same_new (o := .lst (bits j [3, 4, 5])) p3).trans (same_new (o := .lst (bits j [0, 1, 2, 3, 4, 5])) n3))
    have h3 : (upd (upd H2 m3 (.lst (bits j [3, 4, 5]))) l3 (.lst (bits j [0, 1, 2, 3, 4, 5]))) l1 = some (.lst [.bl (decide (j < 9)), .bl (decide (9 ≤ j) && decide (j < 13)), .bl (decide (13 ≤ j) && decide (j < 16))]) := same_new (o := .lst (bits j [0, 1, 2, 3, 4, 5])) n3 _ _ (same_new (o := .lst (bits j [3, 4, 5])) p3 _ _ h2)
    have g3 : (upd (upd H2 m3 (.lst (bits j [3, 4, 5]))) l3 (.lst (bits j [0, 1, 2, 3, 4, 5]))) l3 = some (.lst (bits j [0, 1, 2, 3, 4, 5])) := upd_same
    show tSeq _ _ _ _ (upd (upd H2 m3 (.lst (bits j [3, 4, 5]))) l3 (.lst (bits j [0, 1, 2, 3, 4, 5])))
    generalize upd (upd H2 m3 (.lst (bits j [3, 4, 5]))) l3 (.lst (bits j [0, 1, 2, 3, 4, 5])) = H3 at s3 h3 g3
    refine ⟨_, rfl, _, rfl, a, cs j, d, .ref (cs 6), _, _, rfl, .own _, Z.ex, e0 s3, e1 s3, Z.o 6 (by decide), _, rfl, a, cs j, d, .ref (cs 7), _, _, rfl, .own _, Z.ex, e0 s3, e1 s3, Z.o 7 (by decide), _, rfl, a, cs j, d, .ref (cs 8), _, _, rfl, .own _, Z.ex, e0 s3, e1 s3, Z.o 8 (by decide), by show 3 ≤ sizeLine; decide, fun m4 p4 => ⟨l3, m4, _, _, rfl, rfl, same_new p4 _ _ g3, upd_same, by show 6 + 3 ≤ sizeLine; decide, fun l4 n4 => ?_⟩⟩
    have s4 : Same H (upd (upd H3 m4 (.lst (bits j [6, 7, 8]))) l4 (.lst (bits j [0, 1, 2, 3, 4, 5, 6, 7, 8]))) := s3.trans ((same_new (o := .lst (bits j [6, 7, 8])) p4).trans (same_new (o := .lst (bits j [0, 1, 2, 3, 4, 5, 6, 7, 8])) n4))
    have h4 : (upd (upd H3 m4 (.lst (bits j [6, 7, 8]))) l4 (.lst (bits j [0, 1, 2, 3, 4, 5, 6, 7, 8]))) l1 = some (.lst [.bl (decide (j < 9)), .bl (decide (9 ≤ j) && decide (j < 13)), .bl (decide (13 ≤ j) && decide (j < 16))]) := same_new (o := .lst (bits j [0, 1, 2, 3, 4, 5, 6, 7, 8])) n4 _ _ (same_new (o := .lst (bits j [6, 7, 8])) p4 _ _ h3)
    have g4 : (upd (upd H3 m4 (.lst (bits j [6, 7, 8]))) l4 (.lst (bits j [0, 1, 2, 3, 4, 5, 6, 7, 8]))) l4 = some (.lst (bits j [0, 1, 2, 3, 4, 5, 6, 7, 8])) := upd_same
    show tSeq _ _ _ _ (upd (upd H3 m4 (.lst (bits j [6, 7, 8]))) l4 (.lst (bits j [0, 1, 2, 3, 4, 5, 6, 7, 8])))
    generalize upd (upd H3 m4 (.lst (bits j [6, 7, 8]))) l4 (.lst (bits j [0, 1, 2, 3, 4, 5, 6, 7, 8])) = H4 at s4 h4 g4
    refine ⟨_, rfl, _, rfl, a, cs j, d, .ref (cs 9), _, _, rfl, .own _, Z.ex, e0 s4, e1 s4, Z.o 9 (by decide), _, rfl, a, cs j, d, .ref (cs 10), _, _, rfl, .own _, Z.ex, e0 s4, e1 s4, Z.o 10 (by decide), _, rfl, a, cs j, d, .ref (cs 11), _, _, rfl, .own _, Z.ex, e0 s4, e1 s4, Z.o 11 (by decide), by show 3 ≤ sizeLine; decide, fun m5 p5 => ⟨l4, m5, _, _, rfl, rfl, same_new p5 _ _ g4, upd_same, by show 9 + 3 ≤ sizeLine; decide, fun l5 n5 => ?_⟩⟩
    have s5 : Same H (upd (upd H4 m5 (.lst (bits j [9, 10, 11]))) l5 (.lst (bits j [0, 1, 2, 3, 4, 5, 6, 7, 8, 9, 10, 11]))) := s4.trans ((same_new (o := .lst (bits j [9, 10, 11])) p5).trans (same_new (o := .lst (bits j [0, 1, 2, 3, 4, 5, 6, 7, 8, 9, 10, 11])) n5))
    have h5 : (upd (upd H4 m5 (.lst (bits j [9, 10, 11]))) l5 (.lst (bits j [0, 1, 2, 3, 4, 5, 6, 7, 8, 9, 10, 11]))) l1 = some (.lst [.bl (decide (j < 9)), .bl (decide (9 ≤ j) && decide (j < 13)), .bl (decide (13 ≤ j) && decide (j < 16))]) := same_new (o := .lst (bits j [0, 1, 2, 3, 4, 5, 6, 7, 8, 9, 10, 11])) n5 _ _ (same_new (o := .lst (bits j [9, 10, 11])) p5 _ _ h4)
    have g5 : (upd (upd H4 m5 (.lst (bits j [9, 10, 11]))) l5 (.lst (bits j [0, 1, 2, 3, 4, 5, 6, 7, 8, 9, 10, 11]))) l5 = some (.lst (bits j [0, 1, 2, 3, 4, 5, 6, 7, 8, 9, 10, 11])) := upd_same
    show tSeq _ _ _ _ (upd (upd H4 m5 (.lst (bits j [9, 10, 11]))) l5 (.lst (bits j [0, 1, 2, 3, 4, 5, 6, 7, 8, 9, 10, 11])))
    generalize upd (upd H4 m5 (.lst (bits j [9, 10, 11]))) l5 (.lst (bits j [0, 1, 2, 3, 4, 5, 6, 7, 8, 9, 10, 11])) = H5 at s5 h5 g5
    refine ⟨_, rfl, _, rfl, a, cs j, d, .ref (cs 12), _, _, rfl, .own _, Z.ex, e0 s5, e1 s5, Z.o 12 (by decide), _, rfl, a, cs j, d, .ref (cs 13), _, _, rfl, .own _, Z.ex, e0 s5, e1 s5, Z.o 13 (by decide), _, rfl, a, cs j, d, .ref (cs 14), _, _, rfl, .own _, Z.ex, e0 s5, e1 s5, Z.o 14 (by decide), by show 3 ≤ sizeLine; decide, fun m6 p6 => ⟨l5, m6, _, _, rfl, rfl, same_new p6 _ _ g5, upd_same, by show 12 + 3 ≤ sizeLine; decide, fun l6 n6 => ?_⟩⟩
    have s6 : Same H (upd (upd H5 m6 (.lst (bits j [12, 13, 14]))) l6 (.lst (bits j [0, 1, 2, 3, 4, 5, 6, 7, 8, 9, 10, 11, 12, 13, 14]))) := s5.trans ((same_new (o := .lst (bits j [12, 13, 14])) p6).trans (same_new (o := .lst (bits j [0, 1, 2, 3, 4, 5, 6, 7, 8, 9, 10, 11, 12, 13, 14])) n6))
    have h6 : (upd (upd H5 m6 (.lst (bits j [12, 13, 14]))) l6 (.lst (bits j [0, 1, 2, 3, 4, 5, 6, 7, 8, 9, 10, 11, 12, 13, 14]))) l1 = some (.lst [.bl (decide (j < 9)), .bl (decide (9 ≤ j) && decide (j < 13)), .bl (decide (13 ≤ j) && decide (j < 16))]) := same_new (o := .lst (bits j [0, 1, 2, 3, 4, 5, 6, 7, 8, 9, 10, 11, 12, 13, 14])) n6 _ _ (same_new (o := .lst (bits j [12, 13, 14])) p6 _ _ h5)
    have g6 : (upd (upd H5 m6 (.lst (bits j [12, 13, 14]))) l6 (.lst (bits j [0, 1, 2, 3, 4, 5, 6, 7, 8, 9, 10, 11, 12, 13, 14]))) l6 = some (.lst (bits j [0, 1, 2, 3, 4, 5, 6, 7, 8, 9, 10, 11, 12, 13, 14])) := upd_same
    show tSeq _ _ _ _ (upd (upd H5 m6 (.lst (bits j [12, 13, 14]))) l6 (.lst (bits j [0, 1, 2, 3, 4, 5, 6, 7, 8, 9, 10, 11, 12, 13, 14])))
    generalize upd (upd H5 m6 (.lst (bits j [12, 13, 14]))) l6 (.lst (bits j [0, 1, 2, 3, 4, 5, 6, 7, 8, 9, 10, 11, 12, 13, 14])) = H6 at s6 h6 g6
    refine ⟨_, rfl, _, rfl, a, cs j, d, .ref (cs 15), _, _, rfl, .own _, Z.ex, e0 s6, e1 s6, Z.o 15 (by decide), _, rfl, a, cs j, d, .ref (cs 16), _, _, rfl, .own _, Z.ex, e0 s6, e1 s6, Z.o 16 (by decide), _, rfl, a, cs j, d, .ref (cs 17), _, _, rfl, .own _, Z.ex, e0 s6, e1 s6, Z.o 17 (by decide), by show 3 ≤ sizeLine; decide, fun m7 p7 => ⟨l6, m7, _, _, rfl, rfl, same_new p7 _ _ g6, upd_same, by show 15 + 3 ≤ sizeLine; decide, fun l7 n7 => ?_⟩⟩
    have s7 : Same H (upd (upd H6 m7 (.lst (bits j [15, 16, 17]))) l7 (.lst (bits j [0, 1, 2, 3, 4, 5, 6, 7, 8, 9, 10, 11, 12, 13, 14, 15, 16, 17]))) := s6.trans ((same_new (o := .lst (bits j [15, 16, 17])) p7).trans (same_new (o := .lst (bits j [0, 1, 2, 3, 4, 5, 6, 7, 8, 9, 10, 11, 12, 13, 14, 15, 16, 17])) n7))
    have h7 : (upd (upd H6 m7 (.lst (bits j [15, 16, 17]))) l7 (.lst (bits j [0, 1, 2, 3, 4, 5, 6, 7, 8, 9, 10, 11, 12, 13, 14, 15, 16, 17]))) l1 = some (.lst [.bl (decide (j < 9)), .bl (decide (9 ≤ j) && decide (j < 13)), .bl (decide (13 ≤ j) && decide (j < 16))]) := same_new (o := .lst (bits j [0, 1, 2, 3, 4, 5, 6, 7, 8, 9, 10, 11, 12, 13, 14, 15, 16, 17])) n7 _ _ (same_new (o := .lst (bits j [15, 16, 17])) p7 _ _ h6)
    have g7 : (upd (upd H6 m7 (.lst (bits j [15, 16, 17]))) l7 (.lst (bits j [0, 1, 2, 3, 4, 5, 6, 7, 8, 9, 10, 11, 12, 13, 14, 15, 16, 17]))) l7 = some (.lst (bits j [0, 1, 2, 3, 4, 5, 6, 7, 8, 9, 10, 11, 12, 13, 14, 15, 16, 17])) := upd_same
    have lb : (bits j [0, 1, 2, 3, 4, 5, 6, 7, 8, 9, 10, 11, 12, 13, 14, 15, 16, 17]).length = 18 := rfl
    refine ⟨_, rfl, _, rfl, a, cs j, d, .ty "LookupError", _, _, rfl, .ty _, Z.ex, e0 s7, e1 s7, Z.l, _, rfl, l7, _, rfl, .inl (SqL.of g7), _, rfl, by rw [lb]; decide, by rw [lb]; decide, fun D hD => lc_sel_range (lo := 0) (fun i => decide (j = i)) (fun i => .int (0 + (i : Int))) hD (by show 18 ≤ 1000000; decide) (fun i hi => ?_) fun H8 s8 h8 => ?_⟩
    · have at_i : atI (bits j [0, 1, 2, 3, 4, 5, 6, 7, 8, 9, 10, 11, 12, 13, 14, 15, 16, 17]) ((0 : Int) + (i : Int)) = some (.bl (decide (j = i))) := by
        have hi : i < 18 := hi
        refine at_of (j := i) (by omega) ?_
        show (List.map _ (List.range 18))[i]? = _
        rw [List.getElem?_map, List.getElem?_range hi]
        rfl
      exact ⟨rfl, fun H' s' R g => ⟨_, rfl, _, rfl, l7, _, _, _, rfl, rfl, SqL.of (s' _ _ g7), at_i, _, rfl, g H' (Same.refl _)⟩, fun _ H' s' R g => ⟨_, rfl, g H' (Same.refl _)⟩⟩
    · have e8 : H8 D = some (.lst [.int (j : Nat)]) := by
        rw [h8]
        have z := congrArg (List.map V.int) (only_one ⟨j, hj⟩)
        rw [List.map_map] at z
        exact congrArg (fun l => some (HO.lst l)) z
      exact ⟨by show 3 ≤ sizeLine; decide, fun t ht => k _ t l1 D (s7.trans (s8.trans (same_new ht))) upd_same (same_new ht _ _ (s8 _ _ h7)) (same_new ht _ _ e8)⟩
end

/-! ### the draws -/
def spDraw : Sp := fun vs H Q _ => ∃ (t c : Addr) (m : Int) (n : Nat), vs = [.ref t, .int m] ∧ Tape H t c n ∧ n < 2 ^ 40 ∧ 0 < m ∧ m < 2 ^ 8000 ∧
  ∀ (H' : Hp) (r : Int), 0 ≤ r → r < m → Tape H' t c (n + 1) → Kp t H H' → Q (.int r) H'
theorem cell_at {ns : List Int} {spot : Int} (h0 : 0 < ns.length) (hs : 0 ≤ spot) : ∃ x, atI (ns.map V.int) (spot % ((ns.map V.int).length : Int)) = some (.int x) := by
  rw [List.length_map]
  have hp : (0 : Int) < (ns.length : Int) := by omega
  have h1 := Int.emod_nonneg spot (show (ns.length : Int) ≠ 0 by omega)
  have h2 := Int.emod_lt_of_pos spot hp
  have h3 : (spot % (ns.length : Int)).toNat < ns.length := by omega
  refine ⟨ns[(spot % (ns.length : Int)).toNat], at_of (j := (spot % (ns.length : Int)).toNat) (by omega) ?_⟩
  rw [List.getElem?_map, List.getElem?_eq_getElem h3]
  rfl
theorem log2_small {m : Int} (h0 : 0 < m) (h : m < 2 ^ 8000) : m.natAbs.log2 < 9000 := by
  have h2 : m.natAbs < 2 ^ 8000 := by
    have e : ((2 ^ 8000 : Nat) : Int) = (2 : Int) ^ 8000 := by rw [Int.natCast_pow]; rfl
    omega
  exact Nat.lt_of_lt_of_le (PySem.Flt.log2_lt_of (by decide) h2) (by decide)
theorem pow_ok {x spot : Int} {n : Nat} (h0 : 0 ≤ spot) (h1 : spot ≤ n) (h2 : n < 2 ^ 40) : CPow (x % 2147483647 + 69621 * spot + 48271) 17 := by
  have a := Int.emod_nonneg x (show (2147483647 : Int) ≠ 0 by decide)
  have b := Int.emod_lt_of_pos x (show (0 : Int) < 2147483647 by decide)
  refine ⟨by decide, by decide, ?_⟩
  have e : (2 : Nat) ^ 64 = 18446744073709551616 := by decide
  rw [e]
  omega
section
variable {P : Program} {w : World} {K : PySem.W.Frag} {mg : Str → Option Value} {base : Heap}
theorem has_draw {cs : Nat → Addr} (T : Top K mg cs) : Has P w K mg base 1 "_law_draw" ["_law_tape", "_law_many"] spDraw := by
  refine has_of T.d__law_draw sc__law_draw bd__law_draw (fun vs H Q E h => ?_) (fun f cdv A outer s H vs Q E hr h => ?_)
  · obtain ⟨t, c, m, n, rfl, _⟩ := h
    rfl
  · have hu := hu_of hr
    have nd := sc__law_draw.nd
    obtain ⟨t, c, m, n, rfl, ⟨ns, spot, left, tp, hs⟩, hn, hm, hm2, k⟩ := h
    refine ⟨_, (C8.pss_cut (ps_if (pt_cmpR op_lt (pe_dget hu (pv 0) pe_str (fun _ _ => rfl)) (pv 1) (nomark _)) (pss_cons (ps_par (i := 2) (j := 3) (by rfl) nd rfl rfl (by decide) rfl rfl (pa_cons (pe_dget hu (pv 0) pe_str (fun _ _ => rfl)) (pa_cons (pe_callB call_len_seq (by rfl) T.b_len (by decide +kernel) (pa_cons (pe_dget hu (pv 0) pe_str (fun _ _ => rfl)) pa_nil)) pa_nil)) (by rfl))
    (pss_cons (ps_asg (pe_tup (pa_cons (pe_ix ix_list (pe_dget hu (pv 0) pe_str (fun _ _ => rfl)) (pe_op op_mod (pv 2) (pv 3)) (fun _ _ => rfl)) (pa_cons (pe_op op_add (pv 2) pe_int) pa_nil))) (pg_tup (by rfl) (pgs_cons (pg_name (i := 4) nd rfl (.inl rfl)) (pgs_cons (pg_sub (pv 0) pe_str (set_dict hu)) pgs_nil))))
    (pss_cons (ps_dput hu (pv 0) pe_str (pe_op op_mod (pe_op op_pow (pe_op op_add (pe_op op_add (pe_op op_mod (pv 4) pe_int) (pe_op op_mul pe_int (pv 2))) pe_int) pe_int) (pe_op op_add (pe_op op_pow pe_int pe_int) pe_int)) rfl)
    (pss_one (ps_if (PW.pt (pw_and (pt_cmpR op_ge (pv 4) (pe_op op_pow pe_int pe_int) (nomark _)) (pw_and1 (pt_cmpR op_lt (pv 2) (pv 3) (nomark _))))) (pss_one (ps_dput hu (pv 0) pe_str (pe_op op_sub (pv 4) (pe_op op_pow pe_int pe_int)) rfl)) pss_nil))))) pss_nil)
    (pss_cons (ps_asg (pe_tup (pa_cons (pe_op op_mod (pe_dget hu (pv 0) pe_str (fun _ _ => rfl)) (pv 1)) (pa_cons (pe_op op_fdivW (pe_dget hu (pv 0) pe_str (fun _ _ => rfl)) (pv 1)) pa_nil))) (pg_tup (by rfl) (pgs_cons (pg_name (i := 5) nd rfl (.inl rfl)) (pgs_cons (pg_sub (pv 0) pe_str (set_dict hu)) pgs_nil))))
    (pss_one (ps_ret (pv 5))))), ?_⟩
    refine ⟨fun σ' H' => ∃ (v2 v3 v4 v5 : Option V) (spot' left' : Int), σ' = [some (.ref t), some (.int m), v2, v3, v4, v5] ∧ TapeC H' t c ns spot' left' ∧ spot' ≤ ((n + 1 : Nat) : Int) ∧ Kp t H H', ?_, ?_⟩
    · refine ⟨_, rfl, t, _, rfl, dg_left tp.d, _, rfl, _, _, rfl, rfl, _, rfl, ite2 (fun _ => ?_) (fun _ => ?_)⟩
      · obtain ⟨x, hx⟩ := cell_at tp.ne tp.s0
        refine ⟨_, rfl, t, _, rfl, dg_spot tp.d, _, rfl, t, _, rfl, dg_cells tp.d, c, _, rfl, .inl (SqL.of tp.l), _, _, rfl, ?_⟩
        refine ⟨_, rfl, t, _, rfl, dg_cells tp.d, _, rfl, _, rfl, _, _, rfl, rfl, ?_, c, _, _, _, rfl, rfl, SqL.of tp.l, hx, _, rfl, _, _, rfl, rfl, by show 2 ≤ sizeLine; decide, fun p hp => ?_⟩
        · show (0 : Int) < ((ns.map V.int).length : Int)
          rw [List.length_map]
          have := tp.ne
          omega
        have h1 : (upd H p (.tup [.int x, .int (spot + 1)])) t = some (.dK (tk c spot left)) := by
          rw [upd_ne (ne_of_none tp.d hp)]
          exact tp.d
        refine ⟨p, _, rfl, SqT.of upd_same, rfl, _, _, rfl, _, _, rfl, _, rfl, t, _, rfl, dp_spot _ h1, rfl, ?_⟩
        have c1 : (upd (upd H p (.tup [.int x, .int (spot + 1)])) t (.dK (tk c (spot + 1) left))) c = some (.lst (ns.map V.int)) := by
          rw [upd_ne (show c ≠ t from ne_of tp.l tp.d (by intro z; cases z)), upd_ne (ne_of_none tp.l hp)]
          exact tp.l
        refine ⟨_, rfl, _, _, rfl, rfl, by show (0 : Int) < 2147483647; decide, _, rfl, _, _, rfl, rfl, .inl ⟨by decide, by decide⟩, _, _, rfl, rfl, _, _, rfl, rfl, _, _, rfl, rfl, pow_ok tp.s0 hs hn, _, _, rfl, rfl, ⟨by decide, by decide, by decide⟩, _, _, rfl, rfl, _, _, rfl, rfl, ?_, _, rfl, t, _, rfl, dp_left _ upd_same, ?_⟩
        · show (0 : Int) < 10 ^ (50 : Int).toNat + 151
          decide
        have kp : ∀ z, Kp t H (upd (upd (upd H p (.tup [.int x, .int (spot + 1)])) t (.dK (tk c (spot + 1) left))) t (.dK (tk c (spot + 1) z))) := fun z => ((Kp.new hp).trans Kp.at).trans Kp.at
        have tq : ∀ z, 0 ≤ z → TapeC (upd (upd (upd H p (.tup [.int x, .int (spot + 1)])) t (.dK (tk c (spot + 1) left))) t (.dK (tk c (spot + 1) z))) t c ns (spot + 1) z := fun z hz =>
          ⟨upd_same, by rw [upd_ne (show c ≠ t from ne_of tp.l tp.d (by intro z; cases z))]; exact c1, tp.ne, tp.lt, by have := tp.s0; omega, hz⟩
        have h0 : ∀ a : Int, 0 ≤ a % (10 ^ (50 : Int).toNat + 151) := fun a => Int.emod_nonneg _ (by decide)
        refine ⟨_, rfl, _, _, rfl, rfl, ⟨by decide, by decide, by decide⟩, _, _, rfl, rfl, _, rfl, ite2 (fun hc => ?_) (fun _ => iteF ?_)⟩
        · refine ⟨_, rfl, _, rfl, _, _, rfl, rfl, _, rfl, ite2 (fun _ => ?_) (fun _ => ?_)⟩
          · refine ⟨_, rfl, _, _, rfl, rfl, ⟨by decide, by decide, by decide⟩, _, _, rfl, rfl, _, rfl, t, _, rfl, dp_left _ upd_same, ?_⟩
            have hz : (10 : Int) ^ (18 : Int).toNat ≤ x := of_decide_eq_true hc
            exact ⟨_, _, _, _, spot + 1, x - 10 ^ (18 : Int).toNat, rfl, ⟨upd_same, by rw [upd_ne (show c ≠ t from ne_of tp.l tp.d (by intro z; cases z))]; exact (tq _ (h0 _)).l, tp.ne, tp.lt, by have := tp.s0; omega, by omega⟩, by omega, (kp _).trans Kp.at⟩
          · exact ⟨_, _, _, _, _, _, rfl, tq _ (h0 _), by omega, kp _⟩
        · exact ⟨_, _, _, _, _, _, rfl, tq _ (h0 _), by omega, kp _⟩
      · exact ⟨_, _, _, _, _, _, rfl, tp, by omega, Kp.refl _⟩
    · rintro σ' H' ⟨v2, v3, v4, v5, spot', left', rfl, tp', hs', kp⟩
      refine ⟨_, rfl, t, _, rfl, dg_left tp'.d, _, rfl, _, _, rfl, rfl, hm, _, rfl, t, _, rfl, dg_left tp'.d, _, rfl, _, _, rfl, rfl, ⟨hm, ?_⟩, by show 2 ≤ sizeLine; decide, fun p hp => ?_⟩
      · exact log2_small hm hm2
      have h1 : ∀ o, (upd H' p o) t = some (.dK (tk c spot' left')) := fun o => by
          rw [upd_ne (ne_of_none tp'.d hp)]
          exact tp'.d
      refine ⟨p, _, rfl, SqT.of upd_same, rfl, _, _, rfl, _, _, rfl, _, rfl, t, _, rfl, dp_left _ (h1 _), rfl, ?_⟩
      refine ⟨_, rfl, k _ _ (Int.emod_nonneg _ (by omega)) (Int.emod_lt_of_pos _ hm) ?_ ?_⟩
      · exact ⟨ns, spot', _, ⟨upd_same, by rw [upd_ne (show c ≠ t from ne_of tp'.l tp'.d (by intro z; cases z)), upd_ne (ne_of_none tp'.l hp)]; exact tp'.l, tp'.ne, tp'.lt, tp'.s0, Int.ediv_nonneg tp'.l0 (by omega)⟩, hs'⟩
      · exact (kp.trans (Kp.new hp)).trans Kp.at
/-- a pick from a list or a tuple -/
def spPick (K : PySem.W.Frag) : Sp := fun vs H Q _ => ∃ (t c a : Addr) (xs : List V) (n : Nat), vs = [.ref t, .ref a] ∧ Tape H t c n ∧ n < 2 ^ 40 ∧ (∀ H', Kp t H H' → SqL K H' a xs ∨ SqT K H' a xs) ∧ 0 < xs.length ∧ xs.length ≤ 1000000 ∧
  ∀ (H' : Hp) (i : Nat) (v : V), xs[i]? = some v → Tape H' t c (n + 1) → Kp t H H' → Q v H'
theorem has_pick {cs : Nat → Addr} (T : Top K mg cs) (h__law_draw : Has P w K mg base 1 "_law_draw" ["_law_tape", "_law_many"] spDraw) : Has P w K mg base 2 "_law_pick" ["_law_tape", "_law_some"] (spPick K) := by
  refine has_of T.d__law_pick sc__law_pick bd__law_pick (fun vs H Q E h => ?_) (fun f cdv A outer s H vs Q E hr h => ?_)
  · obtain ⟨t, c, a, xs, n, rfl, _⟩ := h
    rfl
  · have hu := hu_of hr
    have nd := sc__law_pick.nd
    obtain ⟨t, c, a, xs, n, rfl, tp, hn, hs, h0, h1, k⟩ := h
    refine ⟨_, (pss_one (ps_ret (pe_ix ix_seq (pv 1) (pe_has h__law_draw (hr.mono (by omega)) (by rfl) (pa_cons (pv 0) (pa_cons (pe_callB call_len_seq (by rfl) T.b_len (by decide +kernel) (pa_cons (pv 1) pa_nil)) pa_nil))) (fun _ _ => rfl)))), ?_⟩
    refine ⟨_, rfl, _, rfl, _, rfl, a, xs, rfl, hs H (Kp.refl _), t, c, _, n, rfl, tp, hn, by omega, ?_, fun H' r r0 r1 tp' kp => ?_⟩
    · exact Int.lt_of_le_of_lt (Int.ofNat_le.mpr h1) (by decide +kernel)
    have hi : r.toNat < xs.length := by omega
    have g : xs[r.toNat]? = some xs[r.toNat] := List.getElem?_eq_getElem hi
    rcases hs H' kp with z | z
    · exact .inl ⟨a, xs, r, _, rfl, rfl, z, at_of (by omega) g, k H' _ _ g tp' kp⟩
    · exact .inr (.inl ⟨a, xs, r, _, rfl, rfl, z, at_of (by omega) g, k H' _ _ g tp' kp⟩)
/-- the tape's beginning -/
def spBegun (K : PySem.W.Frag) : Sp := fun vs H Q _ => ∃ (a : Addr) (ns : List Int), vs = [.ref a] ∧ SqL K H a (ns.map V.int) ∧ ns.length ≤ 63 ∧
  ∀ (H' : Hp) (t c : Addr), H t = none → H c = none → Same H H' → Tape H' t c 0 → Q (.ref t) H'
theorem has_begun {cs : Nat → Addr} (T : Top K mg cs) : Has P w K mg base 1 "_law_begun" ["_law_script"] (spBegun K) := by
  refine has_of T.d__law_begun sc__law_begun bd__law_begun (fun vs H Q E h => ?_) (fun f cdv A outer s H vs Q E hr h => ?_)
  · obtain ⟨a, ns, rfl, _⟩ := h
    rfl
  · have hu := hu_of hr
    have nd := sc__law_begun.nd
    obtain ⟨a, ns, rfl, hS, hl, k⟩ := h
    refine ⟨_, (pss_one (ps_ret (pe_disp (pps_cons pe_str (pe_orT (pe_slice sl_list (pv 0) po_none (po_some pe_int)) (pe_one (pe_lst (pa_cons pe_int pa_nil)))) (pps_cons pe_str pe_int (pps_cons pe_str pe_int pps_nil))) (by rfl) (by rfl) (fun z => by cases z) (by decide)))), ?_⟩
    intro t ht
    have s1 := same_new (o := .dK []) ht
    refine ⟨_, rfl, 63, rfl, a, _, rfl, s1.seq hS, fun q hq => ?_⟩
    have ec : cutV (ns.map V.int) none (some 63) = ns.map V.int := by
      unfold cutV
      rw [HT.sIx_none, show HT.sIx (ns.map V.int).length (ns.map V.int).length (some 63) = min 63 (ns.map V.int).length from HT.sIx_nat _ _ 63, List.drop_zero, List.length_map]
      refine List.take_of_length_le ?_
      rw [List.length_map]
      omega
    rw [ec]
    have nqt : q ≠ t := fun e => by
      rw [e, upd_same] at hq
      cases hq
    have nq : H q = none := by
      rw [← hq, upd_ne nqt]
    cases hns : ns with
    | cons z zs =>
      refine ⟨true, .inl ⟨_, SqL.of upd_same, rfl⟩, iteT ?_⟩
      refine ⟨by rw [upd_ne nqt.symm]; exact upd_same, tk q 0 0, rfl, by show 3 ≤ 15; decide, ?_⟩
      refine k _ t q ht nq (fun b o e => ?_) ⟨z :: zs, 0, 0, ⟨upd_same, by rw [upd_ne nqt]; exact upd_same, by rw [List.length_cons]; omega, by rw [← hns]; exact hl, by decide, by decide⟩, by decide⟩
      rw [upd_ne (ne_of_none e ht), upd_ne (ne_of_none e nq), upd_ne (ne_of_none e ht)]
      exact e
    | nil =>
      refine ⟨false, .inl ⟨_, SqL.of upd_same, rfl⟩, iteF ?_⟩
      refine ⟨by show 1 ≤ sizeLine; decide, fun p hp => ?_⟩
      have npq : p ≠ q := fun e => by
        rw [e, upd_same] at hp
        cases hp
      have npt : p ≠ t := fun e => by
        rw [e, upd_ne nqt.symm, upd_same] at hp
        cases hp
      have np : H p = none := by
        rw [← hp, upd_ne npq, upd_ne npt]
      refine ⟨by rw [upd_ne npt.symm, upd_ne nqt.symm]; exact upd_same, tk p 0 0, rfl, by show 3 ≤ 15; decide, ?_⟩
      refine k _ t p ht np (fun b o e => ?_) ⟨[0], 0, 0, ⟨upd_same, by rw [upd_ne npt]; exact upd_same, by decide, by decide, by decide, by decide⟩, by decide⟩
      rw [upd_ne (ne_of_none e ht), upd_ne (ne_of_none e np), upd_ne (ne_of_none e nq), upd_ne (ne_of_none e ht)]
      exact e
end

/-! ### lists of fields, as data -/
inductive FldS : V → Prop where
  | int (i : Int) (a : -999999999999 < i) (b : i < 999999999999) : FldS (.int i)
  | str (z : Str) (h : z.length ≤ 100) (k : PyData.strOk z = true) : FldS (.str z)
  | non : FldS .non
theorem FldS.fld {v : V} (h : FldS v) : Fld v := by
  cases h with
  | int i a b => exact .int i a b
  | str z h k => exact .str z h
  | non => exact .non
def fldD : V → PyData
  | .int i => .int i
  | .str z => .str z
  | _ => .none
structure OneD (K : PySem.W.Frag) (H : Hp) (v : V) : Prop where
  dp : Dp K H v (fldD v)
  lay : (fldD v).canLay0 = true
  dep : (fldD v).depth ≤ 0
  wei : (fldD v).weight ≤ 2000
  sho : (fldD v).intsShort 13 = true
  abl : (fldD v).showable = true
  noD : (fldD v).hasDict = false
theorem FldS.d {K : PySem.W.Frag} {H : Hp} {v : V} (h : FldS v) : OneD K H v := by
  cases h with
  | int i a b =>
    refine ⟨.int i, rfl, Nat.le_refl _, ?_, ?_, ?_, rfl⟩
    · have l := fld_log a b
      show (if (i == 0) = true then 0 else i.natAbs.log2 + 1) ≤ 2000
      split <;> omega
    · exact decide_eq_true (fld_short a b)
    · exact decide_eq_true (fld_log a b)
  | str z h k => exact ⟨.str z, k, Nat.le_refl _, Nat.le_trans (show z.cps.size ≤ 100 from h) (by decide), rfl, rfl, rfl⟩
  | non => exact ⟨.non, rfl, Nat.le_refl _, by decide, rfl, rfl, rfl⟩
structure AllD (K : PySem.W.Frag) (H : Hp) (l : List V) : Prop where
  dp : DpAll K H l (l.map fldD)
  lay : PyData.canLayAll0 (l.map fldD) = true
  dep : PyData.depthAll (l.map fldD) ≤ 0
  wei : PyData.weightAll (l.map fldD) ≤ 2001 * l.length
  sho : PyData.intsShortAll 13 (l.map fldD) = true
  abl : PyData.showableAll (l.map fldD) = true
  noD : PyData.hasDictAll (l.map fldD) = false
theorem all_d {K : PySem.W.Frag} {H : Hp} : ∀ {l : List V}, (∀ v ∈ l, FldS v) → AllD K H l
  | [], _ => ⟨.nil, rfl, Nat.le_refl _, Nat.le_refl _, rfl, rfl, rfl⟩
  | x :: r, h => by
    have a := (h x List.mem_cons_self).d (K := K) (H := H)
    have b := all_d (K := K) (H := H) fun v hv => h v (List.mem_cons_of_mem _ hv)
    refine ⟨.cons a.dp b.dp, ?_, ?_, ?_, ?_, ?_, ?_⟩
    · rw [List.map_cons, PyData.canLayAll0, a.lay, b.lay]
      rfl
    · rw [List.map_cons, PyData.depthAll]
      exact Nat.max_le.mpr ⟨a.dep, b.dep⟩
    · rw [List.map_cons, PyData.weightAll, List.length_cons]
      have h1 := a.wei
      have h2 := b.wei
      omega
    · rw [List.map_cons, PyData.intsShortAll, a.sho, b.sho]
      rfl
    · rw [List.map_cons, PyData.showableAll, a.abl, b.abl]
      rfl
    · rw [List.map_cons, PyData.hasDictAll, a.noD, b.noD]
      rfl
def listD (l : List V) : PyData := .list (l.map fldD)
theorem list_d {K : PySem.W.Frag} {H : Hp} {p : Addr} {l : List V} (h : ∀ v ∈ l, FldS v) (few : l.length ≤ 100) (hp : H p = some (.lst l)) :
    Dp K H (.ref p) (listD l) ∧ (listD l).showable = true ∧ (listD l).hasDict = false ∧ (listD l).depth ≤ 60 ∧ (listD l).shown.length ≤ sizeLine := by
  have z := all_d (K := K) (H := H) h
  have dp : (listD l).depth ≤ 1 := by
    unfold listD
    rw [PyData.depth]
    exact Nat.succ_le_succ z.dep
  refine ⟨.lst (SqL.of hp) z.dp, ?_, ?_, Nat.le_trans dp (by decide), ?_⟩
  · unfold listD
    rw [PyData.showable]
    exact z.abl
  · unfold listD
    rw [PyData.hasDict]
    exact z.noD
  · refine Nat.le_trans (shown_le13 (d := listD l) ?_ ?_) (by decide)
    · unfold PyData.layable0
      rw [decide_eq_true (Nat.le_trans dp (by decide)), decide_eq_true]
      · unfold listD
        rw [PyData.canLay0, z.lay]
        rfl
      · unfold listD
        rw [PyData.weight]
        have w := z.wei
        omega
    · unfold listD
      rw [PyData.intsShort]
      exact z.sho
/-! ### an exception that is held, with its fields -/
def Err (H : Hp) (a C : Addr) (fs : List (Str × V)) : Prop := (fs = [] ∧ H a = some (exo a C none)) ∨ ∃ dx, H a = some (exo a C (some dx)) ∧ H dx = some (exd dx fs)
theorem Err.same {H H' : Hp} {a C : Addr} {fs : List (Str × V)} (h : Err H a C fs) (s : Same H H') : Err H' a C fs := by
  rcases h with ⟨e, h⟩ | ⟨dx, h1, h2⟩
  · exact .inl ⟨e, s _ _ h⟩
  · exact .inr ⟨dx, s _ _ h1, s _ _ h2⟩
theorem Err.is {H : Hp} {a C : Addr} {fs : List (Str × V)} (h : Err H a C fs) : ∃ d, H a = some (exo a C d) ∧ ∀ dx, d = some dx → ∃ fs, H dx = some (exd dx fs) := by
  rcases h with ⟨_, h⟩ | ⟨dx, h1, h2⟩
  · exact ⟨none, h, fun dx z => by cases z⟩
  · refine ⟨some dx, h1, fun d z => ?_⟩
    cases z
    exact ⟨fs, h2⟩
theorem Err.has {H : Hp} {a C : Addr} {p : Str × V} {fs : List (Str × V)} (h : Err H a C (p :: fs)) : ∃ dx, H a = some (exo a C (some dx)) ∧ H dx = some (exd dx (p :: fs)) := by
  rcases h with ⟨e, _⟩ | h
  · cases e
  · exact h
section
variable {H : Hp} {a dx C : Addr} {f g : Str} {u v : V}
theorem err0 (n : H a = none) : Same H (upd H a (exo a C none)) ∧ Err (upd H a (exo a C none)) a C [] := ⟨same_new n, .inl ⟨rfl, upd_same⟩⟩
theorem err1 (n : H a = none) (m : (upd H a (exo a C none)) dx = none) (e : dx ≠ a) :
    Same H (upd (upd (upd H a (exo a C none)) dx (exd dx [(f, v)])) a (exo a C (some dx))) ∧ Err (upd (upd (upd H a (exo a C none)) dx (exd dx [(f, v)])) a (exo a C (some dx))) a C [(f, v)] := by
  have m0 : H dx = none := by
    rw [← m, upd_ne e]
  refine ⟨fun b o h => ?_, .inr ⟨dx, upd_same, by rw [upd_ne e, upd_same]⟩⟩
  rw [upd_ne (ne_of_none h n), upd_ne (ne_of_none h m0), upd_ne (ne_of_none h n)]
  exact h
theorem err2 (n : H a = none) (m : (upd H a (exo a C none)) dx = none) (e : dx ≠ a) :
    Same H (upd (upd (upd (upd H a (exo a C none)) dx (exd dx [(f, u)])) a (exo a C (some dx))) dx (exd dx [(g, v), (f, u)])) ∧
      Err (upd (upd (upd (upd H a (exo a C none)) dx (exd dx [(f, u)])) a (exo a C (some dx))) dx (exd dx [(g, v), (f, u)])) a C [(g, v), (f, u)] := by
  have m0 : H dx = none := by
    rw [← m, upd_ne e]
  refine ⟨fun b o h => ?_, .inr ⟨dx, by rw [upd_ne e.symm, upd_same], upd_same⟩⟩
  rw [upd_ne (ne_of_none h m0), upd_ne (ne_of_none h n), upd_ne (ne_of_none h m0), upd_ne (ne_of_none h n)]
  exact h
end
/-! ### what two things are told as, one beside the other -/
def underD (b1 b2 b3 b4 : Bool) (j : Int) : PyData := .tuple [.list [.bool b1, .bool b2, .bool b3], .bool b4, .list [.int j]]
theorem under_dp {K : PySem.W.Frag} {H : Hp} {t l m : Addr} {b1 b2 b3 b4 : Bool} {j : Int} (ht : H t = some (.tup [.ref l, .bl b4, .ref m])) (hl : H l = some (.lst [.bl b1, .bl b2, .bl b3])) (hm : H m = some (.lst [.int j])) : Dp K H (.ref t) (underD b1 b2 b3 b4 j) :=
  .tup (SqT.of ht) (.cons (.lst (SqL.of hl) (.cons (.bl _) (.cons (.bl _) (.cons (.bl _) .nil)))) (.cons (.bl _) (.cons (.lst (SqL.of hm) (.cons (.int _) .nil)) .nil)))
theorem under_shape (b1 b2 b3 b4 : Bool) (j : Int) : SeqAt.shaped (underD b1 b2 b3 b4 j) = true := by
  unfold SeqAt.shaped underD
  simp [PyData.canLay0, PyData.canLayAll0, PyData.depth, PyData.depthAll]
theorem under_lay (b1 b2 b3 b4 : Bool) (j : Int) : (underD b1 b2 b3 b4 j).canLay0 = true := by
  unfold underD
  simp [PyData.canLay0, PyData.canLayAll0]

/-! ### the law -/
def Errs (H : Hp) (cs : Nat → Addr) (l : List (Addr × List (Str × V))) : Prop := ∀ j p, l[j]? = some p → Err H p.1 (cs j) p.2
theorem Errs.nil {H : Hp} {cs : Nat → Addr} : Errs H cs [] := fun j p h => by simp at h
theorem Errs.same {H H' : Hp} {cs : Nat → Addr} {l : List (Addr × List (Str × V))} (h : Errs H cs l) (s : Same H H') : Errs H' cs l := fun j p z => (h j p z).same s
theorem Errs.snoc {H H' : Hp} {cs : Nat → Addr} {l : List (Addr × List (Str × V))} {a : Addr} {fs : List (Str × V)} (h : Errs H cs l) (s : Same H H') (e : Err H' a (cs l.length) fs) : Errs H' cs (l ++ [(a, fs)]) := fun j p z => by
  rcases Nat.lt_trichotomy j l.length with c | c | c
  · rw [List.getElem?_append_left c] at z
    exact (h j p z).same s
  · subst c
    rw [List.getElem?_append_right (Nat.le_refl _), Nat.sub_self] at z
    cases z
    exact e
  · rw [List.getElem?_append_right (by omega)] at z
    have e1 := (List.getElem?_eq_some_iff.mp z).1
    simp only [List.length_cons, List.length_nil] at e1
    omega
def spLaw (K : PySem.W.Frag) : Sp := fun vs H Q _ => ∃ (a : Addr) (ns : List Int), vs = [.ref a] ∧ SqL K H a (ns.map V.int) ∧ ns.length ≤ 63 ∧ ∀ H', Q (.bl true) H'
section
variable {P : Program} {w : World} {K : PySem.W.Frag} {mg : Str → Option Value} {base : Heap} {cs : Nat → Addr}
theorem at_law {f : Addr} {fd : FuncData} (F : Fun K "law" "law" s_law f fd) (T : Top K mg cs) : RunAt P w K mg base f fd ["_law_script"] (spLaw K) := by
  have h__law_begun := has_begun (P := P) (w := w) (base := base) T
  have h__law_draw := has_draw (P := P) (w := w) (base := base) T
  have h__law_pick := has_pick T h__law_draw
  have h__law_under := has_under (P := P) (w := w) (base := base) T
  have h_NoMarks := hc_NoMarks (P := P) (w := w) (base := base) T
  have h_NoPlan := hc_NoPlan (P := P) (w := w) (base := base) T
  have h_NoText := hc_NoText (P := P) (w := w) (base := base) T
  have h_NoKnot := hc_NoKnot (P := P) (w := w) (base := base) T
  have h_NoFresh := hc_NoFresh (P := P) (w := w) (base := base) T
  have h_NoBound := hc_NoBound (P := P) (w := w) (base := base) T
  have h_NoGrow := hc_NoGrow (P := P) (w := w) (base := base) T
  have h_NotWider := hc_NotWider (P := P) (w := w) (base := base) T
  have h_TooFar := hc_TooFar (P := P) (w := w) (base := base) T
  have h_IsPut := hc_IsPut (P := P) (w := w) (base := base) T
  have h_NotOn := hc_NotOn (P := P) (w := w) (base := base) T
  have h_IsRule := hc_IsRule (P := P) (w := w) (base := base) T
  have h_NoRule := hc_NoRule (P := P) (w := w) (base := base) T
  have h_TooMany := hc_TooMany (P := P) (w := w) (base := base) T
  have h_NoPut := hc_NoPut (P := P) (w := w) (base := base) T
  have h_NoDeed := hc_NoDeed (P := P) (w := w) (base := base) T
  have h_IsBroken := hc_IsBroken (P := P) (w := w) (base := base) T
  have h_HasSome := hc_HasSome (P := P) (w := w) (base := base) T
  refine run_at (k := 3) F sc_law ⟨rfl, by decide, by decide⟩ (fun vs H Q E h => ?_) (fun cdv s H vs Q E hr h => ?_)
  · obtain ⟨a, ns, rfl, _⟩ := h
    rfl
  · have hu := hu_of hr
    have nd := sc_law.nd
    have hg : (callerA.deeper (envOfC "law" (defScope s_law) s.heap.objs.size f cdv)).guards = some [] := rfl
    obtain ⟨a, ns, rfl, hS, hl, k⟩ := h
    refine ⟨_, (pss_cons (ps_set (i := 1) nd rfl (.inl rfl) (pe_has h__law_begun (hr.mono (by omega)) (by rfl) (pa_cons (pv 0) pa_nil)))
    (pss_cons (ps_for PassesOwn.never rfl (pi_range1 (by rfl) T.b_range (pa_cons pe_int pa_nil)) (pg_name (i := 2) nd rfl (.inl rfl))
      (pss_cons (ps_par (i := 3) (j := 4) (by rfl) nd rfl rfl (by decide) rfl rfl (pa_cons (pe_op op_add pe_int (pe_has h__law_draw (hr.mono (by omega)) (by rfl) (pa_cons (pv 1) (pa_cons pe_int pa_nil)))) (pa_cons (pe_has h__law_pick (hr.mono (by omega)) (by rfl) (pa_cons (pv 1) (pa_cons (pe_lst (pa_cons pe_non (pa_cons pe_int (pa_cons (pe_un un_neg pe_int) (pa_cons (pe_op op_pow pe_int pe_int) (pa_cons (pe_op op_add pe_int (pe_has h__law_draw (hr.mono (by omega)) (by rfl) (pa_cons (pv 1) (pa_cons (pe_op op_pow pe_int pe_int) pa_nil)))) pa_nil)))))) pa_nil))) pa_nil)) (by rfl))
    (pss_cons (ps_set (i := 5) nd rfl (.inl rfl) (pe_has h__law_pick (hr.mono (by omega)) (by rfl) (pa_cons (pv 1) (pa_cons (pe_lst (pa_cons pe_str (pa_cons pe_str (pa_cons pe_str (pa_cons pe_str pa_nil))))) pa_nil))))
    (pss_cons (ps_set (i := 6) nd rfl (.inl rfl) (pe_lst (pa_cons (pe_hasC0 h_NoMarks (hr.mono (by omega)) (by rfl)) (pa_cons (pe_hasC0 h_NoPlan (hr.mono (by omega)) (by rfl)) (pa_cons (pe_hasC0 h_NoText (hr.mono (by omega)) (by rfl)) (pa_cons (pe_hasC h_NoKnot (hr.mono (by omega)) (by rfl) (pa_cons (pv 3) pa_nil)) (pa_cons (pe_hasC h_NoFresh (hr.mono (by omega)) (by rfl) (pa_cons (pv 3) pa_nil)) (pa_cons (pe_hasC h_NoBound (hr.mono (by omega)) (by rfl) (pa_cons (pv 3) (pa_cons (pe_op op_sub (pv 3) pe_int) pa_nil))) (pa_cons (pe_hasC0 h_NoGrow (hr.mono (by omega)) (by rfl)) pa_nil)))))))))
    (pss_cons (ps_set (i := 6) nd rfl (.inl rfl) (pe_op op_cat (pv 6) (pe_lst (pa_cons (pe_hasC h_NotWider (hr.mono (by omega)) (by rfl) (pa_cons (pv 3) pa_nil)) (pa_cons (pe_hasC h_TooFar (hr.mono (by omega)) (by rfl) (pa_cons (pv 3) pa_nil)) (pa_cons (pe_hasC h_IsPut (hr.mono (by omega)) (by rfl) (pa_cons (pv 3) pa_nil)) (pa_cons (pe_hasC h_NotOn (hr.mono (by omega)) (by rfl) (pa_cons (pv 4) pa_nil)) (pa_cons (pe_hasC h_IsRule (hr.mono (by omega)) (by rfl) (pa_cons (pv 5) pa_nil)) (pa_cons (pe_hasC h_NoRule (hr.mono (by omega)) (by rfl) (pa_cons (pv 5) pa_nil)) pa_nil)))))))))
    (pss_cons (ps_set (i := 6) nd rfl (.inl rfl) (pe_op op_cat (pv 6) (pe_lst (pa_cons (pe_hasC h_TooMany (hr.mono (by omega)) (by rfl) (pa_cons (pv 3) pa_nil)) (pa_cons (pe_hasC0 h_NoPut (hr.mono (by omega)) (by rfl)) (pa_cons (pe_hasC0 h_NoDeed (hr.mono (by omega)) (by rfl)) (pa_cons (pe_hasC0 h_IsBroken (hr.mono (by omega)) (by rfl)) (pa_cons (pe_hasC0 h_HasSome (hr.mono (by omega)) (by rfl)) pa_nil))))))))
    (pss_cons (ps_for PassesOwn.never rfl (pi_range1 (by rfl) T.b_range (pa_cons pe_int pa_nil)) (pg_name (i := 7) nd rfl (.inl rfl))
      (C8.pss_cut (ps_set (i := 8) nd rfl (.inl rfl) (pe_lst (pa_cons (pe_cmpR op_lt (pv 7) pe_int (nomark _)) (pa_cons (pe_chain op_le op_lt pe_int (pv 7) pe_int) (pa_cons (pe_chain op_le op_lt pe_int (pv 7) pe_int) pa_nil)))))
    (pss_one (ps_if (pt_cmpR (op_neD hr.units) (pe_has h__law_under (hr.mono (by omega)) (by rfl) (pa_cons (pe_ix ix_list (pv 6) (pv 7) (fun _ _ => rfl)) pa_nil)) (pe_tup (pa_cons (pv 8) (pa_cons (pe_cmpR op_gt (pv 7) pe_int (nomark _)) (pa_cons (pe_lst (pa_cons (pv 7) pa_nil)) pa_nil)))) (nomark _)) (pss_one (ps_ret pe_bl)) pss_nil))))
    (pss_cons (ps_set (i := 9) nd rfl (.inl rfl) (pe_lst (pa_cons (pe_ownF (pe_ix ix_list (pv 6) pe_int (fun _ _ => rfl))) (pa_cons (pe_ownF (pe_ix ix_list (pv 6) pe_int (fun _ _ => rfl))) (pa_cons (pe_ownF (pe_ix ix_list (pv 6) pe_int (fun _ _ => rfl))) (pa_cons (pe_ownF (pe_ix ix_list (pv 6) pe_int (fun _ _ => rfl))) (pa_cons (pe_ownF (pe_ix ix_list (pv 6) pe_int (fun _ _ => rfl))) (pa_cons (pe_ownF (pe_ix ix_list (pv 6) pe_int (fun _ _ => rfl))) pa_nil))))))))
    (pss_cons (ps_set (i := 9) nd rfl (.inl rfl) (pe_op op_cat (pv 9) (pe_lst (pa_cons (pe_ownF (pe_ix ix_list (pv 6) pe_int (fun _ _ => rfl))) (pa_cons (pe_ownF (pe_ix ix_list (pv 6) pe_int (fun _ _ => rfl))) (pa_cons (pe_ownF (pe_ix ix_list (pv 6) pe_int (fun _ _ => rfl))) (pa_cons (pe_ownF (pe_ix ix_list (pv 6) pe_int (fun _ _ => rfl))) (pa_cons (pe_ownF (pe_ix ix_list (pv 6) pe_int (fun _ _ => rfl))) pa_nil))))))))
    (pss_one (ps_if (pt_cmpR op_ne (pe_callB (call_reprD hg hr.units) (by rfl) T.b_repr (by decide +kernel) (pa_cons (pv 9) pa_nil)) (pe_callB (call_reprD hg hr.units) (by rfl) T.b_repr (by decide +kernel) (pa_cons (pe_lst (pa_cons (pv 3) (pa_cons (pv 3) (pa_cons (pv 3) (pa_cons (pe_op op_sub (pv 3) pe_int) (pa_cons (pv 3) (pa_cons (pv 3) (pa_cons (pv 3) (pa_cons (pv 4) (pa_cons (pv 5) (pa_cons (pv 5) (pa_cons (pv 3) pa_nil)))))))))))) pa_nil)) (nomark _)) (pss_one (ps_ret pe_bl)) pss_nil)))))))))))
    (pss_one (ps_ret pe_bl)))), ?_⟩
    refine ⟨_, rfl, a, ns, rfl, hS, hl, fun H1 t c ht hc sm tp => ?_⟩
    refine ⟨3, rfl, by decide, by decide, for_range (lo := 0) (fun i σ H2 => ∃ v2 v3 v4 v5 v6 v7 v8 v9, σ = [some (.ref a), some (.ref t), v2, v3, v4, v5, v6, v7, v8, v9] ∧ Tape H2 t c (10 * i)) ⟨none, none, none, none, none, none, none, none, rfl, tp⟩ ?_ ?_⟩
    · rintro i σ H2 hi ⟨v2, v3, v4, v5, v6, v7, v8, v9, rfl, tp2⟩
      have hi2 : i < 3 := hi
      refine ⟨_, rfl, t, c, _, _, rfl, tp2, by omega, by decide, by decide +kernel, fun H3 r3 a3 b3 tp3 kp3 => ⟨_, _, rfl, rfl, ?_⟩⟩
      refine ⟨_, rfl, _, rfl, _, _, rfl, rfl, ⟨by decide, by decide, by decide⟩, _, rfl, _, _, rfl, rfl, ⟨by decide, by decide, by decide⟩, t, c, _, _, rfl, tp3, by omega, by decide, by decide +kernel, fun H4 r4 a4 b4 tp4 kp4 => ⟨_, _, rfl, rfl, by show 5 ≤ sizeLine; decide, fun d5 h5 => ?_⟩⟩
      refine ⟨t, c, d5, _, _, rfl, tp4.new h5, by omega, fun H' kp => .inl (SqL.of (kp d5 _ upd_same (tp4.fresh h5))), by show 0 < 5; decide, by show 5 ≤ 1000000; decide, fun H6 i6 x g6 tp6 kp6 => ⟨_, _, rfl, ?_⟩⟩
      have e6 : (10 : Int) ^ (6 : Int).toNat = 1000000 := by decide
      rw [e6] at b4
      have fx : FldS x := by
        have m := List.mem_of_getElem? g6
        simp only [List.mem_cons, List.not_mem_nil, or_false] at m
        rcases m with rfl | rfl | rfl | rfl | rfl
        · exact .non
        · exact .int 5 (by decide) (by decide)
        · exact .int (-7) (by decide) (by decide)
        · exact .int _ (by decide) (by decide)
        · exact .int _ (by omega) (by omega)
      refine ⟨_, rfl, by show 4 ≤ sizeLine; decide, fun d7 h7 => ⟨t, c, d7, _, _, rfl, tp6.new h7, by omega, fun H' kp => .inl (SqL.of (kp d7 _ upd_same (tp6.fresh h7))), by show 0 < 4; decide, by show 4 ≤ 1000000; decide, fun H8 i8 y g8 tp8 kp8 => ?_⟩⟩
      have fy : ∃ z : Str, y = .str z ∧ z.length ≤ 100 ∧ PyData.strOk z = true := by
        have m := List.mem_of_getElem? g8
        simp only [List.mem_cons, List.not_mem_nil, or_false] at m
        rcases m with rfl | rfl | rfl | rfl
        all_goals exact ⟨_, rfl, by decide +kernel, by decide +kernel⟩
      obtain ⟨z, rfl, z1, z2⟩ := fy
      have fw : FldS (.str z) := .str z z1 z2
      have fo : FldS (.int (2 + r3)) := .int _ (by omega) (by omega)
      have fp : FldS (.int (2 + r3 - 1)) := .int _ (by omega) (by omega)
      have tp9 : Tape H8 t c (10 * (i + 1)) := tp8.le (by omega)
      have S0 := Same.refl H8
      have E0 : Errs H8 cs [] := .nil
      refine ⟨by show 0 ≤ 1000; decide, fun a0 n0 => ⟨_, rfl, upd_same, rfl, ?_⟩⟩
      have z0 := err0 (C := cs 0) n0
      generalize upd H8 a0 (exo a0 (cs 0) none) = G0 at z0
      have S1 := S0.trans z0.1
      have E1 := E0.snoc z0.1 z0.2
      refine ⟨by show 0 ≤ 1000; decide, fun a1 n1 => ⟨_, rfl, upd_same, rfl, ?_⟩⟩
      have z1 := err0 (C := cs 1) n1
      generalize upd G0 a1 (exo a1 (cs 1) none) = G1 at z1
      have S2 := S1.trans z1.1
      have E2 := E1.snoc z1.1 z1.2
      refine ⟨by show 0 ≤ 1000; decide, fun a2 n2 => ⟨_, rfl, upd_same, rfl, ?_⟩⟩
      have z2 := err0 (C := cs 2) n2
      generalize upd G1 a2 (exo a2 (cs 2) none) = G2 at z2
      have S3 := S2.trans z2.1
      have E3 := E2.snoc z2.1 z2.2
      refine ⟨_, rfl, by show 1 ≤ 1000; decide, fun a3 n3 => ⟨_, _, rfl, fo.fld, upd_same, fun x3 m3 e3 => ⟨rfl, ?_⟩⟩⟩
      have z3 := err1 (C := cs 3) (f := "number") (v := V.int (2 + r3)) n3 m3 e3
      generalize upd (upd (upd G2 a3 (exo a3 (cs 3) none)) x3 (exd x3 [("number", V.int (2 + r3))])) a3 (exo a3 (cs 3) (some x3)) = G3 at z3
      have S4 := S3.trans z3.1
      have E4 := E3.snoc z3.1 z3.2
      refine ⟨_, rfl, by show 1 ≤ 1000; decide, fun a4 n4 => ⟨_, _, rfl, fo.fld, upd_same, fun x4 m4 e4 => ⟨rfl, ?_⟩⟩⟩
      have z4 := err1 (C := cs 4) (f := "lowest") (v := V.int (2 + r3)) n4 m4 e4
      generalize upd (upd (upd G3 a4 (exo a4 (cs 4) none)) x4 (exd x4 [("lowest", V.int (2 + r3))])) a4 (exo a4 (cs 4) (some x4)) = G4 at z4
      have S5 := S4.trans z4.1
      have E5 := E4.snoc z4.1 z4.2
      refine ⟨_, rfl, _, rfl, _, _, rfl, rfl, by show 2 ≤ 1000; decide, fun a5 n5 => ⟨_, _, _, rfl, fo.fld, fp.fld, upd_same, fun x5 m5 e5 => ⟨rfl, ?_⟩⟩⟩
      have z5 := err2 (C := cs 5) (f := "low") (u := V.int (2 + r3)) (g := "high") (v := V.int (2 + r3 - 1)) n5 m5 e5
      generalize upd (upd (upd (upd G4 a5 (exo a5 (cs 5) none)) x5 (exd x5 [("low", V.int (2 + r3))])) a5 (exo a5 (cs 5) (some x5))) x5 (exd x5 [("high", V.int (2 + r3 - 1)), ("low", V.int (2 + r3))]) = G5 at z5
      have S6 := S5.trans z5.1
      have E6 := E5.snoc z5.1 z5.2
      refine ⟨by show 0 ≤ 1000; decide, fun a6 n6 => ⟨_, rfl, upd_same, rfl, ?_⟩⟩
      have z6 := err0 (C := cs 6) n6
      generalize upd G5 a6 (exo a6 (cs 6) none) = G6 at z6
      have S7 := S6.trans z6.1
      have E7 := E6.snoc z6.1 z6.2
      refine ⟨by show 7 ≤ sizeLine; decide, fun L p => ?_⟩
      have S8 := S7.trans (same_new (o := .lst [V.ref a0, V.ref a1, V.ref a2, V.ref a3, V.ref a4, V.ref a5, V.ref a6]) p)
      have E8 := E7.same (same_new (o := .lst [V.ref a0, V.ref a1, V.ref a2, V.ref a3, V.ref a4, V.ref a5, V.ref a6]) p)
      have q8 : (upd G6 L (.lst [V.ref a0, V.ref a1, V.ref a2, V.ref a3, V.ref a4, V.ref a5, V.ref a6])) L = some (.lst [V.ref a0, V.ref a1, V.ref a2, V.ref a3, V.ref a4, V.ref a5, V.ref a6]) := upd_same
      generalize upd G6 L (.lst [V.ref a0, V.ref a1, V.ref a2, V.ref a3, V.ref a4, V.ref a5, V.ref a6]) = M1 at S8 E8 q8
      refine ⟨_, rfl, ?_⟩
      refine ⟨_, rfl, by show 1 ≤ 1000; decide, fun a7 n7 => ⟨_, _, rfl, fo.fld, upd_same, fun x7 m7 e7 => ⟨rfl, ?_⟩⟩⟩
      have z7 := err1 (C := cs 7) (f := "cap") (v := V.int (2 + r3)) n7 m7 e7
      generalize upd (upd (upd M1 a7 (exo a7 (cs 7) none)) x7 (exd x7 [("cap", V.int (2 + r3))])) a7 (exo a7 (cs 7) (some x7)) = G7 at z7
      have S9 := S8.trans z7.1
      have E9 := E8.snoc z7.1 z7.2
      have q9 := z7.1 _ _ q8
      refine ⟨_, rfl, by show 1 ≤ 1000; decide, fun a8 n8 => ⟨_, _, rfl, fo.fld, upd_same, fun x8 m8 e8 => ⟨rfl, ?_⟩⟩⟩
      have z8 := err1 (C := cs 8) (f := "cap") (v := V.int (2 + r3)) n8 m8 e8
      generalize upd (upd (upd G7 a8 (exo a8 (cs 8) none)) x8 (exd x8 [("cap", V.int (2 + r3))])) a8 (exo a8 (cs 8) (some x8)) = G8 at z8
      have S10 := S9.trans z8.1
      have E10 := E9.snoc z8.1 z8.2
      have q10 := z8.1 _ _ q9
      refine ⟨_, rfl, by show 1 ≤ 1000; decide, fun a9 n9 => ⟨_, _, rfl, fo.fld, upd_same, fun x9 m9 e9 => ⟨rfl, ?_⟩⟩⟩
      have z9 := err1 (C := cs 9) (f := "name") (v := V.int (2 + r3)) n9 m9 e9
      generalize upd (upd (upd G8 a9 (exo a9 (cs 9) none)) x9 (exd x9 [("name", V.int (2 + r3))])) a9 (exo a9 (cs 9) (some x9)) = G9 at z9
      have S11 := S10.trans z9.1
      have E11 := E10.snoc z9.1 z9.2
      have q11 := z9.1 _ _ q10
      refine ⟨_, rfl, by show 1 ≤ 1000; decide, fun a10 n10 => ⟨_, _, rfl, fx.fld, upd_same, fun x10 m10 e10 => ⟨rfl, ?_⟩⟩⟩
      have z10 := err1 (C := cs 10) (f := "mark") (v := x) n10 m10 e10
      generalize upd (upd (upd G9 a10 (exo a10 (cs 10) none)) x10 (exd x10 [("mark", x)])) a10 (exo a10 (cs 10) (some x10)) = G10 at z10
      have S12 := S11.trans z10.1
      have E12 := E11.snoc z10.1 z10.2
      have q12 := z10.1 _ _ q11
      refine ⟨_, rfl, by show 1 ≤ 1000; decide, fun a11 n11 => ⟨_, _, rfl, fw.fld, upd_same, fun x11 m11 e11 => ⟨rfl, ?_⟩⟩⟩
      have z11 := err1 (C := cs 11) (f := "word") (v := V.str z) n11 m11 e11
      generalize upd (upd (upd G10 a11 (exo a11 (cs 11) none)) x11 (exd x11 [("word", V.str z)])) a11 (exo a11 (cs 11) (some x11)) = G11 at z11
      have S13 := S12.trans z11.1
      have E13 := E12.snoc z11.1 z11.2
      have q13 := z11.1 _ _ q12
      refine ⟨_, rfl, by show 1 ≤ 1000; decide, fun a12 n12 => ⟨_, _, rfl, fw.fld, upd_same, fun x12 m12 e12 => ⟨rfl, ?_⟩⟩⟩
      have z12 := err1 (C := cs 12) (f := "word") (v := V.str z) n12 m12 e12
      generalize upd (upd (upd G11 a12 (exo a12 (cs 12) none)) x12 (exd x12 [("word", V.str z)])) a12 (exo a12 (cs 12) (some x12)) = G12 at z12
      have S14 := S13.trans z12.1
      have E14 := E13.snoc z12.1 z12.2
      have q14 := z12.1 _ _ q13
      refine ⟨by show 6 ≤ sizeLine; decide, fun K2 p2 => ⟨L, K2, _, _, rfl, rfl, same_new p2 _ _ q14, upd_same, by show 7 + 6 ≤ sizeLine; decide, fun L2 o2 => ?_⟩⟩
      have S15 := S14.trans ((same_new (o := .lst [V.ref a7, V.ref a8, V.ref a9, V.ref a10, V.ref a11, V.ref a12]) p2).trans (same_new (o := .lst ([V.ref a0, V.ref a1, V.ref a2, V.ref a3, V.ref a4, V.ref a5, V.ref a6] ++ [V.ref a7, V.ref a8, V.ref a9, V.ref a10, V.ref a11, V.ref a12])) o2))
      have E15 := E14.same ((same_new (o := .lst [V.ref a7, V.ref a8, V.ref a9, V.ref a10, V.ref a11, V.ref a12]) p2).trans (same_new (o := .lst ([V.ref a0, V.ref a1, V.ref a2, V.ref a3, V.ref a4, V.ref a5, V.ref a6] ++ [V.ref a7, V.ref a8, V.ref a9, V.ref a10, V.ref a11, V.ref a12])) o2))
      have q15 : (upd (upd G12 K2 (.lst [V.ref a7, V.ref a8, V.ref a9, V.ref a10, V.ref a11, V.ref a12])) L2 (.lst ([V.ref a0, V.ref a1, V.ref a2, V.ref a3, V.ref a4, V.ref a5, V.ref a6] ++ [V.ref a7, V.ref a8, V.ref a9, V.ref a10, V.ref a11, V.ref a12]))) L2 = some (.lst ([V.ref a0, V.ref a1, V.ref a2, V.ref a3, V.ref a4, V.ref a5, V.ref a6] ++ [V.ref a7, V.ref a8, V.ref a9, V.ref a10, V.ref a11, V.ref a12])) := upd_same
      generalize upd (upd G12 K2 (.lst [V.ref a7, V.ref a8, V.ref a9, V.ref a10, V.ref a11, V.ref a12])) L2 (.lst ([V.ref a0, V.ref a1, V.ref a2, V.ref a3, V.ref a4, V.ref a5, V.ref a6] ++ [V.ref a7, V.ref a8, V.ref a9, V.ref a10, V.ref a11, V.ref a12])) = M2 at S15 E15 q15
      refine ⟨_, rfl, ?_⟩
      refine ⟨_, rfl, by show 1 ≤ 1000; decide, fun a13 n13 => ⟨_, _, rfl, fo.fld, upd_same, fun x13 m13 e13 => ⟨rfl, ?_⟩⟩⟩
      have z13 := err1 (C := cs 13) (f := "many") (v := V.int (2 + r3)) n13 m13 e13
      generalize upd (upd (upd M2 a13 (exo a13 (cs 13) none)) x13 (exd x13 [("many", V.int (2 + r3))])) a13 (exo a13 (cs 13) (some x13)) = G13 at z13
      have S16 := S15.trans z13.1
      have E16 := E15.snoc z13.1 z13.2
      have q16 := z13.1 _ _ q15
      refine ⟨by show 0 ≤ 1000; decide, fun a14 n14 => ⟨_, rfl, upd_same, rfl, ?_⟩⟩
      have z14 := err0 (C := cs 14) n14
      generalize upd G13 a14 (exo a14 (cs 14) none) = G14 at z14
      have S17 := S16.trans z14.1
      have E17 := E16.snoc z14.1 z14.2
      have q17 := z14.1 _ _ q16
      refine ⟨by show 0 ≤ 1000; decide, fun a15 n15 => ⟨_, rfl, upd_same, rfl, ?_⟩⟩
      have z15 := err0 (C := cs 15) n15
      generalize upd G14 a15 (exo a15 (cs 15) none) = G15 at z15
      have S18 := S17.trans z15.1
      have E18 := E17.snoc z15.1 z15.2
      have q18 := z15.1 _ _ q17
      refine ⟨by show 0 ≤ 1000; decide, fun a16 n16 => ⟨_, rfl, upd_same, rfl, ?_⟩⟩
      have z16 := err0 (C := cs 16) n16
      generalize upd G15 a16 (exo a16 (cs 16) none) = G16 at z16
      have S19 := S18.trans z16.1
      have E19 := E18.snoc z16.1 z16.2
      have q19 := z16.1 _ _ q18
      refine ⟨by show 0 ≤ 1000; decide, fun a17 n17 => ⟨_, rfl, upd_same, rfl, ?_⟩⟩
      have z17 := err0 (C := cs 17) n17
      generalize upd G16 a17 (exo a17 (cs 17) none) = G17 at z17
      have S20 := S19.trans z17.1
      have E20 := E19.snoc z17.1 z17.2
      have q20 := z17.1 _ _ q19
      refine ⟨by show 5 ≤ sizeLine; decide, fun K3 p3 => ⟨L2, K3, _, _, rfl, rfl, same_new p3 _ _ q20, upd_same, by show 13 + 5 ≤ sizeLine; decide, fun L3 o3 => ?_⟩⟩
      have S21 := S20.trans ((same_new (o := .lst [V.ref a13, V.ref a14, V.ref a15, V.ref a16, V.ref a17]) p3).trans (same_new (o := .lst ([V.ref a0, V.ref a1, V.ref a2, V.ref a3, V.ref a4, V.ref a5, V.ref a6] ++ [V.ref a7, V.ref a8, V.ref a9, V.ref a10, V.ref a11, V.ref a12] ++ [V.ref a13, V.ref a14, V.ref a15, V.ref a16, V.ref a17])) o3))
      have E21 := E20.same ((same_new (o := .lst [V.ref a13, V.ref a14, V.ref a15, V.ref a16, V.ref a17]) p3).trans (same_new (o := .lst ([V.ref a0, V.ref a1, V.ref a2, V.ref a3, V.ref a4, V.ref a5, V.ref a6] ++ [V.ref a7, V.ref a8, V.ref a9, V.ref a10, V.ref a11, V.ref a12] ++ [V.ref a13, V.ref a14, V.ref a15, V.ref a16, V.ref a17])) o3))
      have q21 : (upd (upd G17 K3 (.lst [V.ref a13, V.ref a14, V.ref a15, V.ref a16, V.ref a17])) L3 (.lst ([V.ref a0, V.ref a1, V.ref a2, V.ref a3, V.ref a4, V.ref a5, V.ref a6] ++ [V.ref a7, V.ref a8, V.ref a9, V.ref a10, V.ref a11, V.ref a12] ++ [V.ref a13, V.ref a14, V.ref a15, V.ref a16, V.ref a17]))) L3 = some (.lst ([V.ref a0, V.ref a1, V.ref a2, V.ref a3, V.ref a4, V.ref a5, V.ref a6] ++ [V.ref a7, V.ref a8, V.ref a9, V.ref a10, V.ref a11, V.ref a12] ++ [V.ref a13, V.ref a14, V.ref a15, V.ref a16, V.ref a17])) := upd_same
      generalize upd (upd G17 K3 (.lst [V.ref a13, V.ref a14, V.ref a15, V.ref a16, V.ref a17])) L3 (.lst ([V.ref a0, V.ref a1, V.ref a2, V.ref a3, V.ref a4, V.ref a5, V.ref a6] ++ [V.ref a7, V.ref a8, V.ref a9, V.ref a10, V.ref a11, V.ref a12] ++ [V.ref a13, V.ref a14, V.ref a15, V.ref a16, V.ref a17])) = M3 at S21 E21 q21
      have EE : Errs M3 cs [(a0, []), (a1, []), (a2, []), (a3, [("number", V.int (2 + r3))]), (a4, [("lowest", V.int (2 + r3))]), (a5, [("high", V.int (2 + r3 - 1)), ("low", V.int (2 + r3))]), (a6, []), (a7, [("cap", V.int (2 + r3))]), (a8, [("cap", V.int (2 + r3))]), (a9, [("name", V.int (2 + r3))]), (a10, [("mark", x)]), (a11, [("word", V.str z)]), (a12, [("word", V.str z)]), (a13, [("many", V.int (2 + r3))]), (a14, []), (a15, []), (a16, []), (a17, [])] := E21
      have qq : M3 L3 = some (.lst (List.map (fun p : Addr × List (Str × V) => V.ref p.1) [(a0, []), (a1, []), (a2, []), (a3, [("number", V.int (2 + r3))]), (a4, [("lowest", V.int (2 + r3))]), (a5, [("high", V.int (2 + r3 - 1)), ("low", V.int (2 + r3))]), (a6, []), (a7, [("cap", V.int (2 + r3))]), (a8, [("cap", V.int (2 + r3))]), (a9, [("name", V.int (2 + r3))]), (a10, [("mark", x)]), (a11, [("word", V.str z)]), (a12, [("word", V.str z)]), (a13, [("many", V.int (2 + r3))]), (a14, []), (a15, []), (a16, []), (a17, [])])) := q21
      have SS := S21
      clear S0 S1 S2 S3 S4 S5 S6 S7 S8 S9 S10 S11 S12 S13 S14 S15 S16 S17 S18 S19 S20 S21 E0 E1 E2 E3 E4 E5 E6 E7 E8 E9 E10 E11 E12 E13 E14 E15 E16 E17 E18 E19 E20 E21
      generalize hL : ([(a0, []), (a1, []), (a2, []), (a3, [("number", V.int (2 + r3))]), (a4, [("lowest", V.int (2 + r3))]), (a5, [("high", V.int (2 + r3 - 1)), ("low", V.int (2 + r3))]), (a6, []), (a7, [("cap", V.int (2 + r3))]), (a8, [("cap", V.int (2 + r3))]), (a9, [("name", V.int (2 + r3))]), (a10, [("mark", x)]), (a11, [("word", V.str z)]), (a12, [("word", V.str z)]), (a13, [("many", V.int (2 + r3))]), (a14, []), (a15, []), (a16, []), (a17, [])] : List (Addr × List (Str × V))) = prs at EE qq
      have lp : prs.length = 18 := by rw [← hL]; rfl
      refine ⟨18, rfl, by decide, by decide, for_range (lo := 0) (fun k σ H' => ∃ u7 u8 u9, σ = [some (.ref a), some (.ref t), some (.int (0 + i)), some (.int (2 + r3)), some x, some (.str z), some (.ref L3), u7, u8, u9] ∧ Same M3 H') ⟨_, _, _, rfl, Same.refl _⟩ ?_ ?_⟩
      · rintro j σ HA hj ⟨u7, u8, u9, rfl, sA⟩
        have hj2 : j < 18 := hj
        refine ⟨fun σ' H' => ∃ l, σ' = [some (.ref a), some (.ref t), some (.int (0 + i)), some (.int (2 + r3)), some x, some (.str z), some (.ref L3), some (.int (0 + j)), some (.ref l), u9] ∧ Same M3 H' ∧ H' l = some (.lst [.bl (decide (j < 9)), .bl (decide (9 ≤ j) && decide (j < 13)), .bl (decide (13 ≤ j) && decide (j < 16))]), ?_, ?_⟩
        · have c1 : decide ((0 : Int) + (j : Int) < 9) = decide (j < 9) := decide_eq_decide.mpr (by omega)
          have c2 : decide ((9 : Int) ≤ 0 + (j : Int)) = decide (9 ≤ j) := decide_eq_decide.mpr (by omega)
          have c3 : decide ((0 : Int) + (j : Int) < 13) = decide (j < 13) := decide_eq_decide.mpr (by omega)
          have c4 : decide ((13 : Int) ≤ 0 + (j : Int)) = decide (13 ≤ j) := decide_eq_decide.mpr (by omega)
          have c5 : decide ((0 : Int) + (j : Int) < 16) = decide (j < 16) := decide_eq_decide.mpr (by omega)
          refine ⟨_, rfl, _, _, rfl, rfl, _, rfl, _, _, rfl, rfl, _, rfl, ite2 (fun h1 => ?_) (fun h1 => ?_)⟩
          all_goals rw [c2] at h1
          · refine ⟨_, _, rfl, rfl, _, rfl, _, _, rfl, rfl, _, rfl, ite2 (fun h2 => ?_) (fun h2 => ?_)⟩
            all_goals rw [c4] at h2
            · refine ⟨_, _, rfl, rfl, by show 3 ≤ sizeLine; decide, fun l n => ⟨l, rfl, sA.trans (same_new n), ?_⟩⟩
              rw [upd_same]
              dsimp only
              rw [c1, c3, c5, h1, h2, Bool.true_and, Bool.true_and]
            · refine ⟨by show 3 ≤ sizeLine; decide, fun l n => ⟨l, rfl, sA.trans (same_new n), ?_⟩⟩
              rw [upd_same]
              dsimp only
              rw [c1, c3, h1, Bool.true_and, Bool.eq_false_iff.mpr h2, Bool.false_and]
          · refine ⟨_, rfl, _, _, rfl, rfl, _, rfl, ite2 (fun h2 => ?_) (fun h2 => ?_)⟩
            all_goals rw [c4] at h2
            · refine ⟨_, _, rfl, rfl, by show 3 ≤ sizeLine; decide, fun l n => ⟨l, rfl, sA.trans (same_new n), ?_⟩⟩
              rw [upd_same]
              dsimp only
              rw [c1, c5, h2, Bool.true_and, Bool.eq_false_iff.mpr h1, Bool.false_and]
            · refine ⟨by show 3 ≤ sizeLine; decide, fun l n => ⟨l, rfl, sA.trans (same_new n), ?_⟩⟩
              rw [upd_same]
              dsimp only
              rw [c1, Bool.eq_false_iff.mpr h1, Bool.eq_false_iff.mpr h2, Bool.false_and, Bool.false_and]
        · rintro σ' HB ⟨l, rfl, sB, hl⟩
          have g : prs[j]? = some (prs[j]'(by omega)) := List.getElem?_eq_getElem (by omega)
          have at_j : atI (List.map (fun p : Addr × List (Str × V) => V.ref p.1) prs) ((0 : Int) + (j : Int)) = some (.ref (prs[j]'(by omega)).1) := by
            refine at_of (j := j) (by omega) ?_
            rw [List.getElem?_map, g]
            rfl
          obtain ⟨d, d1, d2⟩ := ((EE.same sB) j _ g).is
          refine ⟨_, rfl, _, rfl, L3, _, _, _, rfl, rfl, SqL.of (sB _ _ qq), at_j, _, j, d, rfl, hj2, d1, d2, fun HC tt l1 l3 sC h1 h2 h3 => ?_⟩
          refine ⟨_, rfl, _, rfl, _, _, rfl, rfl, _, rfl, by show 1 ≤ sizeLine; decide, fun l4 n4 => ⟨by show 3 ≤ sizeLine; decide, fun t5 n5 => ?_⟩⟩
          have c6 : decide ((8 : Int) < 0 + (j : Int)) = decide (8 < j) := decide_eq_decide.mpr (by omega)
          have c7 : (0 : Int) + (j : Int) = (j : Int) := Int.zero_add _
          have sD := (same_new (o := .lst [V.int (0 + (j : Int))]) n4).trans (same_new (o := .tup [V.ref l, V.bl (decide ((8 : Int) < 0 + (j : Int))), V.ref l4]) n5)
          refine ⟨underD (decide (j < 9)) (decide (9 ≤ j) && decide (j < 13)) (decide (13 ≤ j) && decide (j < 16)) (decide (8 < j)) (j : Int), underD (decide (j < 9)) (decide (9 ≤ j) && decide (j < 13)) (decide (13 ≤ j) && decide (j < 16)) (decide (8 < j)) (j : Int), under_dp (sD _ _ h1) (sD _ _ h2) (sD _ _ h3), under_dp (m := l4) (by rw [upd_same]; dsimp only; rw [c6]) (sD _ _ (sC _ _ hl)) (by
            rw [same_new n5 _ _ upd_same, c7]), under_shape _ _ _ _ _, under_shape _ _ _ _ _, _, rfl, ?_⟩
          rw [SeqAt.eqv_refl _ (under_lay _ _ _ _ _)]
          exact iteF ⟨_, _, _, rfl, sB.trans (sC.trans sD)⟩
      · rintro σ HA ⟨u7, u8, u9, rfl, sA⟩
        have EA := EE.same sA
        have qA := sA _ _ qq
        rw [← hL] at EA qA
        obtain ⟨y3, ya3, yb3⟩ := (EA 3 _ rfl).has
        obtain ⟨y4, ya4, yb4⟩ := (EA 4 _ rfl).has
        obtain ⟨y5, ya5, yb5⟩ := (EA 5 _ rfl).has
        obtain ⟨y7, ya7, yb7⟩ := (EA 7 _ rfl).has
        obtain ⟨y8, ya8, yb8⟩ := (EA 8 _ rfl).has
        obtain ⟨y9, ya9, yb9⟩ := (EA 9 _ rfl).has
        obtain ⟨y10, ya10, yb10⟩ := (EA 10 _ rfl).has
        obtain ⟨y11, ya11, yb11⟩ := (EA 11 _ rfl).has
        obtain ⟨y12, ya12, yb12⟩ := (EA 12 _ rfl).has
        obtain ⟨y13, ya13, yb13⟩ := (EA 13 _ rfl).has
        refine ⟨_, rfl, L3, _, _, _, rfl, rfl, SqL.of qA, atI_nat (j := 3) rfl, a3, cs 3, y3, _, _, rfl, T.k_NoKnot.xf, T.k_NoKnot.no _ (by simp), ya3, yb3, rfl, _, rfl, L3, _, _, _, rfl, rfl, SqL.of qA, atI_nat (j := 4) rfl, a4, cs 4, y4, _, _, rfl, T.k_NoFresh.xf, T.k_NoFresh.no _ (by simp), ya4, yb4, rfl, _, rfl, L3, _, _, _, rfl, rfl, SqL.of qA, atI_nat (j := 5) rfl, a5, cs 5, y5, _, _, rfl, T.k_NoBound.xf, T.k_NoBound.no _ (by simp), ya5, yb5, rfl, _, rfl, L3, _, _, _, rfl, rfl, SqL.of qA, atI_nat (j := 5) rfl, a5, cs 5, y5, _, _, rfl, T.k_NoBound.xf, T.k_NoBound.no _ (by simp), ya5, yb5, rfl, _, rfl, L3, _, _, _, rfl, rfl, SqL.of qA, atI_nat (j := 7) rfl, a7, cs 7, y7, _, _, rfl, T.k_NotWider.xf, T.k_NotWider.no _ (by simp), ya7, yb7, rfl, _, rfl, L3, _, _, _, rfl, rfl, SqL.of qA, atI_nat (j := 8) rfl, a8, cs 8, y8, _, _, rfl, T.k_TooFar.xf, T.k_TooFar.no _ (by simp), ya8, yb8, rfl, by show 6 ≤ sizeLine; decide, fun F1 m1 => ?_⟩
        have w1 := same_new (o := .lst [V.int (2 + r3), V.int (2 + r3), V.int (2 + r3), V.int (2 + r3 - 1), V.int (2 + r3), V.int (2 + r3)]) m1
        refine ⟨_, rfl, _, rfl, L3, _, _, _, rfl, rfl, SqL.of (w1 _ _ qA), atI_nat (j := 9) rfl, a9, cs 9, y9, _, _, rfl, T.k_IsPut.xf, T.k_IsPut.no _ (by simp), (w1 _ _ ya9), (w1 _ _ yb9), rfl, _, rfl, L3, _, _, _, rfl, rfl, SqL.of (w1 _ _ qA), atI_nat (j := 10) rfl, a10, cs 10, y10, _, _, rfl, T.k_NotOn.xf, T.k_NotOn.no _ (by simp), (w1 _ _ ya10), (w1 _ _ yb10), rfl, _, rfl, L3, _, _, _, rfl, rfl, SqL.of (w1 _ _ qA), atI_nat (j := 11) rfl, a11, cs 11, y11, _, _, rfl, T.k_IsRule.xf, T.k_IsRule.no _ (by simp), (w1 _ _ ya11), (w1 _ _ yb11), rfl, _, rfl, L3, _, _, _, rfl, rfl, SqL.of (w1 _ _ qA), atI_nat (j := 12) rfl, a12, cs 12, y12, _, _, rfl, T.k_NoRule.xf, T.k_NoRule.no _ (by simp), (w1 _ _ ya12), (w1 _ _ yb12), rfl, _, rfl, L3, _, _, _, rfl, rfl, SqL.of (w1 _ _ qA), atI_nat (j := 13) rfl, a13, cs 13, y13, _, _, rfl, T.k_TooMany.xf, T.k_TooMany.no _ (by simp), (w1 _ _ ya13), (w1 _ _ yb13), rfl, by show 5 ≤ sizeLine; decide, fun F2 m2 => ⟨F1, F2, _, _, rfl, rfl, same_new m2 _ _ upd_same, upd_same, by show 6 + 5 ≤ sizeLine; decide, fun F3 m3 => ?_⟩⟩
        have vals : ∀ v ∈ ([V.int (2 + r3), V.int (2 + r3), V.int (2 + r3), V.int (2 + r3 - 1), V.int (2 + r3), V.int (2 + r3)] ++ [V.int (2 + r3), x, V.str z, V.str z, V.int (2 + r3)]), FldS v := by
          intro v hv
          simp only [List.cons_append, List.nil_append, List.mem_cons, List.not_mem_nil, or_false] at hv
          rcases hv with rfl | rfl | rfl | rfl | rfl | rfl | rfl | rfl | rfl | rfl | rfl
          all_goals first
            | exact fo
            | exact fp
            | exact fx
            | exact fw
        have w2 := w1.trans ((same_new (o := .lst [V.int (2 + r3), x, V.str z, V.str z, V.int (2 + r3)]) m2).trans (same_new (o := .lst ([V.int (2 + r3), V.int (2 + r3), V.int (2 + r3), V.int (2 + r3 - 1), V.int (2 + r3), V.int (2 + r3)] ++ [V.int (2 + r3), x, V.str z, V.str z, V.int (2 + r3)])) m3))
        obtain ⟨k1, k2, k3, k4, k5⟩ := list_d (K := K) vals (by show 11 ≤ 100; decide) (p := F3) (H := upd (upd (upd HA F1 (.lst [V.int (2 + r3), V.int (2 + r3), V.int (2 + r3), V.int (2 + r3 - 1), V.int (2 + r3), V.int (2 + r3)])) F2 (.lst [V.int (2 + r3), x, V.str z, V.str z, V.int (2 + r3)])) F3 (.lst ([V.int (2 + r3), V.int (2 + r3), V.int (2 + r3), V.int (2 + r3 - 1), V.int (2 + r3), V.int (2 + r3)] ++ [V.int (2 + r3), x, V.str z, V.str z, V.int (2 + r3)]))) upd_same
        refine ⟨_, rfl, F3, _, rfl, k1, k2, k3, k4, k5, ?_⟩
        refine ⟨_, rfl, _, rfl, _, rfl, _, rfl, _, _, rfl, rfl, _, rfl, _, rfl, _, rfl, _, rfl, _, rfl, _, rfl, _, rfl, by show 11 ≤ sizeLine; decide, fun F4 m4 => ?_⟩
        obtain ⟨k6, k7, k8, k9, k10⟩ := list_d (K := K) vals (by show 11 ≤ 100; decide) (p := F4) (H := upd (upd (upd (upd HA F1 (.lst [V.int (2 + r3), V.int (2 + r3), V.int (2 + r3), V.int (2 + r3 - 1), V.int (2 + r3), V.int (2 + r3)])) F2 (.lst [V.int (2 + r3), x, V.str z, V.str z, V.int (2 + r3)])) F3 (.lst ([V.int (2 + r3), V.int (2 + r3), V.int (2 + r3), V.int (2 + r3 - 1), V.int (2 + r3), V.int (2 + r3)] ++ [V.int (2 + r3), x, V.str z, V.str z, V.int (2 + r3)]))) F4 (.lst ([V.int (2 + r3), V.int (2 + r3), V.int (2 + r3), V.int (2 + r3 - 1), V.int (2 + r3), V.int (2 + r3)] ++ [V.int (2 + r3), x, V.str z, V.str z, V.int (2 + r3)]))) upd_same
        refine ⟨F4, _, rfl, k6, k7, k8, k9, k10, rfl, _, rfl, iteNS rfl ?_⟩
        exact ⟨_, _, _, _, _, _, _, _, rfl, tp9.same (SS.trans (sA.trans (w2.trans (same_new m4))))⟩
    · rintro σ H2 ⟨v2, v3, v4, v5, v6, v7, v8, v9, rfl, tp2⟩
      exact k H2
end

theorem all_mk {l : PySem.W.OpenLaw} {w : World} {K : PySem.W.Frag} {h : Heap} {mg : Str → Option Value} {fa : Addr} (X : K.In h) (G : h.Ns mainGlobals mg) (hfa : mg "law" = some (.ref fa))
    {f0 : Addr} {od0 an0 : Option Addr} {sl0 : Array (Option Value)} {oc0 kV0 dc0 pm0 cd0 ct0 : Value}
    (a0 : PySem.W.nsIn K mainGlobals "_law_begun" = some (some (.ref f0))) (l0 : K.lookup f0 = some ⟨oc0, od0, .func (PySem.W.fnOf "_law_begun" "_law_begun" (defArgs s__law_begun) (defBody s__law_begun) (defScope s__law_begun) .none kV0 dc0 pm0 an0 cd0 ct0), sl0⟩) (cc0 : PySem.W.codeIn K cd0 "_law_begun" = true) (k0 : PySem.W.keepIn K (.ref f0) = true)
    {f1 : Addr} {od1 an1 : Option Addr} {sl1 : Array (Option Value)} {oc1 kV1 dc1 pm1 cd1 ct1 : Value}
    (a1 : PySem.W.nsIn K mainGlobals "_law_draw" = some (some (.ref f1))) (l1 : K.lookup f1 = some ⟨oc1, od1, .func (PySem.W.fnOf "_law_draw" "_law_draw" (defArgs s__law_draw) (defBody s__law_draw) (defScope s__law_draw) .none kV1 dc1 pm1 an1 cd1 ct1), sl1⟩) (cc1 : PySem.W.codeIn K cd1 "_law_draw" = true) (k1 : PySem.W.keepIn K (.ref f1) = true)
    {f2 : Addr} {od2 an2 : Option Addr} {sl2 : Array (Option Value)} {oc2 kV2 dc2 pm2 cd2 ct2 : Value}
    (a2 : PySem.W.nsIn K mainGlobals "_law_pick" = some (some (.ref f2))) (l2 : K.lookup f2 = some ⟨oc2, od2, .func (PySem.W.fnOf "_law_pick" "_law_pick" (defArgs s__law_pick) (defBody s__law_pick) (defScope s__law_pick) .none kV2 dc2 pm2 an2 cd2 ct2), sl2⟩) (cc2 : PySem.W.codeIn K cd2 "_law_pick" = true) (k2 : PySem.W.keepIn K (.ref f2) = true)
    {f3 : Addr} {od3 an3 : Option Addr} {sl3 : Array (Option Value)} {oc3 kV3 dc3 pm3 cd3 ct3 : Value}
    (a3 : PySem.W.nsIn K mainGlobals "_law_under" = some (some (.ref f3))) (l3 : K.lookup f3 = some ⟨oc3, od3, .func (PySem.W.fnOf "_law_under" "_law_under" (defArgs s__law_under) (defBody s__law_under) (defScope s__law_under) .none kV3 dc3 pm3 an3 cd3 ct3), sl3⟩) (cc3 : PySem.W.codeIn K cd3 "_law_under" = true) (k3 : PySem.W.keepIn K (.ref f3) = true)
    {f4 : Addr} {od4 an4 : Option Addr} {sl4 : Array (Option Value)} {oc4 kV4 dc4 pm4 cd4 ct4 : Value}
    (a4 : PySem.W.nsIn K mainGlobals "law" = some (some (.ref f4))) (l4 : K.lookup f4 = some ⟨oc4, od4, .func (PySem.W.fnOf "law" "law" (defArgs s_law) (defBody s_law) (defScope s_law) .none kV4 dc4 pm4 an4 cd4 ct4), sl4⟩) (cc4 : PySem.W.codeIn K cd4 "law" = true) (k4 : PySem.W.keepIn K (.ref f4) = true)
    {C0 G0 : Addr} {nm0 q0 : Str} {N0 : Addr} {bs0 : List Value} {sn0 : List Str} {sub0 : List Value} {ab0 : Bool} {col0 : Option Bool} {dd0 : Option Addr} {ka0 kb0 kc0 kd0 ke0 : Option Value}
    {mod0 man0 : Option Addr} {msl0 : Array (Option Value)} {moc0 mkV0 mdc0 mpm0 mcd0 mct0 : Value}
    (m0 : PySem.W.nsIn K mainGlobals "NoMarks" = some (some (.ref C0))) (o0 : K.lookup C0 = some (excClassObj nm0 q0 C0 N0 bs0 bmV true sn0 sub0 ab0 col0 dd0 ka0 kb0 kc0 kd0 ke0 "ValueError.__new__"))
    (i0 : PySem.W.findIn K (.ref C0) "__init__" = some (some (.ref G0))) (t0 : PySem.W.typeIn K (.ref G0) = some (.type "function"))
    (ml0 : K.lookup G0 = some ⟨moc0, mod0, .func (PySem.W.fnOf "__init__" "NoMarks.__init__" (defArgs s_NoMarks___init__) (defBody s_NoMarks___init__) (defScope s_NoMarks___init__) .none mkV0 mdc0 mpm0 man0 mcd0 mct0), msl0⟩) (mc0 : PySem.W.codeIn K mcd0 "NoMarks.__init__" = true) (mk0 : PySem.W.keepIn K (.ref G0) = true)
    (sa0 : PySem.W.findIn K (.ref C0) "__setattr__" = some (some (.builtin "object.__setattr__")))
    (sb0 : PySem.W.subIn K (.ref C0) (.type "BaseException") = some true)
    (sc0 : PySem.W.typeIn K (.ref C0) = some (.type "type"))
    (sd0 : PySem.W.keepIn K (.ref C0) = true)
    (se0 : PySem.W.findIn K (.ref C0) "__getattribute__" = some (some (.builtin "BaseException.__getattribute__")))
    (sf0 : PySem.W.findIn K (.ref C0) "__getattr__" = some none)
    (sg0 : PySem.W.hasDictIn K C0 = true)
    (sh0 : PySem.W.findIn K (.ref C0) "__class__" = some (some (.builtin "object.__class__")))
    (si0 : PySem.W.mroIn K C0 (.type "object") = some true)
    {C1 G1 : Addr} {nm1 q1 : Str} {N1 : Addr} {bs1 : List Value} {sn1 : List Str} {sub1 : List Value} {ab1 : Bool} {col1 : Option Bool} {dd1 : Option Addr} {ka1 kb1 kc1 kd1 ke1 : Option Value}
    {mod1 man1 : Option Addr} {msl1 : Array (Option Value)} {moc1 mkV1 mdc1 mpm1 mcd1 mct1 : Value}
    (m1 : PySem.W.nsIn K mainGlobals "NoPlan" = some (some (.ref C1))) (o1 : K.lookup C1 = some (excClassObj nm1 q1 C1 N1 bs1 bmV true sn1 sub1 ab1 col1 dd1 ka1 kb1 kc1 kd1 ke1 "ValueError.__new__"))
    (i1 : PySem.W.findIn K (.ref C1) "__init__" = some (some (.ref G1))) (t1 : PySem.W.typeIn K (.ref G1) = some (.type "function"))
    (ml1 : K.lookup G1 = some ⟨moc1, mod1, .func (PySem.W.fnOf "__init__" "NoPlan.__init__" (defArgs s_NoPlan___init__) (defBody s_NoPlan___init__) (defScope s_NoPlan___init__) .none mkV1 mdc1 mpm1 man1 mcd1 mct1), msl1⟩) (mc1 : PySem.W.codeIn K mcd1 "NoPlan.__init__" = true) (mk1 : PySem.W.keepIn K (.ref G1) = true)
    (sa1 : PySem.W.findIn K (.ref C1) "__setattr__" = some (some (.builtin "object.__setattr__")))
    (sb1 : PySem.W.subIn K (.ref C1) (.type "BaseException") = some true)
    (sc1 : PySem.W.typeIn K (.ref C1) = some (.type "type"))
    (sd1 : PySem.W.keepIn K (.ref C1) = true)
    (se1 : PySem.W.findIn K (.ref C1) "__getattribute__" = some (some (.builtin "BaseException.__getattribute__")))
    (sf1 : PySem.W.findIn K (.ref C1) "__getattr__" = some none)
    (sg1 : PySem.W.hasDictIn K C1 = true)
    (sh1 : PySem.W.findIn K (.ref C1) "__class__" = some (some (.builtin "object.__class__")))
    (si1 : PySem.W.mroIn K C1 (.type "object") = some true)
    {C2 G2 : Addr} {nm2 q2 : Str} {N2 : Addr} {bs2 : List Value} {sn2 : List Str} {sub2 : List Value} {ab2 : Bool} {col2 : Option Bool} {dd2 : Option Addr} {ka2 kb2 kc2 kd2 ke2 : Option Value}
    {mod2 man2 : Option Addr} {msl2 : Array (Option Value)} {moc2 mkV2 mdc2 mpm2 mcd2 mct2 : Value}
    (m2 : PySem.W.nsIn K mainGlobals "NoText" = some (some (.ref C2))) (o2 : K.lookup C2 = some (excClassObj nm2 q2 C2 N2 bs2 bmV true sn2 sub2 ab2 col2 dd2 ka2 kb2 kc2 kd2 ke2 "ValueError.__new__"))
    (i2 : PySem.W.findIn K (.ref C2) "__init__" = some (some (.ref G2))) (t2 : PySem.W.typeIn K (.ref G2) = some (.type "function"))
    (ml2 : K.lookup G2 = some ⟨moc2, mod2, .func (PySem.W.fnOf "__init__" "NoText.__init__" (defArgs s_NoText___init__) (defBody s_NoText___init__) (defScope s_NoText___init__) .none mkV2 mdc2 mpm2 man2 mcd2 mct2), msl2⟩) (mc2 : PySem.W.codeIn K mcd2 "NoText.__init__" = true) (mk2 : PySem.W.keepIn K (.ref G2) = true)
    (sa2 : PySem.W.findIn K (.ref C2) "__setattr__" = some (some (.builtin "object.__setattr__")))
    (sb2 : PySem.W.subIn K (.ref C2) (.type "BaseException") = some true)
    (sc2 : PySem.W.typeIn K (.ref C2) = some (.type "type"))
    (sd2 : PySem.W.keepIn K (.ref C2) = true)
    (se2 : PySem.W.findIn K (.ref C2) "__getattribute__" = some (some (.builtin "BaseException.__getattribute__")))
    (sf2 : PySem.W.findIn K (.ref C2) "__getattr__" = some none)
    (sg2 : PySem.W.hasDictIn K C2 = true)
    (sh2 : PySem.W.findIn K (.ref C2) "__class__" = some (some (.builtin "object.__class__")))
    (si2 : PySem.W.mroIn K C2 (.type "object") = some true)
    {C3 G3 : Addr} {nm3 q3 : Str} {N3 : Addr} {bs3 : List Value} {sn3 : List Str} {sub3 : List Value} {ab3 : Bool} {col3 : Option Bool} {dd3 : Option Addr} {ka3 kb3 kc3 kd3 ke3 : Option Value}
    {mod3 man3 : Option Addr} {msl3 : Array (Option Value)} {moc3 mkV3 mdc3 mpm3 mcd3 mct3 : Value}
    (m3 : PySem.W.nsIn K mainGlobals "NoKnot" = some (some (.ref C3))) (o3 : K.lookup C3 = some (excClassObj nm3 q3 C3 N3 bs3 bmV true sn3 sub3 ab3 col3 dd3 ka3 kb3 kc3 kd3 ke3 "ValueError.__new__"))
    (i3 : PySem.W.findIn K (.ref C3) "__init__" = some (some (.ref G3))) (t3 : PySem.W.typeIn K (.ref G3) = some (.type "function"))
    (ml3 : K.lookup G3 = some ⟨moc3, mod3, .func (PySem.W.fnOf "__init__" "NoKnot.__init__" (defArgs s_NoKnot___init__) (defBody s_NoKnot___init__) (defScope s_NoKnot___init__) .none mkV3 mdc3 mpm3 man3 mcd3 mct3), msl3⟩) (mc3 : PySem.W.codeIn K mcd3 "NoKnot.__init__" = true) (mk3 : PySem.W.keepIn K (.ref G3) = true)
    (sa3 : PySem.W.findIn K (.ref C3) "__setattr__" = some (some (.builtin "object.__setattr__")))
    (sb3 : PySem.W.subIn K (.ref C3) (.type "BaseException") = some true)
    (sc3 : PySem.W.typeIn K (.ref C3) = some (.type "type"))
    (sd3 : PySem.W.keepIn K (.ref C3) = true)
    (se3 : PySem.W.findIn K (.ref C3) "__getattribute__" = some (some (.builtin "BaseException.__getattribute__")))
    (sf3 : PySem.W.findIn K (.ref C3) "__getattr__" = some none)
    (sg3 : PySem.W.hasDictIn K C3 = true)
    (sh3 : PySem.W.findIn K (.ref C3) "__class__" = some (some (.builtin "object.__class__")))
    (si3 : PySem.W.mroIn K C3 (.type "object") = some true)
    (fn3_0 : PySem.W.findIn K (.ref C3) "number" = some none)
    {C4 G4 : Addr} {nm4 q4 : Str} {N4 : Addr} {bs4 : List Value} {sn4 : List Str} {sub4 : List Value} {ab4 : Bool} {col4 : Option Bool} {dd4 : Option Addr} {ka4 kb4 kc4 kd4 ke4 : Option Value}
    {mod4 man4 : Option Addr} {msl4 : Array (Option Value)} {moc4 mkV4 mdc4 mpm4 mcd4 mct4 : Value}
    (m4 : PySem.W.nsIn K mainGlobals "NoFresh" = some (some (.ref C4))) (o4 : K.lookup C4 = some (excClassObj nm4 q4 C4 N4 bs4 bmV true sn4 sub4 ab4 col4 dd4 ka4 kb4 kc4 kd4 ke4 "ValueError.__new__"))
    (i4 : PySem.W.findIn K (.ref C4) "__init__" = some (some (.ref G4))) (t4 : PySem.W.typeIn K (.ref G4) = some (.type "function"))
    (ml4 : K.lookup G4 = some ⟨moc4, mod4, .func (PySem.W.fnOf "__init__" "NoFresh.__init__" (defArgs s_NoFresh___init__) (defBody s_NoFresh___init__) (defScope s_NoFresh___init__) .none mkV4 mdc4 mpm4 man4 mcd4 mct4), msl4⟩) (mc4 : PySem.W.codeIn K mcd4 "NoFresh.__init__" = true) (mk4 : PySem.W.keepIn K (.ref G4) = true)
    (sa4 : PySem.W.findIn K (.ref C4) "__setattr__" = some (some (.builtin "object.__setattr__")))
    (sb4 : PySem.W.subIn K (.ref C4) (.type "BaseException") = some true)
    (sc4 : PySem.W.typeIn K (.ref C4) = some (.type "type"))
    (sd4 : PySem.W.keepIn K (.ref C4) = true)
    (se4 : PySem.W.findIn K (.ref C4) "__getattribute__" = some (some (.builtin "BaseException.__getattribute__")))
    (sf4 : PySem.W.findIn K (.ref C4) "__getattr__" = some none)
    (sg4 : PySem.W.hasDictIn K C4 = true)
    (sh4 : PySem.W.findIn K (.ref C4) "__class__" = some (some (.builtin "object.__class__")))
    (si4 : PySem.W.mroIn K C4 (.type "object") = some true)
    (fn4_0 : PySem.W.findIn K (.ref C4) "lowest" = some none)
    {C5 G5 : Addr} {nm5 q5 : Str} {N5 : Addr} {bs5 : List Value} {sn5 : List Str} {sub5 : List Value} {ab5 : Bool} {col5 : Option Bool} {dd5 : Option Addr} {ka5 kb5 kc5 kd5 ke5 : Option Value}
    {mod5 man5 : Option Addr} {msl5 : Array (Option Value)} {moc5 mkV5 mdc5 mpm5 mcd5 mct5 : Value}
    (m5 : PySem.W.nsIn K mainGlobals "NoBound" = some (some (.ref C5))) (o5 : K.lookup C5 = some (excClassObj nm5 q5 C5 N5 bs5 bmV true sn5 sub5 ab5 col5 dd5 ka5 kb5 kc5 kd5 ke5 "ValueError.__new__"))
    (i5 : PySem.W.findIn K (.ref C5) "__init__" = some (some (.ref G5))) (t5 : PySem.W.typeIn K (.ref G5) = some (.type "function"))
    (ml5 : K.lookup G5 = some ⟨moc5, mod5, .func (PySem.W.fnOf "__init__" "NoBound.__init__" (defArgs s_NoBound___init__) (defBody s_NoBound___init__) (defScope s_NoBound___init__) .none mkV5 mdc5 mpm5 man5 mcd5 mct5), msl5⟩) (mc5 : PySem.W.codeIn K mcd5 "NoBound.__init__" = true) (mk5 : PySem.W.keepIn K (.ref G5) = true)
    (sa5 : PySem.W.findIn K (.ref C5) "__setattr__" = some (some (.builtin "object.__setattr__")))
    (sb5 : PySem.W.subIn K (.ref C5) (.type "BaseException") = some true)
    (sc5 : PySem.W.typeIn K (.ref C5) = some (.type "type"))
    (sd5 : PySem.W.keepIn K (.ref C5) = true)
    (se5 : PySem.W.findIn K (.ref C5) "__getattribute__" = some (some (.builtin "BaseException.__getattribute__")))
    (sf5 : PySem.W.findIn K (.ref C5) "__getattr__" = some none)
    (sg5 : PySem.W.hasDictIn K C5 = true)
    (sh5 : PySem.W.findIn K (.ref C5) "__class__" = some (some (.builtin "object.__class__")))
    (si5 : PySem.W.mroIn K C5 (.type "object") = some true)
    (fn5_0 : PySem.W.findIn K (.ref C5) "low" = some none)
    (fn5_1 : PySem.W.findIn K (.ref C5) "high" = some none)
    {C6 G6 : Addr} {nm6 q6 : Str} {N6 : Addr} {bs6 : List Value} {sn6 : List Str} {sub6 : List Value} {ab6 : Bool} {col6 : Option Bool} {dd6 : Option Addr} {ka6 kb6 kc6 kd6 ke6 : Option Value}
    {mod6 man6 : Option Addr} {msl6 : Array (Option Value)} {moc6 mkV6 mdc6 mpm6 mcd6 mct6 : Value}
    (m6 : PySem.W.nsIn K mainGlobals "NoGrow" = some (some (.ref C6))) (o6 : K.lookup C6 = some (excClassObj nm6 q6 C6 N6 bs6 bmV true sn6 sub6 ab6 col6 dd6 ka6 kb6 kc6 kd6 ke6 "ValueError.__new__"))
    (i6 : PySem.W.findIn K (.ref C6) "__init__" = some (some (.ref G6))) (t6 : PySem.W.typeIn K (.ref G6) = some (.type "function"))
    (ml6 : K.lookup G6 = some ⟨moc6, mod6, .func (PySem.W.fnOf "__init__" "NoGrow.__init__" (defArgs s_NoGrow___init__) (defBody s_NoGrow___init__) (defScope s_NoGrow___init__) .none mkV6 mdc6 mpm6 man6 mcd6 mct6), msl6⟩) (mc6 : PySem.W.codeIn K mcd6 "NoGrow.__init__" = true) (mk6 : PySem.W.keepIn K (.ref G6) = true)
    (sa6 : PySem.W.findIn K (.ref C6) "__setattr__" = some (some (.builtin "object.__setattr__")))
    (sb6 : PySem.W.subIn K (.ref C6) (.type "BaseException") = some true)
    (sc6 : PySem.W.typeIn K (.ref C6) = some (.type "type"))
    (sd6 : PySem.W.keepIn K (.ref C6) = true)
    (se6 : PySem.W.findIn K (.ref C6) "__getattribute__" = some (some (.builtin "BaseException.__getattribute__")))
    (sf6 : PySem.W.findIn K (.ref C6) "__getattr__" = some none)
    (sg6 : PySem.W.hasDictIn K C6 = true)
    (sh6 : PySem.W.findIn K (.ref C6) "__class__" = some (some (.builtin "object.__class__")))
    (si6 : PySem.W.mroIn K C6 (.type "object") = some true)
    {C7 G7 : Addr} {nm7 q7 : Str} {N7 : Addr} {bs7 : List Value} {sn7 : List Str} {sub7 : List Value} {ab7 : Bool} {col7 : Option Bool} {dd7 : Option Addr} {ka7 kb7 kc7 kd7 ke7 : Option Value}
    {mod7 man7 : Option Addr} {msl7 : Array (Option Value)} {moc7 mkV7 mdc7 mpm7 mcd7 mct7 : Value}
    (m7 : PySem.W.nsIn K mainGlobals "NotWider" = some (some (.ref C7))) (o7 : K.lookup C7 = some (excClassObj nm7 q7 C7 N7 bs7 bmV true sn7 sub7 ab7 col7 dd7 ka7 kb7 kc7 kd7 ke7 "ValueError.__new__"))
    (i7 : PySem.W.findIn K (.ref C7) "__init__" = some (some (.ref G7))) (t7 : PySem.W.typeIn K (.ref G7) = some (.type "function"))
    (ml7 : K.lookup G7 = some ⟨moc7, mod7, .func (PySem.W.fnOf "__init__" "NotWider.__init__" (defArgs s_NotWider___init__) (defBody s_NotWider___init__) (defScope s_NotWider___init__) .none mkV7 mdc7 mpm7 man7 mcd7 mct7), msl7⟩) (mc7 : PySem.W.codeIn K mcd7 "NotWider.__init__" = true) (mk7 : PySem.W.keepIn K (.ref G7) = true)
    (sa7 : PySem.W.findIn K (.ref C7) "__setattr__" = some (some (.builtin "object.__setattr__")))
    (sb7 : PySem.W.subIn K (.ref C7) (.type "BaseException") = some true)
    (sc7 : PySem.W.typeIn K (.ref C7) = some (.type "type"))
    (sd7 : PySem.W.keepIn K (.ref C7) = true)
    (se7 : PySem.W.findIn K (.ref C7) "__getattribute__" = some (some (.builtin "BaseException.__getattribute__")))
    (sf7 : PySem.W.findIn K (.ref C7) "__getattr__" = some none)
    (sg7 : PySem.W.hasDictIn K C7 = true)
    (sh7 : PySem.W.findIn K (.ref C7) "__class__" = some (some (.builtin "object.__class__")))
    (si7 : PySem.W.mroIn K C7 (.type "object") = some true)
    (fn7_0 : PySem.W.findIn K (.ref C7) "cap" = some none)
    {C8 G8 : Addr} {nm8 q8 : Str} {N8 : Addr} {bs8 : List Value} {sn8 : List Str} {sub8 : List Value} {ab8 : Bool} {col8 : Option Bool} {dd8 : Option Addr} {ka8 kb8 kc8 kd8 ke8 : Option Value}
    {mod8 man8 : Option Addr} {msl8 : Array (Option Value)} {moc8 mkV8 mdc8 mpm8 mcd8 mct8 : Value}
    (m8 : PySem.W.nsIn K mainGlobals "TooFar" = some (some (.ref C8))) (o8 : K.lookup C8 = some (excClassObj nm8 q8 C8 N8 bs8 bmV true sn8 sub8 ab8 col8 dd8 ka8 kb8 kc8 kd8 ke8 "ValueError.__new__"))
    (i8 : PySem.W.findIn K (.ref C8) "__init__" = some (some (.ref G8))) (t8 : PySem.W.typeIn K (.ref G8) = some (.type "function"))
    (ml8 : K.lookup G8 = some ⟨moc8, mod8, .func (PySem.W.fnOf "__init__" "TooFar.__init__" (defArgs s_TooFar___init__) (defBody s_TooFar___init__) (defScope s_TooFar___init__) .none mkV8 mdc8 mpm8 man8 mcd8 mct8), msl8⟩) (mc8 : PySem.W.codeIn K mcd8 "TooFar.__init__" = true) (mk8 : PySem.W.keepIn K (.ref G8) = true)
    (sa8 : PySem.W.findIn K (.ref C8) "__setattr__" = some (some (.builtin "object.__setattr__")))
    (sb8 : PySem.W.subIn K (.ref C8) (.type "BaseException") = some true)
    (sc8 : PySem.W.typeIn K (.ref C8) = some (.type "type"))
    (sd8 : PySem.W.keepIn K (.ref C8) = true)
    (se8 : PySem.W.findIn K (.ref C8) "__getattribute__" = some (some (.builtin "BaseException.__getattribute__")))
    (sf8 : PySem.W.findIn K (.ref C8) "__getattr__" = some none)
    (sg8 : PySem.W.hasDictIn K C8 = true)
    (sh8 : PySem.W.findIn K (.ref C8) "__class__" = some (some (.builtin "object.__class__")))
    (si8 : PySem.W.mroIn K C8 (.type "object") = some true)
    (fn8_0 : PySem.W.findIn K (.ref C8) "cap" = some none)
    {C9 G9 : Addr} {nm9 q9 : Str} {N9 : Addr} {bs9 : List Value} {sn9 : List Str} {sub9 : List Value} {ab9 : Bool} {col9 : Option Bool} {dd9 : Option Addr} {ka9 kb9 kc9 kd9 ke9 : Option Value}
    {mod9 man9 : Option Addr} {msl9 : Array (Option Value)} {moc9 mkV9 mdc9 mpm9 mcd9 mct9 : Value}
    (m9 : PySem.W.nsIn K mainGlobals "IsPut" = some (some (.ref C9))) (o9 : K.lookup C9 = some (excClassObj nm9 q9 C9 N9 bs9 bmK true sn9 sub9 ab9 col9 dd9 ka9 kb9 kc9 kd9 ke9 "LookupError.__new__"))
    (i9 : PySem.W.findIn K (.ref C9) "__init__" = some (some (.ref G9))) (t9 : PySem.W.typeIn K (.ref G9) = some (.type "function"))
    (ml9 : K.lookup G9 = some ⟨moc9, mod9, .func (PySem.W.fnOf "__init__" "IsPut.__init__" (defArgs s_IsPut___init__) (defBody s_IsPut___init__) (defScope s_IsPut___init__) .none mkV9 mdc9 mpm9 man9 mcd9 mct9), msl9⟩) (mc9 : PySem.W.codeIn K mcd9 "IsPut.__init__" = true) (mk9 : PySem.W.keepIn K (.ref G9) = true)
    (sa9 : PySem.W.findIn K (.ref C9) "__setattr__" = some (some (.builtin "object.__setattr__")))
    (sb9 : PySem.W.subIn K (.ref C9) (.type "BaseException") = some true)
    (sc9 : PySem.W.typeIn K (.ref C9) = some (.type "type"))
    (sd9 : PySem.W.keepIn K (.ref C9) = true)
    (se9 : PySem.W.findIn K (.ref C9) "__getattribute__" = some (some (.builtin "BaseException.__getattribute__")))
    (sf9 : PySem.W.findIn K (.ref C9) "__getattr__" = some none)
    (sg9 : PySem.W.hasDictIn K C9 = true)
    (sh9 : PySem.W.findIn K (.ref C9) "__class__" = some (some (.builtin "object.__class__")))
    (si9 : PySem.W.mroIn K C9 (.type "object") = some true)
    (fn9_0 : PySem.W.findIn K (.ref C9) "name" = some none)
    {C10 G10 : Addr} {nm10 q10 : Str} {N10 : Addr} {bs10 : List Value} {sn10 : List Str} {sub10 : List Value} {ab10 : Bool} {col10 : Option Bool} {dd10 : Option Addr} {ka10 kb10 kc10 kd10 ke10 : Option Value}
    {mod10 man10 : Option Addr} {msl10 : Array (Option Value)} {moc10 mkV10 mdc10 mpm10 mcd10 mct10 : Value}
    (m10 : PySem.W.nsIn K mainGlobals "NotOn" = some (some (.ref C10))) (o10 : K.lookup C10 = some (excClassObj nm10 q10 C10 N10 bs10 bmK true sn10 sub10 ab10 col10 dd10 ka10 kb10 kc10 kd10 ke10 "LookupError.__new__"))
    (i10 : PySem.W.findIn K (.ref C10) "__init__" = some (some (.ref G10))) (t10 : PySem.W.typeIn K (.ref G10) = some (.type "function"))
    (ml10 : K.lookup G10 = some ⟨moc10, mod10, .func (PySem.W.fnOf "__init__" "NotOn.__init__" (defArgs s_NotOn___init__) (defBody s_NotOn___init__) (defScope s_NotOn___init__) .none mkV10 mdc10 mpm10 man10 mcd10 mct10), msl10⟩) (mc10 : PySem.W.codeIn K mcd10 "NotOn.__init__" = true) (mk10 : PySem.W.keepIn K (.ref G10) = true)
    (sa10 : PySem.W.findIn K (.ref C10) "__setattr__" = some (some (.builtin "object.__setattr__")))
    (sb10 : PySem.W.subIn K (.ref C10) (.type "BaseException") = some true)
    (sc10 : PySem.W.typeIn K (.ref C10) = some (.type "type"))
    (sd10 : PySem.W.keepIn K (.ref C10) = true)
    (se10 : PySem.W.findIn K (.ref C10) "__getattribute__" = some (some (.builtin "BaseException.__getattribute__")))
    (sf10 : PySem.W.findIn K (.ref C10) "__getattr__" = some none)
    (sg10 : PySem.W.hasDictIn K C10 = true)
    (sh10 : PySem.W.findIn K (.ref C10) "__class__" = some (some (.builtin "object.__class__")))
    (si10 : PySem.W.mroIn K C10 (.type "object") = some true)
    (fn10_0 : PySem.W.findIn K (.ref C10) "mark" = some none)
    {C11 G11 : Addr} {nm11 q11 : Str} {N11 : Addr} {bs11 : List Value} {sn11 : List Str} {sub11 : List Value} {ab11 : Bool} {col11 : Option Bool} {dd11 : Option Addr} {ka11 kb11 kc11 kd11 ke11 : Option Value}
    {mod11 man11 : Option Addr} {msl11 : Array (Option Value)} {moc11 mkV11 mdc11 mpm11 mcd11 mct11 : Value}
    (m11 : PySem.W.nsIn K mainGlobals "IsRule" = some (some (.ref C11))) (o11 : K.lookup C11 = some (excClassObj nm11 q11 C11 N11 bs11 bmK true sn11 sub11 ab11 col11 dd11 ka11 kb11 kc11 kd11 ke11 "LookupError.__new__"))
    (i11 : PySem.W.findIn K (.ref C11) "__init__" = some (some (.ref G11))) (t11 : PySem.W.typeIn K (.ref G11) = some (.type "function"))
    (ml11 : K.lookup G11 = some ⟨moc11, mod11, .func (PySem.W.fnOf "__init__" "IsRule.__init__" (defArgs s_IsRule___init__) (defBody s_IsRule___init__) (defScope s_IsRule___init__) .none mkV11 mdc11 mpm11 man11 mcd11 mct11), msl11⟩) (mc11 : PySem.W.codeIn K mcd11 "IsRule.__init__" = true) (mk11 : PySem.W.keepIn K (.ref G11) = true)
    (sa11 : PySem.W.findIn K (.ref C11) "__setattr__" = some (some (.builtin "object.__setattr__")))
    (sb11 : PySem.W.subIn K (.ref C11) (.type "BaseException") = some true)
    (sc11 : PySem.W.typeIn K (.ref C11) = some (.type "type"))
    (sd11 : PySem.W.keepIn K (.ref C11) = true)
    (se11 : PySem.W.findIn K (.ref C11) "__getattribute__" = some (some (.builtin "BaseException.__getattribute__")))
    (sf11 : PySem.W.findIn K (.ref C11) "__getattr__" = some none)
    (sg11 : PySem.W.hasDictIn K C11 = true)
    (sh11 : PySem.W.findIn K (.ref C11) "__class__" = some (some (.builtin "object.__class__")))
    (si11 : PySem.W.mroIn K C11 (.type "object") = some true)
    (fn11_0 : PySem.W.findIn K (.ref C11) "word" = some none)
    {C12 G12 : Addr} {nm12 q12 : Str} {N12 : Addr} {bs12 : List Value} {sn12 : List Str} {sub12 : List Value} {ab12 : Bool} {col12 : Option Bool} {dd12 : Option Addr} {ka12 kb12 kc12 kd12 ke12 : Option Value}
    {mod12 man12 : Option Addr} {msl12 : Array (Option Value)} {moc12 mkV12 mdc12 mpm12 mcd12 mct12 : Value}
    (m12 : PySem.W.nsIn K mainGlobals "NoRule" = some (some (.ref C12))) (o12 : K.lookup C12 = some (excClassObj nm12 q12 C12 N12 bs12 bmK true sn12 sub12 ab12 col12 dd12 ka12 kb12 kc12 kd12 ke12 "LookupError.__new__"))
    (i12 : PySem.W.findIn K (.ref C12) "__init__" = some (some (.ref G12))) (t12 : PySem.W.typeIn K (.ref G12) = some (.type "function"))
    (ml12 : K.lookup G12 = some ⟨moc12, mod12, .func (PySem.W.fnOf "__init__" "NoRule.__init__" (defArgs s_NoRule___init__) (defBody s_NoRule___init__) (defScope s_NoRule___init__) .none mkV12 mdc12 mpm12 man12 mcd12 mct12), msl12⟩) (mc12 : PySem.W.codeIn K mcd12 "NoRule.__init__" = true) (mk12 : PySem.W.keepIn K (.ref G12) = true)
    (sa12 : PySem.W.findIn K (.ref C12) "__setattr__" = some (some (.builtin "object.__setattr__")))
    (sb12 : PySem.W.subIn K (.ref C12) (.type "BaseException") = some true)
    (sc12 : PySem.W.typeIn K (.ref C12) = some (.type "type"))
    (sd12 : PySem.W.keepIn K (.ref C12) = true)
    (se12 : PySem.W.findIn K (.ref C12) "__getattribute__" = some (some (.builtin "BaseException.__getattribute__")))
    (sf12 : PySem.W.findIn K (.ref C12) "__getattr__" = some none)
    (sg12 : PySem.W.hasDictIn K C12 = true)
    (sh12 : PySem.W.findIn K (.ref C12) "__class__" = some (some (.builtin "object.__class__")))
    (si12 : PySem.W.mroIn K C12 (.type "object") = some true)
    (fn12_0 : PySem.W.findIn K (.ref C12) "word" = some none)
    {C13 G13 : Addr} {nm13 q13 : Str} {N13 : Addr} {bs13 : List Value} {sn13 : List Str} {sub13 : List Value} {ab13 : Bool} {col13 : Option Bool} {dd13 : Option Addr} {ka13 kb13 kc13 kd13 ke13 : Option Value}
    {mod13 man13 : Option Addr} {msl13 : Array (Option Value)} {moc13 mkV13 mdc13 mpm13 mcd13 mct13 : Value}
    (m13 : PySem.W.nsIn K mainGlobals "TooMany" = some (some (.ref C13))) (o13 : K.lookup C13 = some (excClassObj nm13 q13 C13 N13 bs13 bmI true sn13 sub13 ab13 col13 dd13 ka13 kb13 kc13 kd13 ke13 "IndexError.__new__"))
    (i13 : PySem.W.findIn K (.ref C13) "__init__" = some (some (.ref G13))) (t13 : PySem.W.typeIn K (.ref G13) = some (.type "function"))
    (ml13 : K.lookup G13 = some ⟨moc13, mod13, .func (PySem.W.fnOf "__init__" "TooMany.__init__" (defArgs s_TooMany___init__) (defBody s_TooMany___init__) (defScope s_TooMany___init__) .none mkV13 mdc13 mpm13 man13 mcd13 mct13), msl13⟩) (mc13 : PySem.W.codeIn K mcd13 "TooMany.__init__" = true) (mk13 : PySem.W.keepIn K (.ref G13) = true)
    (sa13 : PySem.W.findIn K (.ref C13) "__setattr__" = some (some (.builtin "object.__setattr__")))
    (sb13 : PySem.W.subIn K (.ref C13) (.type "BaseException") = some true)
    (sc13 : PySem.W.typeIn K (.ref C13) = some (.type "type"))
    (sd13 : PySem.W.keepIn K (.ref C13) = true)
    (se13 : PySem.W.findIn K (.ref C13) "__getattribute__" = some (some (.builtin "BaseException.__getattribute__")))
    (sf13 : PySem.W.findIn K (.ref C13) "__getattr__" = some none)
    (sg13 : PySem.W.hasDictIn K C13 = true)
    (sh13 : PySem.W.findIn K (.ref C13) "__class__" = some (some (.builtin "object.__class__")))
    (si13 : PySem.W.mroIn K C13 (.type "object") = some true)
    (fn13_0 : PySem.W.findIn K (.ref C13) "many" = some none)
    {C14 G14 : Addr} {nm14 q14 : Str} {N14 : Addr} {bs14 : List Value} {sn14 : List Str} {sub14 : List Value} {ab14 : Bool} {col14 : Option Bool} {dd14 : Option Addr} {ka14 kb14 kc14 kd14 ke14 : Option Value}
    {mod14 man14 : Option Addr} {msl14 : Array (Option Value)} {moc14 mkV14 mdc14 mpm14 mcd14 mct14 : Value}
    (m14 : PySem.W.nsIn K mainGlobals "NoPut" = some (some (.ref C14))) (o14 : K.lookup C14 = some (excClassObj nm14 q14 C14 N14 bs14 bmI true sn14 sub14 ab14 col14 dd14 ka14 kb14 kc14 kd14 ke14 "IndexError.__new__"))
    (i14 : PySem.W.findIn K (.ref C14) "__init__" = some (some (.ref G14))) (t14 : PySem.W.typeIn K (.ref G14) = some (.type "function"))
    (ml14 : K.lookup G14 = some ⟨moc14, mod14, .func (PySem.W.fnOf "__init__" "NoPut.__init__" (defArgs s_NoPut___init__) (defBody s_NoPut___init__) (defScope s_NoPut___init__) .none mkV14 mdc14 mpm14 man14 mcd14 mct14), msl14⟩) (mc14 : PySem.W.codeIn K mcd14 "NoPut.__init__" = true) (mk14 : PySem.W.keepIn K (.ref G14) = true)
    (sa14 : PySem.W.findIn K (.ref C14) "__setattr__" = some (some (.builtin "object.__setattr__")))
    (sb14 : PySem.W.subIn K (.ref C14) (.type "BaseException") = some true)
    (sc14 : PySem.W.typeIn K (.ref C14) = some (.type "type"))
    (sd14 : PySem.W.keepIn K (.ref C14) = true)
    (se14 : PySem.W.findIn K (.ref C14) "__getattribute__" = some (some (.builtin "BaseException.__getattribute__")))
    (sf14 : PySem.W.findIn K (.ref C14) "__getattr__" = some none)
    (sg14 : PySem.W.hasDictIn K C14 = true)
    (sh14 : PySem.W.findIn K (.ref C14) "__class__" = some (some (.builtin "object.__class__")))
    (si14 : PySem.W.mroIn K C14 (.type "object") = some true)
    {C15 G15 : Addr} {nm15 q15 : Str} {N15 : Addr} {bs15 : List Value} {sn15 : List Str} {sub15 : List Value} {ab15 : Bool} {col15 : Option Bool} {dd15 : Option Addr} {ka15 kb15 kc15 kd15 ke15 : Option Value}
    {mod15 man15 : Option Addr} {msl15 : Array (Option Value)} {moc15 mkV15 mdc15 mpm15 mcd15 mct15 : Value}
    (m15 : PySem.W.nsIn K mainGlobals "NoDeed" = some (some (.ref C15))) (o15 : K.lookup C15 = some (excClassObj nm15 q15 C15 N15 bs15 bmI true sn15 sub15 ab15 col15 dd15 ka15 kb15 kc15 kd15 ke15 "IndexError.__new__"))
    (i15 : PySem.W.findIn K (.ref C15) "__init__" = some (some (.ref G15))) (t15 : PySem.W.typeIn K (.ref G15) = some (.type "function"))
    (ml15 : K.lookup G15 = some ⟨moc15, mod15, .func (PySem.W.fnOf "__init__" "NoDeed.__init__" (defArgs s_NoDeed___init__) (defBody s_NoDeed___init__) (defScope s_NoDeed___init__) .none mkV15 mdc15 mpm15 man15 mcd15 mct15), msl15⟩) (mc15 : PySem.W.codeIn K mcd15 "NoDeed.__init__" = true) (mk15 : PySem.W.keepIn K (.ref G15) = true)
    (sa15 : PySem.W.findIn K (.ref C15) "__setattr__" = some (some (.builtin "object.__setattr__")))
    (sb15 : PySem.W.subIn K (.ref C15) (.type "BaseException") = some true)
    (sc15 : PySem.W.typeIn K (.ref C15) = some (.type "type"))
    (sd15 : PySem.W.keepIn K (.ref C15) = true)
    (se15 : PySem.W.findIn K (.ref C15) "__getattribute__" = some (some (.builtin "BaseException.__getattribute__")))
    (sf15 : PySem.W.findIn K (.ref C15) "__getattr__" = some none)
    (sg15 : PySem.W.hasDictIn K C15 = true)
    (sh15 : PySem.W.findIn K (.ref C15) "__class__" = some (some (.builtin "object.__class__")))
    (si15 : PySem.W.mroIn K C15 (.type "object") = some true)
    {C16 G16 : Addr} {nm16 q16 : Str} {N16 : Addr} {bs16 : List Value} {sn16 : List Str} {sub16 : List Value} {ab16 : Bool} {col16 : Option Bool} {dd16 : Option Addr} {ka16 kb16 kc16 kd16 ke16 : Option Value}
    {mod16 man16 : Option Addr} {msl16 : Array (Option Value)} {moc16 mkV16 mdc16 mpm16 mcd16 mct16 : Value}
    (m16 : PySem.W.nsIn K mainGlobals "IsBroken" = some (some (.ref C16))) (o16 : K.lookup C16 = some (excClassObj nm16 q16 C16 N16 bs16 bmL true sn16 sub16 ab16 col16 dd16 ka16 kb16 kc16 kd16 ke16 "LookupError.__new__"))
    (i16 : PySem.W.findIn K (.ref C16) "__init__" = some (some (.ref G16))) (t16 : PySem.W.typeIn K (.ref G16) = some (.type "function"))
    (ml16 : K.lookup G16 = some ⟨moc16, mod16, .func (PySem.W.fnOf "__init__" "IsBroken.__init__" (defArgs s_IsBroken___init__) (defBody s_IsBroken___init__) (defScope s_IsBroken___init__) .none mkV16 mdc16 mpm16 man16 mcd16 mct16), msl16⟩) (mc16 : PySem.W.codeIn K mcd16 "IsBroken.__init__" = true) (mk16 : PySem.W.keepIn K (.ref G16) = true)
    (sa16 : PySem.W.findIn K (.ref C16) "__setattr__" = some (some (.builtin "object.__setattr__")))
    (sb16 : PySem.W.subIn K (.ref C16) (.type "BaseException") = some true)
    (sc16 : PySem.W.typeIn K (.ref C16) = some (.type "type"))
    (sd16 : PySem.W.keepIn K (.ref C16) = true)
    (se16 : PySem.W.findIn K (.ref C16) "__getattribute__" = some (some (.builtin "BaseException.__getattribute__")))
    (sf16 : PySem.W.findIn K (.ref C16) "__getattr__" = some none)
    (sg16 : PySem.W.hasDictIn K C16 = true)
    (sh16 : PySem.W.findIn K (.ref C16) "__class__" = some (some (.builtin "object.__class__")))
    (si16 : PySem.W.mroIn K C16 (.type "object") = some true)
    {C17 G17 : Addr} {nm17 q17 : Str} {N17 : Addr} {bs17 : List Value} {sn17 : List Str} {sub17 : List Value} {ab17 : Bool} {col17 : Option Bool} {dd17 : Option Addr} {ka17 kb17 kc17 kd17 ke17 : Option Value}
    {mod17 man17 : Option Addr} {msl17 : Array (Option Value)} {moc17 mkV17 mdc17 mpm17 mcd17 mct17 : Value}
    (m17 : PySem.W.nsIn K mainGlobals "HasSome" = some (some (.ref C17))) (o17 : K.lookup C17 = some (excClassObj nm17 q17 C17 N17 bs17 bmL true sn17 sub17 ab17 col17 dd17 ka17 kb17 kc17 kd17 ke17 "LookupError.__new__"))
    (i17 : PySem.W.findIn K (.ref C17) "__init__" = some (some (.ref G17))) (t17 : PySem.W.typeIn K (.ref G17) = some (.type "function"))
    (ml17 : K.lookup G17 = some ⟨moc17, mod17, .func (PySem.W.fnOf "__init__" "HasSome.__init__" (defArgs s_HasSome___init__) (defBody s_HasSome___init__) (defScope s_HasSome___init__) .none mkV17 mdc17 mpm17 man17 mcd17 mct17), msl17⟩) (mc17 : PySem.W.codeIn K mcd17 "HasSome.__init__" = true) (mk17 : PySem.W.keepIn K (.ref G17) = true)
    (sa17 : PySem.W.findIn K (.ref C17) "__setattr__" = some (some (.builtin "object.__setattr__")))
    (sb17 : PySem.W.subIn K (.ref C17) (.type "BaseException") = some true)
    (sc17 : PySem.W.typeIn K (.ref C17) = some (.type "type"))
    (sd17 : PySem.W.keepIn K (.ref C17) = true)
    (se17 : PySem.W.findIn K (.ref C17) "__getattribute__" = some (some (.builtin "BaseException.__getattribute__")))
    (sf17 : PySem.W.findIn K (.ref C17) "__getattr__" = some none)
    (sg17 : PySem.W.hasDictIn K C17 = true)
    (sh17 : PySem.W.findIn K (.ref C17) "__class__" = some (some (.builtin "object.__class__")))
    (si17 : PySem.W.mroIn K C17 (.type "object") = some true)
    (nd : [C0, C1, C2, C3, C4, C5, C6, C7, C8, C9, C10, C11, C12, C13, C14, C15, C16, C17].Nodup)
    (ea : PySem.W.specialIn K (.builtin "object.__class__") "__get__" = some (some (.builtin "getset_descriptor.__get__"))) (eb : PySem.W.takesIn K (.builtin "object.__class__") = some true)
    (u0 : PySem.W.findCls K (.type "ValueError") (.type "type") "__init__" = some (.val (.builtin "ValueError.__init__")))
    (u1 : PySem.W.findCls K (.type "IndexError") (.type "type") "__init__" = some (.val (.builtin "IndexError.__init__")))
    (u2 : PySem.W.findCls K (.type "KeyError") (.type "type") "__init__" = some (.val (.builtin "KeyError.__init__")))
    (u3 : PySem.W.findCls K (.type "LookupError") (.type "type") "__init__" = some (.val (.builtin "LookupError.__init__")))
    (z0 : PySem.W.nsIn K mainGlobals "len" = some none)
    (z1 : PySem.W.nsIn K mainGlobals "isinstance" = some none)
    (z2 : PySem.W.nsIn K mainGlobals "IndexError" = some none)
    (z3 : PySem.W.nsIn K mainGlobals "KeyError" = some none)
    (z4 : PySem.W.nsIn K mainGlobals "ValueError" = some none)
    (z5 : PySem.W.nsIn K mainGlobals "range" = some none)
    (z6 : PySem.W.nsIn K mainGlobals "LookupError" = some none)
    (z7 : PySem.W.nsIn K mainGlobals "repr" = some none)
    : ∃ fd : FuncData, (∀ (s : Shared) (v : Value), BindsTo s fd ⟨[v], []⟩ [("_law_script", v)]) ∧ ∀ base : Heap, K.In base → base.Ns mainGlobals mg → RunAt l.prog w K mg base fa fd ["_law_script"] (spLaw K) := by
  have e := hfa.symm.trans (PySem.W.mg_of X G a4)
  cases e
  have T : Top K mg (fun i => [C0, C1, C2, C3, C4, C5, C6, C7, C8, C9, C10, C11, C12, C13, C14, C15, C16, C17].getD i 0) := ⟨⟨⟨_, _, PySem.W.mg_of X G a0, fun_mk (st := s__law_begun) l0 cc0 k0⟩⟩, ⟨⟨_, _, PySem.W.mg_of X G a1, fun_mk (st := s__law_draw) l1 cc1 k1⟩⟩, ⟨⟨_, _, PySem.W.mg_of X G a2, fun_mk (st := s__law_pick) l2 cc2 k2⟩⟩, ⟨⟨_, _, PySem.W.mg_of X G a3, fun_mk (st := s__law_under) l3 cc3 k3⟩⟩, ⟨⟨_, _, PySem.W.mg_of X G a4, fun_mk (st := s_law) l4 cc4 k4⟩⟩, cls_mk base_V (PySem.W.mg_of X G m0) o0 i0 t0 (fun_mk (st := s_NoMarks___init__) ml0 mc0 mk0) sa0 sb0 sc0 sd0 se0 sf0 sg0 sh0 si0 ea eb (no0), cls_mk base_V (PySem.W.mg_of X G m1) o1 i1 t1 (fun_mk (st := s_NoPlan___init__) ml1 mc1 mk1) sa1 sb1 sc1 sd1 se1 sf1 sg1 sh1 si1 ea eb (no0), cls_mk base_V (PySem.W.mg_of X G m2) o2 i2 t2 (fun_mk (st := s_NoText___init__) ml2 mc2 mk2) sa2 sb2 sc2 sd2 se2 sf2 sg2 sh2 si2 ea eb (no0), cls_mk base_V (PySem.W.mg_of X G m3) o3 i3 t3 (fun_mk (st := s_NoKnot___init__) ml3 mc3 mk3) sa3 sb3 sc3 sd3 se3 sf3 sg3 sh3 si3 ea eb (no1 fn3_0), cls_mk base_V (PySem.W.mg_of X G m4) o4 i4 t4 (fun_mk (st := s_NoFresh___init__) ml4 mc4 mk4) sa4 sb4 sc4 sd4 se4 sf4 sg4 sh4 si4 ea eb (no1 fn4_0), cls_mk base_V (PySem.W.mg_of X G m5) o5 i5 t5 (fun_mk (st := s_NoBound___init__) ml5 mc5 mk5) sa5 sb5 sc5 sd5 se5 sf5 sg5 sh5 si5 ea eb (no2 fn5_0 fn5_1), cls_mk base_V (PySem.W.mg_of X G m6) o6 i6 t6 (fun_mk (st := s_NoGrow___init__) ml6 mc6 mk6) sa6 sb6 sc6 sd6 se6 sf6 sg6 sh6 si6 ea eb (no0), cls_mk base_V (PySem.W.mg_of X G m7) o7 i7 t7 (fun_mk (st := s_NotWider___init__) ml7 mc7 mk7) sa7 sb7 sc7 sd7 se7 sf7 sg7 sh7 si7 ea eb (no1 fn7_0), cls_mk base_V (PySem.W.mg_of X G m8) o8 i8 t8 (fun_mk (st := s_TooFar___init__) ml8 mc8 mk8) sa8 sb8 sc8 sd8 se8 sf8 sg8 sh8 si8 ea eb (no1 fn8_0), cls_mk base_K (PySem.W.mg_of X G m9) o9 i9 t9 (fun_mk (st := s_IsPut___init__) ml9 mc9 mk9) sa9 sb9 sc9 sd9 se9 sf9 sg9 sh9 si9 ea eb (no1 fn9_0), cls_mk base_K (PySem.W.mg_of X G m10) o10 i10 t10 (fun_mk (st := s_NotOn___init__) ml10 mc10 mk10) sa10 sb10 sc10 sd10 se10 sf10 sg10 sh10 si10 ea eb (no1 fn10_0), cls_mk base_K (PySem.W.mg_of X G m11) o11 i11 t11 (fun_mk (st := s_IsRule___init__) ml11 mc11 mk11) sa11 sb11 sc11 sd11 se11 sf11 sg11 sh11 si11 ea eb (no1 fn11_0), cls_mk base_K (PySem.W.mg_of X G m12) o12 i12 t12 (fun_mk (st := s_NoRule___init__) ml12 mc12 mk12) sa12 sb12 sc12 sd12 se12 sf12 sg12 sh12 si12 ea eb (no1 fn12_0), cls_mk base_I (PySem.W.mg_of X G m13) o13 i13 t13 (fun_mk (st := s_TooMany___init__) ml13 mc13 mk13) sa13 sb13 sc13 sd13 se13 sf13 sg13 sh13 si13 ea eb (no1 fn13_0), cls_mk base_I (PySem.W.mg_of X G m14) o14 i14 t14 (fun_mk (st := s_NoPut___init__) ml14 mc14 mk14) sa14 sb14 sc14 sd14 se14 sf14 sg14 sh14 si14 ea eb (no0), cls_mk base_I (PySem.W.mg_of X G m15) o15 i15 t15 (fun_mk (st := s_NoDeed___init__) ml15 mc15 mk15) sa15 sb15 sc15 sd15 se15 sf15 sg15 sh15 si15 ea eb (no0), cls_mk base_L (PySem.W.mg_of X G m16) o16 i16 t16 (fun_mk (st := s_IsBroken___init__) ml16 mc16 mk16) sa16 sb16 sc16 sd16 se16 sf16 sg16 sh16 si16 ea eb (no0), cls_mk base_L (PySem.W.mg_of X G m17) o17 i17 t17 (fun_mk (st := s_HasSome___init__) ml17 mc17 mk17) sa17 sb17 sc17 sd17 se17 sf17 sg17 sh17 si17 ea eb (no0), getD_inj nd, u0, u1, u2, u3, PySem.W.mg_none_of X G z0, PySem.W.mg_none_of X G z1, PySem.W.mg_none_of X G z2, PySem.W.mg_none_of X G z3, PySem.W.mg_none_of X G z4, PySem.W.mg_none_of X G z5, PySem.W.mg_none_of X G z6, PySem.W.mg_none_of X G z7⟩
  exact ⟨_, fun s v => .of_eq rfl, fun base _ _ => at_law (fun_mk (st := s_law) l4 cc4 k4) T⟩
end Mc
open PySem PySem.W PyProof.Rows
set_option maxRecDepth 100000 in
set_option maxHeartbeats 0 in
theorem PySem.Challenge.cw_mostclauses_k99_refusals_made_holds : PySem.Challenge.rw_mostclauses_k99_refusals_made.Holds := by
  w_on; o_law; k_head; (case hw => w_witness2)
  k_fill
  refine Mc.walk_at (l := PySem.Challenge.rw_mostclauses_k99_refusals_made) (n := 63) (x := "_law_script") (sp := fun w => Mc.spLaw _) rfl (by decide) rfl (fun w h Y => PySem.W.kIn_of Y) ?F (fun _ _ a ns hl _ hS => ⟨a, ns, rfl, hS, hl, fun _ => rfl⟩)
  case F =>
    intro w mg fa h KX G hmg
    refine' Mc.all_mk KX G hmg ?a0 ?l0 ?cc0 ?k0 ?a1 ?l1 ?cc1 ?k1 ?a2 ?l2 ?cc2 ?k2 ?a3 ?l3 ?cc3 ?k3 ?a4 ?l4 ?cc4 ?k4 ?m0 ?o0 ?i0 ?t0 ?ml0 ?mc0 ?mk0 ?sa0 ?sb0 ?sc0 ?sd0 ?se0 ?sf0 ?sg0 ?sh0 ?si0 ?m1 ?o1 ?i1 ?t1 ?ml1 ?mc1 ?mk1 ?sa1 ?sb1 ?sc1 ?sd1 ?se1 ?sf1 ?sg1 ?sh1 ?si1 ?m2 ?o2 ?i2 ?t2 ?ml2 ?mc2 ?mk2 ?sa2 ?sb2 ?sc2 ?sd2 ?se2 ?sf2 ?sg2 ?sh2 ?si2 ?m3 ?o3 ?i3 ?t3 ?ml3 ?mc3 ?mk3 ?sa3 ?sb3 ?sc3 ?sd3 ?se3 ?sf3 ?sg3 ?sh3 ?si3 ?fn3_0 ?m4 ?o4 ?i4 ?t4 ?ml4 ?mc4 ?mk4 ?sa4 ?sb4 ?sc4 ?sd4 ?se4 ?sf4 ?sg4 ?sh4 ?si4 ?fn4_0 ?m5 ?o5 ?i5 ?t5 ?ml5 ?mc5 ?mk5 ?sa5 ?sb5 ?sc5 ?sd5 ?se5 ?sf5 ?sg5 ?sh5 ?si5 ?fn5_0 ?fn5_1 ?m6 ?o6 ?i6 ?t6 ?ml6 ?mc6 ?mk6 ?sa6 ?sb6 ?sc6 ?sd6 ?se6 ?sf6 ?sg6 ?sh6 ?si6 ?m7 ?o7 ?i7 ?t7 ?ml7 ?mc7 ?mk7 ?sa7 ?sb7 ?sc7 ?sd7 ?se7 ?sf7 ?sg7 ?sh7 ?si7 ?fn7_0 ?m8 ?o8 ?i8 ?t8 ?ml8 ?mc8 ?mk8 ?sa8 ?sb8 ?sc8 ?sd8 ?se8 ?sf8 ?sg8 ?sh8 ?si8 ?fn8_0 ?m9 ?o9 ?i9 ?t9 ?ml9 ?mc9 ?mk9 ?sa9 ?sb9 ?sc9 ?sd9 ?se9 ?sf9 ?sg9 ?sh9 ?si9 ?fn9_0 ?m10 ?o10 ?i10 ?t10 ?ml10 ?mc10 ?mk10 ?sa10 ?sb10 ?sc10 ?sd10 ?se10 ?sf10 ?sg10 ?sh10 ?si10 ?fn10_0 ?m11 ?o11 ?i11 ?t11 ?ml11 ?mc11 ?mk11 ?sa11 ?sb11 ?sc11 ?sd11 ?se11 ?sf11 ?sg11 ?sh11 ?si11 ?fn11_0 ?m12 ?o12 ?i12 ?t12 ?ml12 ?mc12 ?mk12 ?sa12 ?sb12 ?sc12 ?sd12 ?se12 ?sf12 ?sg12 ?sh12 ?si12 ?fn12_0 ?m13 ?o13 ?i13 ?t13 ?ml13 ?mc13 ?mk13 ?sa13 ?sb13 ?sc13 ?sd13 ?se13 ?sf13 ?sg13 ?sh13 ?si13 ?fn13_0 ?m14 ?o14 ?i14 ?t14 ?ml14 ?mc14 ?mk14 ?sa14 ?sb14 ?sc14 ?sd14 ?se14 ?sf14 ?sg14 ?sh14 ?si14 ?m15 ?o15 ?i15 ?t15 ?ml15 ?mc15 ?mk15 ?sa15 ?sb15 ?sc15 ?sd15 ?se15 ?sf15 ?sg15 ?sh15 ?si15 ?m16 ?o16 ?i16 ?t16 ?ml16 ?mc16 ?mk16 ?sa16 ?sb16 ?sc16 ?sd16 ?se16 ?sf16 ?sg16 ?sh16 ?si16 ?m17 ?o17 ?i17 ?t17 ?ml17 ?mc17 ?mk17 ?sa17 ?sb17 ?sc17 ?sd17 ?se17 ?sf17 ?sg17 ?sh17 ?si17 ?nd ?ea ?eb ?u0 ?u1 ?u2 ?u3 ?z0 ?z1 ?z2 ?z3 ?z4 ?z5 ?z6 ?z7
    (case a0 => k_is)
    (case l0 => k_is)
    (case cc0 => k_is)
    (case k0 => k_is)
    (case a1 => k_is)
    (case l1 => k_is)
    (case cc1 => k_is)
    (case k1 => k_is)
    (case a2 => k_is)
    (case l2 => k_is)
    (case cc2 => k_is)
    (case k2 => k_is)
    (case a3 => k_is)
    (case l3 => k_is)
    (case cc3 => k_is)
    (case k3 => k_is)
    (case a4 => k_is)
    (case l4 => k_is)
    (case cc4 => k_is)
    (case k4 => k_is)
    (case m0 => k_is)
    (case o0 => k_is)
    (case i0 => k_is)
    (case t0 => k_is)
    (case ml0 => k_is)
    (case mc0 => k_is)
    (case mk0 => k_is)
    (case sa0 => k_is)
    (case sb0 => k_is)
    (case sc0 => k_is)
    (case sd0 => k_is)
    (case se0 => k_is)
    (case sf0 => k_is)
    (case sg0 => k_is)
    (case sh0 => k_is)
    (case si0 => k_is)
    (case m1 => k_is)
    (case o1 => k_is)
    (case i1 => k_is)
    (case t1 => k_is)
    (case ml1 => k_is)
    (case mc1 => k_is)
    (case mk1 => k_is)
    (case sa1 => k_is)
    (case sb1 => k_is)
    (case sc1 => k_is)
    (case sd1 => k_is)
    (case se1 => k_is)
    (case sf1 => k_is)
    (case sg1 => k_is)
    (case sh1 => k_is)
    (case si1 => k_is)
    (case m2 => k_is)
    (case o2 => k_is)
    (case i2 => k_is)
    (case t2 => k_is)
    (case ml2 => k_is)
    (case mc2 => k_is)
    (case mk2 => k_is)
    (case sa2 => k_is)
    (case sb2 => k_is)
    (case sc2 => k_is)
    (case sd2 => k_is)
    (case se2 => k_is)
    (case sf2 => k_is)
    (case sg2 => k_is)
    (case sh2 => k_is)
    (case si2 => k_is)
    (case m3 => k_is)
    (case o3 => k_is)
    (case i3 => k_is)
    (case t3 => k_is)
    (case ml3 => k_is)
    (case mc3 => k_is)
    (case mk3 => k_is)
    (case sa3 => k_is)
    (case sb3 => k_is)
    (case sc3 => k_is)
    (case sd3 => k_is)
    (case se3 => k_is)
    (case sf3 => k_is)
    (case sg3 => k_is)
    (case sh3 => k_is)
    (case si3 => k_is)
    (case fn3_0 => k_is)
    (case m4 => k_is)
    (case o4 => k_is)
    (case i4 => k_is)
    (case t4 => k_is)
    (case ml4 => k_is)
    (case mc4 => k_is)
    (case mk4 => k_is)
    (case sa4 => k_is)
    (case sb4 => k_is)
    (case sc4 => k_is)
    (case sd4 => k_is)
    (case se4 => k_is)
    (case sf4 => k_is)
    (case sg4 => k_is)
    (case sh4 => k_is)
    (case si4 => k_is)
    (case fn4_0 => k_is)
    (case m5 => k_is)
    (case o5 => k_is)
    (case i5 => k_is)
    (case t5 => k_is)
    (case ml5 => k_is)
    (case mc5 => k_is)
    (case mk5 => k_is)
    (case sa5 => k_is)
    (case sb5 => k_is)
    (case sc5 => k_is)
    (case sd5 => k_is)
    (case se5 => k_is)
    (case sf5 => k_is)
    (case sg5 => k_is)
    (case sh5 => k_is)
    (case si5 => k_is)
    (case fn5_0 => k_is)
    (case fn5_1 => k_is)
    (case m6 => k_is)
    (case o6 => k_is)
    (case i6 => k_is)
    (case t6 => k_is)
    (case ml6 => k_is)
    (case mc6 => k_is)
    (case mk6 => k_is)
    (case sa6 => k_is)
    (case sb6 => k_is)
    (case sc6 => k_is)
    (case sd6 => k_is)
    (case se6 => k_is)
    (case sf6 => k_is)
    (case sg6 => k_is)
    (case sh6 => k_is)
    (case si6 => k_is)
    (case m7 => k_is)
    (case o7 => k_is)
    (case i7 => k_is)
    (case t7 => k_is)
    (case ml7 => k_is)
    (case mc7 => k_is)
    (case mk7 => k_is)
    (case sa7 => k_is)
    (case sb7 => k_is)
    (case sc7 => k_is)
    (case sd7 => k_is)
    (case se7 => k_is)
    (case sf7 => k_is)
    (case sg7 => k_is)
    (case sh7 => k_is)
    (case si7 => k_is)
    (case fn7_0 => k_is)
    (case m8 => k_is)
    (case o8 => k_is)
    (case i8 => k_is)
    (case t8 => k_is)
    (case ml8 => k_is)
    (case mc8 => k_is)
    (case mk8 => k_is)
    (case sa8 => k_is)
    (case sb8 => k_is)
    (case sc8 => k_is)
    (case sd8 => k_is)
    (case se8 => k_is)
    (case sf8 => k_is)
    (case sg8 => k_is)
    (case sh8 => k_is)
    (case si8 => k_is)
    (case fn8_0 => k_is)
    (case m9 => k_is)
    (case o9 => k_is)
    (case i9 => k_is)
    (case t9 => k_is)
    (case ml9 => k_is)
    (case mc9 => k_is)
    (case mk9 => k_is)
    (case sa9 => k_is)
    (case sb9 => k_is)
    (case sc9 => k_is)
    (case sd9 => k_is)
    (case se9 => k_is)
    (case sf9 => k_is)
    (case sg9 => k_is)
    (case sh9 => k_is)
    (case si9 => k_is)
    (case fn9_0 => k_is)
    (case m10 => k_is)
    (case o10 => k_is)
    (case i10 => k_is)
    (case t10 => k_is)
    (case ml10 => k_is)
    (case mc10 => k_is)
    (case mk10 => k_is)
    (case sa10 => k_is)
    (case sb10 => k_is)
    (case sc10 => k_is)
    (case sd10 => k_is)
    (case se10 => k_is)
    (case sf10 => k_is)
    (case sg10 => k_is)
    (case sh10 => k_is)
    (case si10 => k_is)
    (case fn10_0 => k_is)
    (case m11 => k_is)
    (case o11 => k_is)
    (case i11 => k_is)
    (case t11 => k_is)
    (case ml11 => k_is)
    (case mc11 => k_is)
    (case mk11 => k_is)
    (case sa11 => k_is)
    (case sb11 => k_is)
    (case sc11 => k_is)
    (case sd11 => k_is)
    (case se11 => k_is)
    (case sf11 => k_is)
    (case sg11 => k_is)
    (case sh11 => k_is)
    (case si11 => k_is)
    (case fn11_0 => k_is)
    (case m12 => k_is)
    (case o12 => k_is)
    (case i12 => k_is)
    (case t12 => k_is)
    (case ml12 => k_is)
    (case mc12 => k_is)
    (case mk12 => k_is)
    (case sa12 => k_is)
    (case sb12 => k_is)
    (case sc12 => k_is)
    (case sd12 => k_is)
    (case se12 => k_is)
    (case sf12 => k_is)
    (case sg12 => k_is)
    (case sh12 => k_is)
    (case si12 => k_is)
    (case fn12_0 => k_is)
    (case m13 => k_is)
    (case o13 => k_is)
    (case i13 => k_is)
    (case t13 => k_is)
    (case ml13 => k_is)
    (case mc13 => k_is)
    (case mk13 => k_is)
    (case sa13 => k_is)
    (case sb13 => k_is)
    (case sc13 => k_is)
    (case sd13 => k_is)
    (case se13 => k_is)
    (case sf13 => k_is)
    (case sg13 => k_is)
    (case sh13 => k_is)
    (case si13 => k_is)
    (case fn13_0 => k_is)
    (case m14 => k_is)
    (case o14 => k_is)
    (case i14 => k_is)
    (case t14 => k_is)
    (case ml14 => k_is)
    (case mc14 => k_is)
    (case mk14 => k_is)
    (case sa14 => k_is)
    (case sb14 => k_is)
    (case sc14 => k_is)
    (case sd14 => k_is)
    (case se14 => k_is)
    (case sf14 => k_is)
    (case sg14 => k_is)
    (case sh14 => k_is)
    (case si14 => k_is)
    (case m15 => k_is)
    (case o15 => k_is)
    (case i15 => k_is)
    (case t15 => k_is)
    (case ml15 => k_is)
    (case mc15 => k_is)
    (case mk15 => k_is)
    (case sa15 => k_is)
    (case sb15 => k_is)
    (case sc15 => k_is)
    (case sd15 => k_is)
    (case se15 => k_is)
    (case sf15 => k_is)
    (case sg15 => k_is)
    (case sh15 => k_is)
    (case si15 => k_is)
    (case m16 => k_is)
    (case o16 => k_is)
    (case i16 => k_is)
    (case t16 => k_is)
    (case ml16 => k_is)
    (case mc16 => k_is)
    (case mk16 => k_is)
    (case sa16 => k_is)
    (case sb16 => k_is)
    (case sc16 => k_is)
    (case sd16 => k_is)
    (case se16 => k_is)
    (case sf16 => k_is)
    (case sg16 => k_is)
    (case sh16 => k_is)
    (case si16 => k_is)
    (case m17 => k_is)
    (case o17 => k_is)
    (case i17 => k_is)
    (case t17 => k_is)
    (case ml17 => k_is)
    (case mc17 => k_is)
    (case mk17 => k_is)
    (case sa17 => k_is)
    (case sb17 => k_is)
    (case sc17 => k_is)
    (case sd17 => k_is)
    (case se17 => k_is)
    (case sf17 => k_is)
    (case sg17 => k_is)
    (case sh17 => k_is)
    (case si17 => k_is)
    (case nd => decide)
    (case ea => k_is)
    (case eb => k_is)
    (case u0 => k_is)
    (case u1 => k_is)
    (case u2 => k_is)
    (case u3 => k_is)
    (case z0 => k_is)
    (case z1 => k_is)
    (case z2 => k_is)
    (case z3 => k_is)
    (case z4 => k_is)
    (case z5 => k_is)
    (case z6 => k_is)
    (case z7 => k_is)
