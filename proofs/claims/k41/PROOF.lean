import PyProof.Rows.All
import Wide.All
import OpenK.AllK
import Wide.FinOn
import HandS.ForMost
import HandS.Flow
import HandS.Wide
import HandS.Small
import HandS.Style
import HandS.IsInst
import HandS.RaiseMore
import HandS.Codes
import HandS.ExcInit
import HandS.ExcIs
import HandS.ExcField
import HandS.FStr
import KE.KExcInit
import PyProof.ReprRoads
import PyProof.Rows.ReprShort
import PyProof.Rows.RegFStrParts
import PyProof.FString2
import PyProof.ExcBaseAll.ValueError
import PyProof.ExcBaseAll.IndexError
import PyProof.ExcBaseAll.LookupError
import PyProof.Rows.FactsExc_KeyError
import PyProof.Rows.FactsExc_ValueError
import PyProof.Rows.FactsExc_IndexError
import PyProof.Rows.FactsExc_LookupError
import HandS.WordsExc
import HandS.ExcOwn
import HandS.TryMany
import HandS.Star
import HandS.TupMul
import HandS.Iter
import HandS.Text
import HandS.TupAny
import HandS.Conv
import PyProof.ReprBulk
import HandS.TupLe
import HandS.Zip
import HandS.Walk
import HandS.WideBits
import HandS.DictComp
import HandS.SetBool
import HandS.Strs
import HandS.SetFor
import PySem.Challenge.RW_mostclauses_k41_apart
set_option Elab.async false
set_option linter.all false
set_option maxRecDepth 100000
set_option maxHeartbeats 4000000
namespace Mc
open PySem PySem.Spec PyProof.Rows L2
/-! ### the text by places -/
def top (i : Nat) : Stmt := PySem.Challenge.pw_mostclauses_k41_apart.main.body.getD i (.Pass ⟨0, 0, 0, 0⟩)

abbrev s_ways : Stmt := top 4
abbrev nm_ways : List Str := ["lens", "many", "length"]
theorem sc_ways : FnScope nm_ways ["lens"] (defScope s_ways) := ⟨rfl, rfl, rfl, by decide +kernel, rfl, by decide +kernel, by decide +kernel⟩
abbrev s_how_many : Stmt := top 5
abbrev nm_how_many : List Str := ["lens", "total", "many"]
theorem sc_how_many : FnScope nm_how_many ["lens", "total"] (defScope s_how_many) := ⟨rfl, rfl, rfl, by decide +kernel, rfl, by decide +kernel, by decide +kernel⟩
abbrev s_choices : Stmt := top 6
abbrev nm_choices : List Str := ["lens", "total", "many", "begun", "behind", "length", "counts", "left", "count"]
theorem sc_choices : FnScope nm_choices ["lens", "total"] (defScope s_choices) := ⟨rfl, rfl, rfl, by decide +kernel, rfl, by decide +kernel, by decide +kernel⟩
abbrev s__with_one_more : Stmt := top 7
abbrev nm__with_one_more : List Str := ["many", "length", "told", "held", "total"]
theorem sc__with_one_more : FnScope nm__with_one_more ["many", "length"] (defScope s__with_one_more) := ⟨rfl, rfl, rfl, by decide +kernel, rfl, by decide +kernel, by decide +kernel⟩
abbrev s_apart : Stmt := top 9
abbrev nm_apart : List Str := ["marks", "most", "found", "counts", "mark", "count"]
theorem sc_apart : FnScope nm_apart ["marks", "most"] (defScope s_apart) := ⟨rfl, rfl, rfl, by decide +kernel, rfl, by decide +kernel, by decide +kernel⟩
abbrev s_are_apart : Stmt := top 10
abbrev nm_are_apart : List Str := ["marks", "most", "settings", "mark", "having", "number", "setting", "every"]
theorem sc_are_apart : FnScope nm_are_apart ["marks", "most", "settings"] (defScope s_are_apart) := ⟨rfl, rfl, rfl, by decide +kernel, rfl, by decide +kernel, by decide +kernel⟩
abbrev s__having_more : Stmt := top 11
abbrev nm__having_more : List Str := ["owners", "most", "every", "reached", "owning", "below", "here"]
theorem sc__having_more : FnScope nm__having_more ["owners", "most", "every"] (defScope s__having_more) := ⟨rfl, rfl, rfl, by decide +kernel, rfl, by decide +kernel, by decide +kernel⟩
abbrev s__law_begun : Stmt := top 13
abbrev nm__law_begun : List Str := ["_law_script"]
theorem sc__law_begun : FnScope nm__law_begun ["_law_script"] (defScope s__law_begun) := ⟨rfl, rfl, rfl, by decide +kernel, rfl, by decide +kernel, by decide +kernel⟩
abbrev s__law_draw : Stmt := top 14
abbrev nm__law_draw : List Str := ["_law_tape", "_law_many", "_law_spot", "_law_most", "_law_cell", "_law_found"]
theorem sc__law_draw : FnScope nm__law_draw ["_law_tape", "_law_many"] (defScope s__law_draw) := ⟨rfl, rfl, rfl, by decide +kernel, rfl, by decide +kernel, by decide +kernel⟩
abbrev s__law_pick : Stmt := top 15
abbrev nm__law_pick : List Str := ["_law_tape", "_law_some"]
theorem sc__law_pick : FnScope nm__law_pick ["_law_tape", "_law_some"] (defScope s__law_pick) := ⟨rfl, rfl, rfl, by decide +kernel, rfl, by decide +kernel, by decide +kernel⟩
abbrev s__law_marks : Stmt := top 16
abbrev nm__law_marks : List Str := ["_law_tape", "_law_many", "_law_by", "_law_leap", "_law_first", "_law_names", "_law_signs", "_law_name", "_law_k"]
theorem sc__law_marks : FnScope nm__law_marks ["_law_tape", "_law_many"] (defScope s__law_marks) := ⟨rfl, rfl, rfl, by decide +kernel, rfl, by decide +kernel, by decide +kernel⟩
abbrev s__law_number : Stmt := top 17
abbrev nm__law_number : List Str := ["_law_many", "_law_most", "_law_found", "_law_k"]
theorem sc__law_number : FnScope nm__law_number ["_law_many", "_law_most"] (defScope s__law_number) := ⟨rfl, rfl, rfl, by decide +kernel, rfl, by decide +kernel, by decide +kernel⟩
abbrev s__law_apart : Stmt := top 18
abbrev nm__law_apart : List Str := ["_law_marks_here", "_law_most", "_law_settings", "_law_k", "_law_other", "_law_mark"]
theorem sc__law_apart : FnScope nm__law_apart ["_law_marks_here", "_law_most", "_law_settings"] (defScope s__law_apart) := ⟨rfl, rfl, rfl, by decide +kernel, rfl, by decide +kernel, by decide +kernel⟩
abbrev s__law_bent : Stmt := top 19
abbrev nm__law_bent : List Str := ["_law_tape", "_law_marks_here", "_law_most", "_law_settings", "_law_way", "_law_at", "_law_here", "_law_mark", "_law_bare", "_law_part", "_law_some", "_law_one"]
theorem sc__law_bent : FnScope nm__law_bent ["_law_tape", "_law_marks_here", "_law_most", "_law_settings"] (defScope s__law_bent) := ⟨rfl, rfl, rfl, by decide +kernel, rfl, by decide +kernel, by decide +kernel⟩
abbrev s__law_shuffled : Stmt := top 20
abbrev nm__law_shuffled : List Str := ["_law_tape", "_law_some", "_law_left", "_law_found"]
theorem sc__law_shuffled : FnScope nm__law_shuffled ["_law_tape", "_law_some"] (defScope s__law_shuffled) := ⟨rfl, rfl, rfl, by decide +kernel, rfl, by decide +kernel, by decide +kernel⟩
abbrev s__law_stretches : Stmt := top 21
abbrev nm__law_stretches : List Str := ["_law_tape", "_law_marks_here", "_law_most", "_law_mixed", "_law_found", "_law_at", "_law_k", "_law_wide"]
theorem sc__law_stretches : FnScope nm__law_stretches ["_law_tape", "_law_marks_here", "_law_most"] (defScope s__law_stretches) := ⟨rfl, rfl, rfl, by decide +kernel, rfl, by decide +kernel, by decide +kernel⟩
abbrev s__law_told_right : Stmt := top 22
abbrev nm__law_told_right : List Str := ["_law_marks_here", "_law_most", "_law_settings", "_law_handed", "_law_copies", "_law_told", "_law_some"]
theorem sc__law_told_right : FnScope nm__law_told_right ["_law_marks_here", "_law_most", "_law_settings"] (defScope s__law_told_right) := ⟨rfl, rfl, rfl, by decide +kernel, rfl, by decide +kernel, by decide +kernel⟩
abbrev s__law_any_sizes_right : Stmt := top 23
abbrev nm__law_any_sizes_right : List Str := ["_law_tape", "_law_many", "_law_most", "_law_marks_here", "_law_again"]
theorem sc__law_any_sizes_right : FnScope nm__law_any_sizes_right ["_law_tape"] (defScope s__law_any_sizes_right) := ⟨rfl, rfl, rfl, by decide +kernel, rfl, by decide +kernel, by decide +kernel⟩
abbrev s__law_chosen : Stmt := top 24
abbrev nm__law_chosen : List Str := ["_law_marks_here", "_law_told", "_law_some", "_law_mark"]
theorem sc__law_chosen : FnScope nm__law_chosen ["_law_marks_here", "_law_told"] (defScope s__law_chosen) := ⟨rfl, rfl, rfl, by decide +kernel, rfl, by decide +kernel, by decide +kernel⟩
abbrev s__law_refused : Stmt := top 25
abbrev nm__law_refused : List Str := ["_law_marks_here", "_law_most", "_law_kept", "e"]
theorem sc__law_refused : FnScope nm__law_refused ["_law_marks_here", "_law_most"] (defScope s__law_refused) := ⟨rfl, rfl, rfl, by decide +kernel, rfl, by decide +kernel, by decide +kernel⟩
abbrev s_law : Stmt := top 26
abbrev nm_law : List Str := ["_law_script", "_law_tape", "_law_turn", "_law_way", "_law_many", "_law_most", "_law_some", "_law_marks_here", "_law_due", "_law_handed", "_law_told", "_law_bent_here", "_law_dues", "_law_one", "_law_is_due", "_law_copies"]
theorem sc_law : FnScope nm_law ["_law_script"] (defScope s_law) := ⟨rfl, rfl, rfl, by decide +kernel, rfl, by decide +kernel, by decide +kernel⟩
/-- an inner statement of a class -/
def inner (s : Stmt) (j : Nat) : Stmt := match s with
  | .ClassDef _ _ _ b _ _ _ _ _ _ _ => b.getD j (.Pass ⟨0, 0, 0, 0⟩)
  | z => z
abbrev s_TooMany___init__ : Stmt := inner (top 1) 0
abbrev nm_TooMany___init__ : List Str := ["self", "many"]
theorem sc_TooMany___init__ : FnScope nm_TooMany___init__ ["self", "many"] (defScope s_TooMany___init__) := ⟨rfl, rfl, rfl, by decide +kernel, rfl, by decide +kernel, by decide +kernel⟩
/-! ### a def that stands in the top and keeps a promise -/
structure At (K : PySem.W.Frag) (mg : Str → Option Value) (x : Str) (st : Stmt) : Prop where
  ex : ∃ f fd, mg x = some (.ref f) ∧ Fun K x x st f fd
structure Has (P : Program) (w : World) (K : PySem.W.Frag) (mg : Str → Option Value) (base : Heap) (k : Nat) (x : Str) (ps : List Str) (sp : Sp) : Prop where
  ex : ∃ f fd, mg x = some (.ref f) ∧ PySem.W.keepIn K (.ref f) = true ∧ Binds K fd ps [] ∧ FnOk P w K mg base CX0 k f fd ps sp
theorem pe_has {X : Cx} {k : Nat} {x : Str} {ps : List Str} {sp : Sp} {e : Expr} {es : List Expr} {t : TA} {p pos : Pos} (h : Has X.prog X.w X.K X.mg X.base k x ps sp) (hr : Room k X.A) (hg : Gl X x) (ha : PA X (e :: es) t)
    (hdb : (x == ("__debug__" : Str)) = false := by decide) (he : starEach (e :: es) X.env = (false, eval e X.env) :: starEach es X.env := by rfl) (hpl : (backTo pos (starEach es X.env)).any (·.1) = false := by rfl) :
    PE X (.Call (.Name x p) (e :: es) [] pos) (tCall sp [] E0 t) := by
  obtain ⟨f, fd, hm, hk, hb, F⟩ := h.ex
  exact pe_call F hr hg hm hk hb .nil pass0 ha hdb he hpl
abbrev BindsAll (x : Str) (st : Stmt) (ps : List Str) : Prop :=
  ∀ (kV doc pm : Value) (an : Option Addr) (cdv ct : Value) (us : List Value), us.length = ps.length → bindArgs (PySem.W.fnOf x x (defArgs st) (defBody st) (defScope st) .none kV doc pm an cdv ct) ⟨us, []⟩ = pure (ps.zip us)
section
variable {P : Program} {w : World} {K : PySem.W.Frag} {mg : Str → Option Value} {base : Heap}
theorem has_of {x : Str} {st : Stmt} {N ps : List Str} {k : Nat} {sp : Sp} (A : At K mg x st) (S : FnScope N ps (defScope st)) (B : BindsAll x st ps) (len : ∀ vs H Q E, sp vs H Q E → vs.length = ps.length)
    (hbody : ∀ (f : Addr) (cdv : Value) (A : Around) (outer : List Env) (s : Shared) (H : Hp) (vs : List V) (Q : VK) (E : XK), Room k (A.deeper (envOfC x (defScope st) s.heap.objs.size f cdv)) → sp vs H Q E →
      ∃ t, PSs (cxOf CX0 P w K mg base N x (defScope st) f cdv A outer s H E).nox (defBody st) t ∧ t { nx := fun _ H' => Q .non H', rt := Q } (start N vs) H) : Has P w K mg base (k + 1) x ps sp := by
  obtain ⟨f, fd, hm, F⟩ := A.ex
  exact ⟨f, fd, hm, F.kp, F.binds B, F.ok S len fun cdv A outer s H vs Q E hr h => hbody f cdv A outer s H vs Q E hr h⟩
end
theorem pe_const {X : Cx} {x : Str} {i : Int} {pos : Pos} (hm : ∃ t, X.mg x = some (.int i t)) (hg : Gl X x) (hd : (x == ("__debug__" : Str)) = false := by decide) : PE X (.Name x pos) (tC (.int i)) := by
  obtain ⟨t, hm⟩ := hm
  exact pe_glob hg hm ⟨t, rfl⟩ hd
/-! ### repr of a truth -/
def boolText (b : Bool) : Str := if b then "True" else "False"
theorem boolText_inj {a b : Bool} (h : boolText a = boolText b) : a = b := by
  cases a <;> cases b <;> first | rfl | exact absurd h (by decide +kernel)
theorem call_repr_bool {X : Cx} : CallR X (.builtin "repr") (fun xs H Q => ∃ b, xs = [.bl b] ∧ Q (.str (boolText b)) H) := by
  intro pins s σ H xs us Q I r h
  obtain ⟨b, rfl, q⟩ := h
  obtain ⟨u, rfl, ru⟩ := vals1 r
  cases ru
  cases b with
  | true => exact PySem.P.repr_of_bool ⟨.str (boolText true), H, I.tok _, ⟨_, rfl⟩, q⟩
  | false => exact PySem.P.repr_of_bool ⟨.str (boolText false), H, I.tok _, ⟨_, rfl⟩, q⟩
/-! ### heaps -/
/-- all that is known stays, but for what stands at t -/
def Kp (t : Addr) (H H' : Hp) : Prop := ∀ b o, H b = some o → b ≠ t → H' b = some o
theorem Kp.refl {t : Addr} (H : Hp) : Kp t H H := fun _ _ h _ => h
theorem Kp.trans {t : Addr} {H H1 H2 : Hp} (a : Kp t H H1) (b : Kp t H1 H2) : Kp t H H2 := fun c o h n => b c o (a c o h n) n
theorem Kp.new {t p : Addr} {H : Hp} {o : HO} (h : H p = none) : Kp t H (upd H p o) := fun b u e _ => by
  rw [upd_ne (ne_of_none e h)]
  exact e
theorem Kp.at {t : Addr} {H : Hp} {o : HO} : Kp t H (upd H t o) := fun b u e n => by
  rw [upd_ne n]
  exact e
theorem Kp.same {t : Addr} {H H' : Hp} (s : Same H H') : Kp t H H' := fun b o e _ => s b o e
theorem same_new {H : Hp} {p : Addr} {o : HO} (h : H p = none) : Same H (upd H p o) := fun b u e => by
  rw [upd_ne (ne_of_none e h)]
  exact e
/-! ### the tape -/
def tk (c : Addr) (spot left : Int) : List (Key × V) := [(.inr "cells", .ref c), (.inr "spot", .int spot), (.inr "left", .int left)]
structure TapeC (H : Hp) (t c : Addr) (ns : List Int) (spot left : Int) : Prop where
  d : H t = some (.dK (tk c spot left))
  l : H c = some (.lst (ns.map V.int))
  ne : 0 < ns.length
  lt : ns.length ≤ 63
  s0 : 0 ≤ spot
  l0 : 0 ≤ left
/-- a tape at t, its cells at c, of which at most n draws are taken -/
def Tape (H : Hp) (t c : Addr) (n : Nat) : Prop := ∃ ns spot left, TapeC H t c ns spot left ∧ spot ≤ n
theorem Tape.ne {H : Hp} {t c : Addr} {n : Nat} (h : Tape H t c n) : t ≠ c := by
  obtain ⟨ns, spot, left, h, _⟩ := h
  exact ne_of h.d h.l (by intro z; cases z)
theorem Tape.le {H : Hp} {t c : Addr} {n m : Nat} (h : Tape H t c n) (l : n ≤ m) : Tape H t c m := by
  obtain ⟨ns, spot, left, h, e⟩ := h
  exact ⟨ns, spot, left, h, by omega⟩
theorem Tape.stay {H H' : Hp} {t c : Addr} {n : Nat} (h : Tape H t c n) (k : ∀ b o, H b = some o → b = t ∨ b = c → H' b = some o) : Tape H' t c n := by
  obtain ⟨ns, spot, left, h, e⟩ := h
  exact ⟨ns, spot, left, ⟨k _ _ h.d (.inl rfl), k _ _ h.l (.inr rfl), h.ne, h.lt, h.s0, h.l0⟩, e⟩
theorem Tape.same {H H' : Hp} {t c : Addr} {n : Nat} (h : Tape H t c n) (s : Same H H') : Tape H' t c n := h.stay fun b o e _ => s b o e
theorem Tape.new {H : Hp} {t c p : Addr} {n : Nat} {o : HO} (h : Tape H t c n) (hp : H p = none) : Tape (upd H p o) t c n := h.same (same_new hp)
theorem Tape.at_t {H : Hp} {t c : Addr} {n : Nat} (h : Tape H t c n) : ∃ o, H t = some o := by
  obtain ⟨ns, spot, left, h, _⟩ := h
  exact ⟨_, h.d⟩
theorem Tape.at_c {H : Hp} {t c : Addr} {n : Nat} (h : Tape H t c n) : ∃ o, H c = some o := by
  obtain ⟨ns, spot, left, h, _⟩ := h
  exact ⟨_, h.l⟩
theorem k_cells : ¬ (("cells" : Str) = "spot") := by decide +kernel
theorem k_cells2 : ¬ (("cells" : Str) = "left") := by decide +kernel
theorem k_spot : ¬ (("spot" : Str) = "left") := by decide +kernel
theorem tk_cells (c : Addr) (a b : Int) : valV (tk c a b) (Sum.inr "cells" : Key) = some (.ref c) := valV_pos rfl
theorem tk_spot (c : Addr) (a b : Int) : valV (tk c a b) (Sum.inr "spot" : Key) = some (.int a) := by
  unfold tk
  rw [valV_neg (fun e => k_cells (Sum.inr.inj e)), valV_pos rfl]
theorem tk_left (c : Addr) (a b : Int) : valV (tk c a b) (Sum.inr "left" : Key) = some (.int b) := by
  unfold tk
  rw [valV_neg (fun e => k_cells2 (Sum.inr.inj e)), valV_neg (fun e => k_spot (Sum.inr.inj e)), valV_pos rfl]
theorem tk_put_spot (c : Addr) (a b x : Int) : putK (tk c a b) (Sum.inr "spot" : Key) (.int x) = tk c x b := by
  rfl
theorem tk_put_left (c : Addr) (a b x : Int) : putK (tk c a b) (Sum.inr "left" : Key) (.int x) = tk c a x := by
  rfl
theorem dg_cells {H : Hp} {t c : Addr} {a b : Int} (h : H t = some (.dK (tk c a b))) : DGet H t (.str "cells") (some (.ref c)) := by
  have g := DGet.k (k := (Sum.inr "cells" : Key)) h
  rw [tk_cells] at g
  exact g
theorem dg_spot {H : Hp} {t c : Addr} {a b : Int} (h : H t = some (.dK (tk c a b))) : DGet H t (.str "spot") (some (.int a)) := by
  have g := DGet.k (k := (Sum.inr "spot" : Key)) h
  rw [tk_spot] at g
  exact g
theorem dg_left {H : Hp} {t c : Addr} {a b : Int} (h : H t = some (.dK (tk c a b))) : DGet H t (.str "left") (some (.int b)) := by
  have g := DGet.k (k := (Sum.inr "left" : Key)) h
  rw [tk_left] at g
  exact g
theorem dp_spot {H : Hp} {t c : Addr} {a b : Int} (x : Int) (h : H t = some (.dK (tk c a b))) : DPut H t (.str "spot") (.int x) (upd H t (.dK (tk c x b))) := by
  have g := DPut.k (k := (Sum.inr "spot" : Key)) (v := .int x) h (small1000 (by show 3 ≤ 1000; decide))
  rw [tk_put_spot] at g
  exact g
theorem dp_left {H : Hp} {t c : Addr} {a b : Int} (x : Int) (h : H t = some (.dK (tk c a b))) : DPut H t (.str "left") (.int x) (upd H t (.dK (tk c a x))) := by
  have g := DPut.k (k := (Sum.inr "left" : Key)) (v := .int x) h (small1000 (by show 3 ≤ 1000; decide))
  rw [tk_put_left] at g
  exact g
theorem Tape.fresh {H : Hp} {t c p : Addr} {n : Nat} (h : Tape H t c n) (hp : H p = none) : p ≠ t := by
  obtain ⟨o, e⟩ := h.at_t
  exact (ne_of_none e hp).symm
theorem Tape.fresh_c {H : Hp} {t c p : Addr} {n : Nat} (h : Tape H t c n) (hp : H p = none) : p ≠ c := by
  obtain ⟨o, e⟩ := h.at_c
  exact (ne_of_none e hp).symm
/-! ### a list beside the empty list -/
section
variable {X : Cx}
def rEqNil (K : PySem.W.Frag) (neg : Bool) : R2 := fun x y H Q => ∃ a b xs, x = .ref a ∧ y = .ref b ∧ SqL K H a xs ∧ SqL K H b [] ∧ Q (.bl (if neg = true then !xs.isEmpty else xs.isEmpty)) H
theorem op_eqNil (hu : X.A.units + 1 < cLine) : OpR X (compareOp .Eq) (rEqNil X.K false) := by
  intro pins s σ H x y v u Q I rx ry h
  obtain ⟨a, b, xs, rfl, rfl, ha, hb, q⟩ := h
  cases rx
  cases ry
  obtain ⟨us, vs, pl, _⟩ := I.list ha
  obtain ⟨ws, vs2, pl2, _⟩ := I.list hb
  cases vs2
  have l := vs.length
  cases xs with
  | nil =>
    cases vs
    exact SeqAt.RcAt.lists (e := fun _ => true) pl.isList pl2.isList rfl (by omega) (fun j h1 => absurd h1 (Nat.not_lt_zero _)) _ _ _ _ ⟨.bl true, H, I, rfl, q⟩
  | cons z zs => exact SeqAt.RcAt.lists_lengths pl.isList pl2.isList (by rw [List.size_toArray, ← l]; rfl) (by omega) _ _ _ _ ⟨.bl false, H, I, rfl, q⟩
theorem op_neNil (hu : X.A.units + 1 < cLine) : OpR X (compareOp .NotEq) (rEqNil X.K true) := by
  intro pins s σ H x y v u Q I rx ry h
  obtain ⟨a, b, xs, rfl, rfl, ha, hb, q⟩ := h
  cases rx
  cases ry
  obtain ⟨us, vs, pl, _⟩ := I.list ha
  obtain ⟨ws, vs2, pl2, _⟩ := I.list hb
  cases vs2
  have l := vs.length
  cases xs with
  | nil =>
    cases vs
    exact SeqAt.RcNeAt.lists (e := fun _ => true) pl.isList pl2.isList rfl (by omega) (fun j h1 => absurd h1 (Nat.not_lt_zero _)) _ _ _ _ ⟨.bl false, H, I, rfl, q⟩
  | cons z zs => exact SeqAt.RcNeAt.lists_lengths pl.isList pl2.isList (by rw [List.size_toArray, ← l]; rfl) (by omega) _ _ _ _ ⟨.bl true, H, I, rfl, q⟩
end
/-! ### comprehensions that leave what is known as it is -/
theorem take_sel {α β : Type} (t : α → Bool) (f : α → β) {xs : List α} {i : Nat} {x : α} (h : xs[i]? = some x) :
    ((xs.take (i + 1)).filter t).map f = ((xs.take i).filter t).map f ++ (if t x = true then [f x] else []) := by
  rw [List.take_add_one, h, List.filter_append, List.map_append]
  by_cases ht : t x = true
  · rw [if_pos ht]
    simp [ht]
  · rw [if_neg ht]
    simp [ht]
section
variable {K : PySem.W.Frag} {a : Addr} {xs : List V} {tt : TT} {te : TE} {vs : List Nat} {σ : L2.St} {H : Hp} {D : Addr} {Qd : Hp → Prop} {j : Nat}
/-- what a turn asks: the test, the item -/
structure SelT (H : Hp) (σ : L2.St) (vs : List Nat) (j : Nat) (tt : TT) (te : TE) (x : V) (b : Bool) (y : V) : Prop where
  wip : wipe ((wipe σ vs).set j (some x)) vs = wipe σ vs
  tst : ∀ H', Same H H' → ∀ R : Bool → Hp → Prop, (∀ H'', Same H' H'' → R b H'') → tt ((wipe σ vs).set j (some x)) H' R
  elt : b = true → ∀ H', Same H H' → ∀ R : VK, (∀ H'', Same H' H'' → R y H'') → te ((wipe σ vs).set j (some x)) H' R
theorem sel_turn {x y : V} {b : Bool} {acc : List V} {H' : Hp} {P : Hp → Prop} (hD : H D = none) (s : SelT H σ vs j tt te x b y) (hs : Same H H') (ha : H' D = some (.lst acc)) (hz : acc.length < sizeLine)
    (k : ∀ H'', Same H H'' → H'' D = some (.lst (acc ++ (if b = true then [y] else []))) → P H'') :
    gName j x (wipe σ vs) H' fun σ2 H2 => wipe σ2 vs = wipe σ vs ∧ tt σ2 H2 fun c H3 => if c = true then te σ2 H3 fun y H4 => ∃ acc, H4 D = some (.lst acc) ∧ acc.length < sizeLine ∧ P (upd H4 D (.lst (acc ++ [y]))) else P H3 := by
  refine ⟨s.wip, s.tst H' hs _ fun H3 s3 => ?_⟩
  have h3 := s3 D _ ha
  cases b with
  | false =>
    refine iteF (k H3 (hs.trans s3) ?_)
    rw [h3, if_neg Bool.false_ne_true, List.append_nil]
  | true =>
    refine iteT (s.elt rfl H3 (hs.trans s3) _ fun H4 s4 => ⟨acc, s4 D _ h3, hz, k _ (fun c o e => ?_) ?_⟩)
    · rw [upd_ne (ne_of_none e hD)]
      exact s4 c o (s3 c o (hs c o e))
    · rw [upd_same, if_pos rfl]
theorem lc_sel_list (t : V → Bool) (f : V → V) (hx : SqL K H a xs) (hD : H D = none) (hz : xs.length ≤ 1000000) (hs : ∀ x ∈ xs, SelT H σ vs j tt te x (t x) (f x)) (k : ∀ H', Same H H' → H' D = some (.lst ((xs.filter t).map f)) → Qd H') :
    ∃ W : Nat → Nat → Hp → Prop, (∃ m, W 0 m (upd H D (.lst []))) ∧ ∀ i m H, W i m H →
      ((Itl K a).stop i H ∧ Qd H) ∨ ((Itl K a).go i H ∧ ∃ Nx : Hp → Prop, (∀ H', Nx H' → ∃ m', m' < m ∧ W (i + 1) m' H') ∧ ∀ x H', (Itl K a).yld i H x H' → gName j x (wipe σ vs) H' fun σ2 H2 => wipe σ2 vs = wipe σ vs ∧ tt σ2 H2 fun b H3 =>
        if b = true then te σ2 H3 fun y H4 => ∃ acc, H4 D = some (.lst acc) ∧ acc.length < sizeLine ∧ Nx (upd H4 D (.lst (acc ++ [y]))) else Nx H3) := by
  have line : 1000000 < sizeLine := by decide
  refine lc_list (xs := xs) (fun i H' => Same H H' ∧ H' D = some (.lst (((xs.take i).filter t).map f))) ⟨same_new hD, upd_same⟩ (fun i H' _ p => p.1.seq hx) (fun i x H' hi p => ?_) fun H' p => k H' p.1 (by rw [p.2, List.take_length])
  refine sel_turn hD (hs x (List.mem_of_getElem? hi)) p.1 p.2 ?_ fun H'' s'' e => ⟨s'', by rw [e, take_sel t f hi]⟩
  have l1 := List.length_filter_le t (xs.take i)
  have l2 := List.length_take_le i xs
  have l3 : (xs.take i).length ≤ xs.length := by rw [List.length_take]; omega
  rw [List.length_map]
  omega
theorem Same.seqT {H H' : Hp} (e : Same H H') (h : SqT K H a xs) : SqT K H' a xs := by
  rcases h with (h | ⟨o, h⟩) | h
  · exact .inl (.inl (e _ _ h))
  · exact .inl (.inr ⟨o, e _ _ h⟩)
  · exact .inr h
theorem lc_sel_tup (t : V → Bool) (f : V → V) (hx : SqT K H a xs) (hD : H D = none) (hz : xs.length ≤ 1000000) (hs : ∀ x ∈ xs, SelT H σ vs j tt te x (t x) (f x)) (k : ∀ H', Same H H' → H' D = some (.lst ((xs.filter t).map f)) → Qd H') :
    ∃ W : Nat → Nat → Hp → Prop, (∃ m, W 0 m (upd H D (.lst []))) ∧ ∀ i m H, W i m H →
      ((Itt K a).stop i H ∧ Qd H) ∨ ((Itt K a).go i H ∧ ∃ Nx : Hp → Prop, (∀ H', Nx H' → ∃ m', m' < m ∧ W (i + 1) m' H') ∧ ∀ x H', (Itt K a).yld i H x H' → gName j x (wipe σ vs) H' fun σ2 H2 => wipe σ2 vs = wipe σ vs ∧ tt σ2 H2 fun b H3 =>
        if b = true then te σ2 H3 fun y H4 => ∃ acc, H4 D = some (.lst acc) ∧ acc.length < sizeLine ∧ Nx (upd H4 D (.lst (acc ++ [y]))) else Nx H3) := by
  have line : 1000000 < sizeLine := by decide
  refine lc_tup (xs := xs) (fun i H' => Same H H' ∧ H' D = some (.lst (((xs.take i).filter t).map f))) ⟨same_new hD, upd_same⟩ (fun i H' _ p => Same.seqT p.1 hx) (fun i x H' hi p => ?_) fun H' p => k H' p.1 (by rw [p.2, List.take_length])
  refine sel_turn hD (hs x (List.mem_of_getElem? hi)) p.1 p.2 ?_ fun H'' s'' e => ⟨s'', by rw [e, take_sel t f hi]⟩
  have l1 := List.length_filter_le t (xs.take i)
  have l3 : (xs.take i).length ≤ xs.length := by rw [List.length_take]; omega
  rw [List.length_map]
  omega
theorem take_range {n i : Nat} (h : i < n) : (List.range n)[i]? = some i := by
  rw [List.getElem?_range h]
theorem lc_sel_range {lo : Int} {n : Nat} (t : Nat → Bool) (f : Nat → V) (hD : H D = none) (hz : n ≤ 1000000) (hs : ∀ i, i < n → SelT H σ vs j tt te (.int (lo + i)) (t i) (f i)) (k : ∀ H', Same H H' → H' D = some (.lst (((List.range n).filter t).map f)) → Qd H') :
    ∃ W : Nat → Nat → Hp → Prop, (∃ m, W 0 m (upd H D (.lst []))) ∧ ∀ i m H, W i m H →
      ((Itr lo n).stop i H ∧ Qd H) ∨ ((Itr lo n).go i H ∧ ∃ Nx : Hp → Prop, (∀ H', Nx H' → ∃ m', m' < m ∧ W (i + 1) m' H') ∧ ∀ x H', (Itr lo n).yld i H x H' → gName j x (wipe σ vs) H' fun σ2 H2 => wipe σ2 vs = wipe σ vs ∧ tt σ2 H2 fun b H3 =>
        if b = true then te σ2 H3 fun y H4 => ∃ acc, H4 D = some (.lst acc) ∧ acc.length < sizeLine ∧ Nx (upd H4 D (.lst (acc ++ [y]))) else Nx H3) := by
  have line : 1000000 < sizeLine := by decide
  refine lc_range (fun i H' => Same H H' ∧ H' D = some (.lst ((((List.range n).take i).filter t).map f))) ⟨same_new hD, upd_same⟩ (fun i H' hi p => ?_) fun H' p => k H' p.1 (by rw [p.2, List.take_of_length_le (by rw [List.length_range]; omega)])
  refine sel_turn hD (hs i hi) p.1 p.2 ?_ fun H'' s'' e => ⟨s'', by rw [e, take_sel t f (take_range hi)]⟩
  have l1 := List.length_filter_le t ((List.range n).take i)
  have l3 : ((List.range n).take i).length ≤ n := by rw [List.length_take, List.length_range]; omega
  rw [List.length_map]
  omega
end
theorem filter_all {α : Type} (xs : List α) : xs.filter (fun _ => true) = xs := List.filter_eq_self.mpr fun _ _ => rfl
theorem Kp.free {t D : Addr} {H H' : Hp} (k : Kp t H H') (h : H' D = none) (n : D ≠ t) : H D = none := by
  cases e : H D with
  | none => rfl
  | some o =>
    rw [k D o e n] at h
    cases h
theorem Kp.mut {t p : Addr} {H H' : Hp} {o : HO} (k : Kp t H H') (h : H p = none) : Kp t H (upd H' p o) := fun b u e n => by
  rw [upd_ne (ne_of_none e h)]
  exact k b u e n
theorem Tape.mut {H : Hp} {t c p : Addr} {n : Nat} {o : HO} (h : Tape H t c n) (n1 : p ≠ t) (n2 : p ≠ c) : Tape (upd H p o) t c n := h.stay fun b u e z => by
  rw [upd_ne]
  · exact e
  · rcases z with rfl | rfl
    · exact n1.symm
    · exact n2.symm
theorem yes_go {σ : L2.St} {H : Hp} {A B : Hp → Prop} (h : A H) : tYes σ H (fun b H' => if b = true then A H' else B H') := by
  show (if true = true then A H else B H)
  rw [if_pos rfl]
  exact h
/-! ### d.update(e) of two dicts -/
theorem mt_update {X : Cx} : MtR X "dict.update" (fun x xs H Q => ∃ (a b : Addr) (ks ms : List (Key × V)), x = .ref a ∧ xs = [.ref b] ∧ H a = some (.dK ks) ∧ H b = some (.dK ms) ∧ a ≠ b ∧ ks.length + ms.length ≤ sizeLine ∧
    Q .non (upd H a (.dK (mergeK ks ms)))) := by
  intro pins s σ H x xs v us Q I rx rxs h
  obtain ⟨a, b, ks, ms, rfl, rfl, ha, hb, ne, few, q⟩ := h
  cases rx
  obtain ⟨u, rfl, ru⟩ := vals1 rxs
  cases ru
  obtain ⟨za, da, va, ra, dda⟩ := dk_of I.hok ha
  obtain ⟨zb, db, vb, rb, ddb⟩ := dk_of I.hok hb
  refine call_meetsIn PySem.F.slot_dict_update dda.typeIs PySem.F.entry_dict_update (PySem.F.args_dict_update_2 _ _) (meets_dict_update (mixKind X.prog X.w) a b ne db) ⟨va, vb, dda, ddb, by rw [← ra.length, ← rb.length]; exact few, fun h' d1 d2 same => ?_⟩
  have there : ∃ o, h'.get? a = some o := by
    obtain ⟨o, _, _, ho, _⟩ := id d1
    exact ⟨o, ho⟩
  have small : (mergeK ks ms).length ≤ sizeLine := Nat.le_trans (length_mergeK ms ks) few
  exact ⟨.non, _, d_write (t' := s.toks) I (by rw [ha]; exact True.intro) same there (dk_new small da (rb.merge ra) d1), rfl, q⟩
/-! ### rules whose reading names the written part, for use within a comprehension -/
section
variable {X : Cx} {K : PySem.W.Frag}
theorem op_inK (h : X.K = K) : OpR X (compareOp .In) (rIn K false) := h ▸ op_in_seq
theorem op_notInK (h : X.K = K) : OpR X (compareOp .NotIn) (rIn K true) := h ▸ op_notIn_seq
theorem op_eqNilK (h : X.K = K) (hu : X.A.units + 1 < cLine) : OpR X (compareOp .Eq) (rEqNil K false) := h ▸ op_eqNil hu
theorem op_neNilK (h : X.K = K) (hu : X.A.units + 1 < cLine) : OpR X (compareOp .NotEq) (rEqNil K true) := h ▸ op_neNil hu
theorem ix_listK (h : X.K = K) : IxR X (rIxL K) := h ▸ ix_list
theorem ix_tupK (h : X.K = K) : IxR X (rIxT K) := h ▸ ix_tup
theorem ix_seqK (h : X.K = K) : IxR X (rIx K) := h ▸ ix_seq
theorem len_seqK (h : X.K = K) : CallR X (.builtin "len") (fun xs H Q => ∃ p ys, xs = [.ref p] ∧ (SqL K H p ys ∨ SqT K H p ys) ∧ Q (.int (ys.length : Nat)) H) := h ▸ call_len_seq
theorem pi_listK {tg l : Expr} {tl : TE} (h : X.K = K) (hl : PE X l tl) : PI X tg l (iList K tl) := h ▸ pi_list hl
theorem pi_tupK {tg l : Expr} {tl : TE} (h : X.K = K) (hl : PE X l tl) : PI X tg l (iTup K tl) := h ▸ pi_tup hl
theorem sl_listK (h : X.K = K) : SlR X (rSlL K) := h ▸ sl_list
theorem sl_tupK (h : X.K = K) : SlR X (rSlT K) := h ▸ sl_tup
theorem cr_sumK (h : X.K = K) (hc : X.calm = true) : CallR X (.builtin "sum") (rSum K) := h ▸ cr_sum hc
theorem cr_maxL (h : X.K = K) (hc : X.calm = true) : CallR X (.builtin "max") (rMax K) := h ▸ cr_max hc
theorem cr_minL (h : X.K = K) (hc : X.calm = true) : CallR X (.builtin "min") (rMin K) := h ▸ cr_min hc
theorem cr_allK (h : X.K = K) (hc : X.calm = true) : CallR X (.builtin "all") (rAll K) := h ▸ cr_all hc
theorem cr_anyK (h : X.K = K) (hc : X.calm = true) : CallR X (.builtin "any") (rAny K) := h ▸ cr_any hc
theorem call_list_ofK (h : X.K = K) : CallR X (.type "list") (fun xs H Q => ∃ p ys, xs = [.ref p] ∧ (SqL K H p ys ∨ SqT K H p ys) ∧ ∀ l, H l = none → Q (.ref l) (upd H l (.lst ys))) := h ▸ call_list_of
theorem call_tuple_ofK (h : X.K = K) : CallR X (.type "tuple") (fun xs H Q => ∃ p ys, xs = [.ref p] ∧ ((SqL K H p ys ∧ ∀ l, H l = none → Q (.ref l) (upd H l (.tup ys))) ∨ (SqT K H p ys ∧ Q (.ref p) H))) := h ▸ call_tuple_of
theorem op_catTK (h : X.K = K) : OpR X (binaryOp .Add) (rCatT K) := h ▸ op_catT
end
theorem bd_ways : BindsAll "ways" s_ways ["lens"] := fun _ _ _ _ _ _ us hl => match us, hl with | [_], _ => rfl
theorem bd_how_many : BindsAll "how_many" s_how_many ["lens", "total"] := fun _ _ _ _ _ _ us hl => match us, hl with | [_, _], _ => rfl
theorem bd_choices : BindsAll "choices" s_choices ["lens", "total"] := fun _ _ _ _ _ _ us hl => match us, hl with | [_, _], _ => rfl
theorem bd__with_one_more : BindsAll "_with_one_more" s__with_one_more ["many", "length"] := fun _ _ _ _ _ _ us hl => match us, hl with | [_, _], _ => rfl
theorem bd_apart : BindsAll "apart" s_apart ["marks", "most"] := fun _ _ _ _ _ _ us hl => match us, hl with | [_, _], _ => rfl
theorem bd_are_apart : BindsAll "are_apart" s_are_apart ["marks", "most", "settings"] := fun _ _ _ _ _ _ us hl => match us, hl with | [_, _, _], _ => rfl
theorem bd__having_more : BindsAll "_having_more" s__having_more ["owners", "most", "every"] := fun _ _ _ _ _ _ us hl => match us, hl with | [_, _, _], _ => rfl
theorem bd__law_begun : BindsAll "_law_begun" s__law_begun ["_law_script"] := fun _ _ _ _ _ _ us hl => match us, hl with | [_], _ => rfl
theorem bd__law_draw : BindsAll "_law_draw" s__law_draw ["_law_tape", "_law_many"] := fun _ _ _ _ _ _ us hl => match us, hl with | [_, _], _ => rfl
theorem bd__law_pick : BindsAll "_law_pick" s__law_pick ["_law_tape", "_law_some"] := fun _ _ _ _ _ _ us hl => match us, hl with | [_, _], _ => rfl
theorem bd__law_marks : BindsAll "_law_marks" s__law_marks ["_law_tape", "_law_many"] := fun _ _ _ _ _ _ us hl => match us, hl with | [_, _], _ => rfl
theorem bd__law_number : BindsAll "_law_number" s__law_number ["_law_many", "_law_most"] := fun _ _ _ _ _ _ us hl => match us, hl with | [_, _], _ => rfl
theorem bd__law_apart : BindsAll "_law_apart" s__law_apart ["_law_marks_here", "_law_most", "_law_settings"] := fun _ _ _ _ _ _ us hl => match us, hl with | [_, _, _], _ => rfl
theorem bd__law_bent : BindsAll "_law_bent" s__law_bent ["_law_tape", "_law_marks_here", "_law_most", "_law_settings"] := fun _ _ _ _ _ _ us hl => match us, hl with | [_, _, _, _], _ => rfl
theorem bd__law_shuffled : BindsAll "_law_shuffled" s__law_shuffled ["_law_tape", "_law_some"] := fun _ _ _ _ _ _ us hl => match us, hl with | [_, _], _ => rfl
theorem bd__law_stretches : BindsAll "_law_stretches" s__law_stretches ["_law_tape", "_law_marks_here", "_law_most"] := fun _ _ _ _ _ _ us hl => match us, hl with | [_, _, _], _ => rfl
theorem bd__law_told_right : BindsAll "_law_told_right" s__law_told_right ["_law_marks_here", "_law_most", "_law_settings"] := fun _ _ _ _ _ _ us hl => match us, hl with | [_, _, _], _ => rfl
theorem bd__law_any_sizes_right : BindsAll "_law_any_sizes_right" s__law_any_sizes_right ["_law_tape"] := fun _ _ _ _ _ _ us hl => match us, hl with | [_], _ => rfl
theorem bd__law_chosen : BindsAll "_law_chosen" s__law_chosen ["_law_marks_here", "_law_told"] := fun _ _ _ _ _ _ us hl => match us, hl with | [_, _], _ => rfl
theorem bd__law_refused : BindsAll "_law_refused" s__law_refused ["_law_marks_here", "_law_most"] := fun _ _ _ _ _ _ us hl => match us, hl with | [_, _], _ => rfl
theorem bd_law : BindsAll "law" s_law ["_law_script"] := fun _ _ _ _ _ _ us hl => match us, hl with | [_], _ => rfl
/-! ### making an exception of an own class, over any of the builtin ones -/
/-- by which __new__ an own class is made, and what its mro must tell -/
structure NewBy (bm : List Value) (nB newId : String) : Prop where
  f : ∃ i l, ExcBaseFacts nB newId i l
  b : bm.contains (.type nB) = true
  a : bm.contains (.type "AttributeError") = false
  n : bm.contains (.type "NameError") = false
section
variable {M : Model} {A : Around} {E : Value → Shared → Prop} {h : Heap} {g : Array GenState} {d : Drawn} {t : Nat} {os : OsState}
variable {nm q : Str} {C N : Addr} {bs bm : List Value} {hdct : Bool} {sn : List Str} {sub : List Value} {ab : Bool} {col : Option Bool} {dd : Option Addr} {k0 k1 k2 k3 k5 : Option Value} {nB newId iB initId : String}
theorem new_checked (Y : NewBy bm nB newId) {rest : List Value} {Q : Unit → Shared → Prop} (o : h.get? C = some (excClassObj nm q C N bs bm hdct sn sub ab col dd k0 k1 k2 k3 k5 newId))
    (k : Q () ⟨h, g, d, t, os⟩) : wpAny M A (checkBuiltinCall newId ⟨.ref C :: rest, []⟩) Q E ⟨h, g, d, t, os⟩ := by
  obtain ⟨⟨i, l, F⟩, yb, _, _⟩ := Y
  have own : (Value.ref C :: bm).contains (.type nB) = true := by
    rw [List.contains_cons, yb]
    exact Bool.or_true _
  have star := F.noStar
  simp only [F.newRow, F.newSplit, F.newKind, checkBuiltinCall]
  repeat (first
    | refine wpAny_loadPart_at o ?_
    | (refine wpAny_isSubtype_exc o ?_; rw [own])
    | refine wpAny_staticBase_exc o ?_
    | refine wpAny_madeBy_exc o ?_
    | simp only [Bool.false_eq_true, if_false, bne_self_eq_false]
    | wp_step)
  exact k
end
section
variable {prog : Program} {w : World} {A : Around} {E : Value → Shared → Prop} {R : Result → Shared → Prop} {h : Heap} {g : Array GenState} {d : Drawn} {t : Nat} {os : OsState}
variable {nm q : Str} {C N : Addr} {bs bm : List Value} {hdct : Bool} {sn : List Str} {sub : List Value} {ab : Bool} {col : Option Bool} {dd : Option Addr} {k0 k1 k2 k3 k5 : Option Value} {nB newId iB initId : String}
/-- the new object, its args aside -/
abbrev bare (C t : Addr) : Obj := { cls := .ref C, data := .fields #[.ref t, .none, .none, .none, .bool false, .none] }
theorem new_made (Y : NewBy bm nB newId) {rest : List Value} (o : h.get? C = some (excClassObj nm q C N bs bm hdct sn sub ab col dd k0 k1 k2 k3 k5 newId))
    (k : R (.ok (.ret (.ref (h.objs.size + 1)))) ⟨(h.push (PySem.W.kdv_tup rest)).push (bare C h.objs.size), g, d, t, os⟩) (few : rest.length ≤ sizeLine) :
    codeAny (model prog w) A (.builtin newId ⟨.ref C :: rest, []⟩) R ⟨h, g, d, t, os⟩ := by
  obtain ⟨⟨i, l, F⟩, yb, ya, yn⟩ := Y
  have e1 := F.ends
  have m1 : (Value.ref C :: bm).contains (.type nB) = true := by
    rw [List.contains_cons, yb]
    exact Bool.or_true _
  have m2 : (Value.ref C :: bm).contains (.type "AttributeError") = false := by
    rw [List.contains_cons, ya]
    rfl
  have m3 : (Value.ref C :: bm).contains (.type "NameError") = false := by
    rw [List.contains_cons, yn]
    rfl
  refine codeAny_builtinAt F.entry ?_
  unfold Builtin.«BaseException.__new__»
  refine PySem.wpAt_bind ?_
  show PySem.wpAt _ _ _ (stack >>= _) _ _ _
  refine PySem.wpAt_bind (PySem.wpAt_stack fun p1 p2 => PySem.wpAt_of_wpAny ?_)
  wp_walk
  refine PySem.wpAt_of_wpAny ?_
  rw [F.owner]
  repeat (first
    | with_reducible refine wpAny_madeHere_exc F.canon o ?_
    | with_reducible refine wpAny_loadPart_at o ?_
    | (with_reducible refine wpAny_isSubtype_exc o ?_; first | rw [m1] | rw [m2] | rw [m3])
    | wp_step)
  show R _ _
  rw [Heap.size_push]
  exact k
theorem type_made (Y : NewBy bm nB newId) {rest : List Value} {fI : Addr} {Q : Fin → Shared → Prop} (o : h.get? C = some (excClassObj nm q C N bs bm hdct sn sub ab col dd k0 k1 k2 k3 k5 newId))
    (hi : PySem.W.Looks (model prog w) h (typeLookup (.ref C) "__init__") (some (.ref fI))) (hb : ∀ x, PySem.W.Looks (model prog w) h (bindSpecial (.ref fI) x) (.ref fI, [x])) (few : rest.length ≤ sizeLine)
    (k : codeAny (model prog w) A (.call (.ref fI) ⟨.ref (h.objs.size + 1) :: rest, []⟩) (fun r s' => match r with | .ok (.ret v) => v = .none ∧ Q (.done (.ret (.ref (h.objs.size + 1)))) s' | .ok _ => False | .error e => E e s')
      ⟨(h.push (PySem.W.kdv_tup rest)).push (bare C h.objs.size), g, d, t, os⟩) :
    wpAny (model prog w) A (Builtin.«type.__call__» ⟨.ref C :: rest, []⟩) Q E ⟨h, g, d, t, os⟩ := by
  obtain ⟨i, l, F⟩ := Y.f
  repeat (first
    | with_reducible refine wpAny_loadPart_at o ?_
    | with_reducible refine wpAny_madeBy_exc o ?_
    | wp_step)
  refine codeAny_call_builtin_code (Code.quiet_builtin _ F.quiet) (new_checked Y o ?_)
  refine new_made Y o ?_ few
  show wpAny _ _ _ _ _ _
  have up : ∀ b u, h.get? b = some u → ((h.push (PySem.W.kdv_tup rest)).push (bare C h.objs.size)).get? b = some u := fun b u e => Heap.get?_push_of_some _ (Heap.get?_push_of_some _ e)
  have o2 := up _ _ o
  have at2 : ((h.push (PySem.W.kdv_tup rest)).push (bare C h.objs.size)).get? (h.objs.size + 1) = some (bare C h.objs.size) := by heap_get
  have self : (Value.ref C :: bm).contains (.ref C) = true := by simp
  have i2 := hi.keeps up
  have b2 := (hb (.ref (h.objs.size + 1))).keeps up
  unfold isInstance
  repeat (first
    | with_reducible refine wpAny_loadPart_at at2 ?_
    | (with_reducible refine wpAny_isSubtype_exc o2 ?_; rw [self])
    | wp_step)
  show wpAny _ _ (typeLookup (.ref C) _) _ _ _
  refine i2.at ?_
  refine wpAny_holding (wpAny_bind (b2.at ?_))
  refine wpAny_bind (wpAny_call (codeAny_mono k fun r s2 z => ?_))
  rcases r with e | (v | _ | _ | _)
  all_goals first
    | exact z
    | exact z.elim
    | skip
  obtain ⟨rfl, z⟩ := z
  first
    | exact wpAny_pure (wpAny_pure z)
    | (wp_walk; done)
    | (wp_walk; exact z)
theorem call_made (Y : NewBy bm nB newId) {rest : List Value} {fI : Addr} (o : h.get? C = some (excClassObj nm q C N bs bm hdct sn sub ab col dd k0 k1 k2 k3 k5 newId))
    (hi : PySem.W.Looks (model prog w) h (typeLookup (.ref C) "__init__") (some (.ref fI))) (hb : ∀ x, PySem.W.Looks (model prog w) h (bindSpecial (.ref fI) x) (.ref fI, [x])) (few : rest.length ≤ sizeLine)
    (k : codeAny (model prog w) (A.under (.builtin "type.__call__" ⟨.ref C :: rest, []⟩)) (.call (.ref fI) ⟨.ref (h.objs.size + 1) :: rest, []⟩) (PySem.W.InitBack (h.objs.size + 1) R)
      ⟨(h.push (PySem.W.kdv_tup rest)).push (bare C h.objs.size), g, d, t, os⟩) :
    codeAny (model prog w) A (.call (.ref C) ⟨rest, []⟩) R ⟨h, g, d, t, os⟩ := by
  have t1 := tc_lookup
  have t2 := tc_bind (.ref C)
  have ty : (⟨h, g, d, t, os⟩ : Shared).TypeIs (.ref C) "type" := ⟨_, o, rfl⟩
  refine codeAny_of_tree ?_
  show wpAny _ _ (callAny (.ref C) _) _ _ _
  repeat (any_goals (first
    | assumption
    | with_reducible refine wpAny_loadPart_at o ?_
    | wp_step))
  refine ⟨rfl, ?_⟩
  refine codeAny_call_builtin_at (Code.quiet_builtin _ (by decide +kernel)) entry_typeCall (wpAny_check_type_call_sub o (type_made Y o hi hb few ?_))
  refine codeAny_mono k fun r s2 z => ?_
  rcases r with e | (v | _ | _ | _)
  all_goals exact z
end

/-! ### the builtin __init__ that an own one calls -/
structure InitBy (bm : List Value) (iB initId : String) : Prop where
  c : ∃ n, ExcClass iB n initId
  b : bm.contains (.type iB) = true
section
variable {prog : Program} {w : World} {A : Around} {E : Value → Shared → Prop} {R : Result → Shared → Prop} {h : Heap} {g : Array GenState} {d : Drawn} {t : Nat} {os : OsState}
variable {nm q : Str} {C N : Addr} {bs bm : List Value} {hdct : Bool} {sn : List Str} {sub : List Value} {ab : Bool} {col : Option Bool} {dd : Option Addr} {k0 k1 k2 k3 k5 : Option Value} {newId iB initId : String}
theorem init_checked {M : Model} (Y : InitBy bm iB initId) {e : Addr} {oe : Obj} {rest : List Value} {Q : Unit → Shared → Prop} (o : h.get? C = some (excClassObj nm q C N bs bm hdct sn sub ab col dd k0 k1 k2 k3 k5 newId)) (he : h.get? e = some oe) (hc : oe.cls = .ref C)
    (k : Q () ⟨h, g, d, t, os⟩) : wpAny M A (checkBuiltinCall initId ⟨.ref e :: rest, []⟩) Q E ⟨h, g, d, t, os⟩ := by
  obtain ⟨⟨n, F⟩, yb⟩ := Y
  have own : (Value.ref C :: bm).contains (.type iB) = true := by
    rw [List.contains_cons, yb]
    exact Bool.or_true _
  have star := F.notStar
  simp only [F.initSig, F.initSplit, F.initKind, checkBuiltinCall]
  repeat (first
    | (with_reducible refine wpAny_loadPart_at he ?_; rw [hc])
    | with_reducible refine wpAny_loadPart_at o ?_
    | (with_reducible refine wpAny_isSubtype_exc o ?_; rw [own])
    | wp_step)
  refine wpAny_onRaise ?_
  rw [show ∀ (x y : String) (n : Nat), Bind.check ⟨.positional, "*", iB, .self, [⟨"args", .varPos, false⟩]⟩ x y n (List.map (fun z => z.fst) ({ pos := Value.ref e :: rest } : Args).kw) = pure () from
    fun x y n => check_star_args _ _ _ _ _ _]
  exact wpAny_pure k
theorem init_done (Y : InitBy bm iB initId) {e t0 : Addr} {rest : List Value} (o : h.get? C = some (excClassObj nm q C N bs bm hdct sn sub ab col dd k0 k1 k2 k3 k5 newId)) (he : h.get? e = some (bare C t0)) (few : rest.length ≤ sizeLine)
    (k : ∀ h2 t1, (∀ b u, b ≠ e → h.get? b = some u → h2.get? b = some u) → h2.get? e = some (bare C t1) → R (.ok (.ret .none)) ⟨h2, g, d, t, os⟩) :
    codeAny (model prog w) A (.call (.builtin initId) ⟨.ref e :: rest, []⟩) R ⟨h, g, d, t, os⟩ := by
  obtain ⟨n, F⟩ := Y.c
  refine codeAny_call_builtin F.init.plain F.initEntry (init_checked Y o he rfl ?_)
  wp_walk
  refine k _ h.objs.size (fun b u hb hu => ?_) ?_
  · rw [Heap.get?_update_other _ _ (Ne.symm hb)]
    exact Heap.get?_push_of_some _ hu
  · rw [Heap.get?_update_self _ (Heap.get?_push_of_some _ he) rfl]
    rfl
end
/-! ### an own class, as the written part tells it -/
structure OwnC (K : PySem.W.Frag) (C : Addr) (B newId initId : String) (bm : List Value) : Prop where
  cls : ∃ nm q N bs sn sub ab col dd k0 k1 k2 k3 k5, K.lookup C = some (excClassObj nm q C N bs bm true sn sub ab col dd k0 k1 k2 k3 k5 newId)
  new : ∃ nB, NewBy bm nB newId
  ini : InitBy bm B initId
  sto : ∃ S, StoreFacts S bm "object.__setattr__" "object"
  sa : PySem.W.findIn K (.ref C) "__setattr__" = some (some (.builtin "object.__setattr__"))
  tl : PySem.W.excTail bm bm = true
  ob : bm.contains (.type "object") = true
  exC : PySem.W.subIn K (.ref C) (.type "BaseException") = some true
  tyC : PySem.W.typeIn K (.ref C) = some (.type "type")
  kC : PySem.W.keepIn K (.ref C) = true
section
variable {X : Cx} {pins : List (Addr × Obj)} {σ : L2.St} {H : Hp} {s : Shared} {a C dx : Addr} {f : Str} {y : V} {u : Value} {fs : List (Str × V)} {A : Around} {B newId initId : String} {bm : List Value}
/-- B.__init__(self, ..) tells nothing -/
theorem own_init {us : List Value} {E : Value → Shared → Prop} {Q : Value → Shared → Prop} (T : OwnC X.K C B newId initId bm) (I : Inv X pins σ H s) (e : H a = some (exo a C none)) (few : us.length ≤ sizeLine) (k : ∀ s', Inv X pins σ H s' → Q .none s') :
    wpAny (model X.prog X.w) A (call (.builtin initId) (.ref a :: us)) Q E s := by
  obtain ⟨nm, q, N, bs, sn, sub, ab, col, dd, k0, k1, k2, k3, k5, o⟩ := T.cls
  obtain ⟨t1, at1⟩ := exo_at I.hok e
  obtain ⟨hp, g, d, t, os⟩ := s
  refine wpAny_call (init_done T.ini (I.kIn _ _ o) at1 few fun h2 t2 stay at2 => ?_)
  have J := I.write (t' := t) (x := a) (e := a) (o := exo a C none) (by rw [e]; exact True.intro) (.inl rfl) stay ⟨_, at2⟩ (exo_ok at2)
  have same : upd H a (exo a C none) = H := funext fun b => by
    by_cases hb : b = a
    · subst hb
      rw [upd_same, e]
    · rw [upd_ne hb]
  rw [same] at J
  exact k _ J
end
def tOwnI (K : PySem.W.Frag) (B newId initId : String) (bm : List Value) (ta : TA) : TE := fun σ H Q => ta σ H fun vs H1 => ∃ (a C : Addr) (ws : List V), vs = .ref a :: ws ∧ ws.length ≤ 1000 ∧ OwnC K C B newId initId bm ∧ H1 a = some (exo a C none) ∧ Q .non H1
section
variable {X : Cx} {o e : Expr} {es : List Expr} {to te : TE} {ta : TA} {f : Str} {p p' p1 p2 pos : Pos} {B newId initId : String} {bm : List Value}
/-- B.__init__(self, ..), B builtin -/
theorem pe_ownInit {x : Str} {pl : Sem Bool} (hg : Gl X x) (hm : X.mg x = none) (hb : bootBuiltins x = some (.type B)) (ty : typeOf (.type B) = pure (.type "type")) (st : Manifest.isStub B = false)
    (vV : PySem.W.findCls X.K (.type B) (.type "type") "__init__" = some (.val (.builtin initId))) (kb : PySem.W.handedIn (.builtin initId) = true) (ha : PA X (e :: es) ta) (n1 : x ≠ "__name__" := by decide) (n2 : (x == ("__debug__" : Str)) = false := by decide)
    (hc : eval (.Call (.Attribute (.Name x p1) "__init__" p2) (e :: es) [] pos) X.env = (do
      let ov ← eval (.Name x p1) X.env
      standAt p2.atName
      let (f, first) ← holding [ov] (getMethod ov "__init__" pl)
      callWith pos f first (backTo pos (starEach (e :: es) X.env)) (backToKw pos (keywordEach [] X.env))) := by rfl)
    (he : starEach (e :: es) X.env = (false, eval e X.env) :: starEach es X.env := by rfl) (hpl : (backTo pos (starEach es X.env)).any (·.1) = false := by rfl) :
    PE X (.Call (.Attribute (.Name x p1) "__init__" p2) (e :: es) [] pos) (tOwnI X.K B newId initId bm ta) := by
  refine ⟨fun pins s σ H Q I h => ?_⟩
  refine PySem.W.methodCall_KW (ld_blt I hg hm hb ?_ n1 n2) hc
  obtain ⟨m, fr⟩ := I.fr
  refine PySem.W.method_type fr I.ok.mod.kin ty st vV kb ?_
  show wpAny _ _ (callWith pos (Value.builtin initId) [] (backTo pos (starEach (e :: es) X.env)) []) _ _ _
  refine PyProof.Rows.callWith_method1 (thn (ha.run pos pins _ σ H _ (I.tok _) h) fun us s1 ⟨vs, H1, I1, r1, a, C, ws, ev, few, T, ea, k⟩ => ?_) he hpl
  subst ev
  cases r1 with
  | @cons _ u0 _ ur ra rw' =>
    obtain rfl : u0 = Value.ref a := ra
    have fit : ur.length ≤ sizeLine := by
      rw [← Paired.length rw', sizeLine_eq]
      omega
    exact own_init T I1 ea fit fun s2 J => ⟨.non, H1, J, rfl, k⟩
/-- C(e, ..) as a value: a new exception -/
def tOwnV (C : Addr) (sp : Sp) (ta : TA) : TE := fun σ H Q => ta σ H fun vs H1 => vs.length ≤ 1000 ∧ ∀ a, H1 a = none → sp (.ref a :: vs) (upd H1 a (exo a C none)) (fun v H2 => v = .non ∧ Q (.ref a) H2) (fun _ _ _ => False)
theorem own_call {CX : CXT} {C fI : Addr} {k : Nat} {fd : FuncData} {ps : List Str} {sp : Sp} (T : OwnC X.K C B newId initId bm) (iC : PySem.W.findIn X.K (.ref C) "__init__" = some (some (.ref fI))) (tI : PySem.W.typeIn X.K (.ref fI) = some (.type "function"))
    (F1 : FnOk X.prog X.w X.K X.mg X.base CX k fI fd ps sp) (hr : Room (k + 1) X.A) (hb : Binds X.K fd ps []) (hx : Passes CX X (fun _ _ _ => False)) {pins : List (Addr × Obj)} {σ : L2.St} {H : Hp} {s : Shared} {Q : VK} {us : List Value} {vs : List V}
    (I : Inv X pins σ H s) (r : Vals vs us) (few : vs.length ≤ 1000) (h : ∀ a, H a = none → sp (.ref a :: vs) (upd H a (exo a C none)) (fun v H2 => v = .non ∧ Q (.ref a) H2) (fun _ _ _ => False)) :
    wpAny (model X.prog X.w) X.A (call (.ref C) us) (EP X pins σ Q) X.xe s := by
  obtain ⟨nm, q, N, bs, sn, sub, ab, col, dd, k0, k1, k2, k3, k5, o⟩ := T.cls
  obtain ⟨nB, Y⟩ := T.new
  obtain ⟨hp, g, dr, tk, os⟩ := s
  have lt : hp.objs.size ≤ hp.objs.size + 1 := Nat.le_succ _
  have no : H (hp.objs.size + 1) = none := I.hok.fresh lt
  have hq := h (hp.objs.size + 1) no
  have up : ∀ b u, hp.get? b = some u → ((hp.push (PySem.W.kdv_tup us)).push (bare C hp.objs.size)).get? b = some u := fun b u e => Heap.get?_push_of_some _ (Heap.get?_push_of_some _ e)
  have at2 : ((hp.push (PySem.W.kdv_tup us)).push (bare C hp.objs.size)).get? (hp.objs.size + 1) = some (bare C hp.objs.size) := by heap_get
  have I2 : Inv X pins σ (upd H (hp.objs.size + 1) (exo (hp.objs.size + 1) C none)) ⟨(hp.push (PySem.W.kdv_tup us)).push (bare C hp.objs.size), g, dr, tk, os⟩ :=
    I.laid (t' := tk) (a := hp.objs.size + 1) (o := exo (hp.objs.size + 1) C none) (h' := (hp.push (PySem.W.kdv_tup us)).push (bare C hp.objs.size)) up lt (exo_ok at2)
  have r2 : Vals (V.ref (hp.objs.size + 1) :: vs) (Value.ref (hp.objs.size + 1) :: us) := .cons rfl r
  have hl : (Value.ref (hp.objs.size + 1) :: us).length = ps.length := by
    rw [← r2.length]
    exact F1.len _ _ _ _ hq
  have fit : us.length ≤ sizeLine := by
    rw [← Paired.length r, sizeLine_eq]
    omega
  have hbd := hb ⟨(hp.push (PySem.W.kdv_tup us)).push (bare C hp.objs.size), g, dr, tk, os⟩ (Value.ref (hp.objs.size + 1) :: us) I2.kIn (by rw [List.append_nil]; exact hl)
  rw [List.append_nil] at hbd
  refine wpAny_call (call_made Y (I.kIn _ _ o) (PySem.W.looks_findIn I.kIn iC) (fun x => PySem.W.bind_fn I.kIn x tI) fit
    (codeAny_mono (F1.run _ X.stack _ _ ⟨Value.ref (hp.objs.size + 1) :: us, []⟩ (Value.ref (hp.objs.size + 1) :: us) _ _ (fun _ _ _ => False) (hr.make C us []) (I2.env0.make C us []) hbd r2 hq) fun r s2 z => ?_))
  cases r with
  | error er => exact hx pins σ _ _ er s2 I2 z
  | ok fl =>
    cases fl with
    | ret u =>
      obtain ⟨v, H2, J, rv, ev, k⟩ := I2.after z
      subst ev
      exact ⟨rv, .ref (hp.objs.size + 1), H2, J, rfl, k⟩
    | next => exact False.elim z
    | brk => exact False.elim z
    | cont => exact False.elim z
theorem pe_own {CX : CXT} {x : Str} {C fI : Addr} {k : Nat} {fd : FuncData} {ps : List Str} {sp : Sp} (T : OwnC X.K C B newId initId bm) (iC : PySem.W.findIn X.K (.ref C) "__init__" = some (some (.ref fI))) (tI : PySem.W.typeIn X.K (.ref fI) = some (.type "function"))
    (F1 : FnOk X.prog X.w X.K X.mg X.base CX k fI fd ps sp) (hr : Room (k + 1) X.A) (hb : Binds X.K fd ps []) (hx : Passes CX X (fun _ _ _ => False)) (hg : Gl X x) (hm : X.mg x = some (.ref C)) (ha : PA X (e :: es) ta)
    (hdb : (x == ("__debug__" : Str)) = false := by decide) (he : starEach (e :: es) X.env = (false, eval e X.env) :: starEach es X.env := by rfl) (hpl : (backTo pos (starEach es X.env)).any (·.1) = false := by rfl) :
    PE X (.Call (.Name x p) (e :: es) [] pos) (tOwnV C sp ta) := by
  refine ⟨fun pins s σ H Q I h => ?_⟩
  refine wpAny_Call_Name_kw (ld_glob I hg hm ?_ hdb)
  refine PySem.W.callWith_K (h₀ := X.base) I.ok.mod.kin T.kC (thn (ha.run pos pins s σ H _ I h) fun us s1 ⟨vs, H1, I1, r1, hz, q1⟩ => ⟨I1.kIn, ?_⟩) he hpl
  exact own_call T iC tI F1 hr hb hx I1 r1 hz q1
theorem pe_own0 {CX : CXT} {x : Str} {C fI : Addr} {k : Nat} {fd : FuncData} {ps : List Str} {sp : Sp} (T : OwnC X.K C B newId initId bm) (iC : PySem.W.findIn X.K (.ref C) "__init__" = some (some (.ref fI))) (tI : PySem.W.typeIn X.K (.ref fI) = some (.type "function"))
    (F1 : FnOk X.prog X.w X.K X.mg X.base CX k fI fd ps sp) (hr : Room (k + 1) X.A) (hb : Binds X.K fd ps []) (hx : Passes CX X (fun _ _ _ => False)) (hg : Gl X x) (hm : X.mg x = some (.ref C)) (hdb : (x == ("__debug__" : Str)) = false := by decide) :
    PE X (.Call (.Name x p) [] [] pos) (tOwnV C sp tNil) := by
  refine ⟨fun pins s σ H Q I h => ?_⟩
  refine wpAny_Call_Name_kw (ld_glob I hg hm ?_ hdb)
  exact PySem.W.callWith_K0 I.kIn T.kC (own_call (us := []) T iC tI F1 hr hb hx I .nil h.1 h.2)
end

/-! ### self.f = e on such -/
section
open PySem.Builtin PySem.Builtin.ObjectAttr
variable {prog : Program} {w : World} {A : Around} {R : Result → Shared → Prop} {hp : Heap} {g : Array GenState} {d : Drawn} {t : Nat} {os : OsState} {K : PySem.W.Frag} {C x dx : Addr} {B newId initId : String} {bm : List Value} {name : Str} {tk : Tok} {v : Value} {fv : Array Value}
theorem OwnC.clsIn (T : OwnC K C B newId initId bm) : ∃ cd : ClassData, PySem.W.clsIn K C = some cd ∧ cd.mro = .ref C :: bm ∧ cd.hasDict = true := by
  obtain ⟨nm, q, N, bs, sn, sub, ab, col, dd, k0, k1, k2, k3, k5, o⟩ := T.cls
  refine ⟨{ name := nm, bases := bs, mro := .ref C :: bm, ns := N, qualname := q, hasDict := true, slotNames := sn, subclasses := sub, abstract := ab, collection := col, hasDel := false }, ?_, rfl, rfl⟩
  unfold PySem.W.clsIn
  rw [o] <;> rfl
theorem OwnC.over (T : OwnC K C B newId initId bm) : PySem.W.excOver K C bm = true := by
  obtain ⟨cd, hc, hm, _⟩ := T.clsIn
  unfold PySem.W.excOver
  rw [hc]
  show (match cd.mro with | .ref C' :: l => C' == C && PySem.W.excTail bm l | _ => false) = true
  rw [hm]
  show (C == C && PySem.W.excTail bm bm) = true
  rw [T.tl, Bool.and_true]
  exact beq_self_eq_true C
theorem taker_none (h : PySem.W.findIn K (.ref C) name = some none) : PySem.W.takerIn K C name = some none := by
  unfold PySem.W.takerIn
  rw [h]
  rfl
theorem own_sa0 (T : OwnC K C B newId initId bm) (X : K.In hp) (hx : hp.get? x = some { cls := .ref C, data := .fields fv }) (no : PySem.W.findIn K (.ref C) name = some none)
    (k : ∀ h2 t2 dx, (∀ b u, b ≠ x → hp.get? b = some u → h2.get? b = some u) → hp.objs.size ≤ dx → dx ≠ x → h2.get? x = some { cls := .ref C, dict := some dx, data := .fields fv } →
      h2.Ns1 dx (fun y => if y = name then some v else none) → R (.ok (.ret .none)) ⟨h2, g, d, t2, os⟩) :
    codeAny (model prog w) A (.call (.builtin "object.__setattr__") ⟨[.ref x, .str name tk, v], []⟩) R ⟨hp, g, d, t, os⟩ := by
  obtain ⟨S, SF⟩ := T.sto
  obtain ⟨cd, hc, hm, hh⟩ := T.clsIn
  have far : x ≠ hp.objs.size := Nat.ne_of_lt (Heap.lt_size hx)
  have lk : PySem.W.Looks (model prog w) hp (classData C) cd := PySem.W.looks_clsIn X hc
  refine PySem.W.osa_openX (s := ⟨hp, g, d, t, os⟩) (ox := { cls := .ref C, data := .fields fv }) (od := none) SF X ⟨hx, rfl, rfl, trivial⟩ T.over (taker_none no) fun b => ?_
  show wpAny _ _ (storeInOwnDict (.ref x) (.ref C) (.str name tk) name v b) _ _ _
  obtain ⟨c1, c2, c3, c4, c5, hd, c7, c8, c9, c10, c11⟩ := cd
  dsimp only at hh
  subst hh
  unfold storeInOwnDict ownDictForStores
  repeat (first
    | with_reducible refine PySem.HandSPX.store_in_new ?_ ?_
    | with_reducible refine wpAny_loadPart_at hx ?_
    | with_reducible refine lk.at ?_
    | wp_step)
  · exact ⟨_, #[], _, (Heap.get?_update_ne _ _ _ _ far.symm).trans (Heap.get?_push_at rfl rfl), rfl, fun e he => absurd he (by simp), fun _ => rfl⟩
  · intro h2 t2 hn hs
    have hx1 : (hp.push { cls := .type "dict", data := .dict #[] }).get? x = some { cls := .ref C, data := .fields fv } := Heap.get?_push_of_some _ hx
    refine k h2 t2 hp.objs.size (fun b u hb hu => ?_) (Nat.le_refl _) far.symm ?_ hn
    · exact (hs.2 b (Nat.ne_of_lt (Heap.lt_size hu))).trans ((Heap.get?_update_ne _ _ _ _ hb).trans (Heap.get?_push_of_some _ hu))
    · exact (hs.2 x far).trans (Heap.get?_update_self _ hx1 rfl)
theorem own_sa1 {m0 : Str → Option Value} {nl : List Str} (T : OwnC K C B newId initId bm) (X : K.In hp) (hx : hp.get? x = some { cls := .ref C, dict := some dx, data := .fields fv }) (hns : hp.Ns1 dx m0) (hw : Within m0 nl) (hz : nl.length ≤ 1000)
    (no : PySem.W.findIn K (.ref C) name = some none)
    (k : ∀ h2 t2, (∀ b u, b ≠ dx → hp.get? b = some u → h2.get? b = some u) → h2.Ns1 dx (fun y => if y = name then some v else m0 y) → R (.ok (.ret .none)) ⟨h2, g, d, t2, os⟩) :
    codeAny (model prog w) A (.call (.builtin "object.__setattr__") ⟨[.ref x, .str name tk, v], []⟩) R ⟨hp, g, d, t, os⟩ := by
  obtain ⟨S, SF⟩ := T.sto
  obtain ⟨cd, hc, hm, hh⟩ := T.clsIn
  obtain ⟨oD, _, _, hoD, _, _⟩ := hns.count hw
  have lk : PySem.W.Looks (model prog w) hp (classData C) cd := PySem.W.looks_clsIn X hc
  refine PySem.W.osa_openX (s := ⟨hp, g, d, t, os⟩) (ox := { cls := .ref C, dict := some dx, data := .fields fv }) (od := some oD) SF X ⟨hx, rfl, rfl, hoD⟩ T.over (taker_none no) fun b => ?_
  show wpAny _ _ (storeInOwnDict (.ref x) (.ref C) (.str name tk) name v b) _ _ _
  obtain ⟨c1, c2, c3, c4, c5, hd, c7, c8, c9, c10, c11⟩ := cd
  dsimp only at hh
  subst hh
  unfold storeInOwnDict ownDictForStores
  repeat (first
    | with_reducible refine PySem.OEX.store_in_old hns hw hz ?_
    | with_reducible refine wpAny_loadPart_at hx ?_
    | with_reducible refine lk.at ?_
    | wp_step)
  intro h2 t2 hn hs
  exact k h2 t2 (fun b u hb hu => (hs.2 b hb).trans hu) hn
end
section
variable {X : Cx} {pins : List (Addr × Obj)} {σ : L2.St} {H : Hp} {s : Shared} {a C dx : Addr} {f : Str} {y : V} {u : Value} {fs : List (Str × V)} {Q : Unit → Shared → Prop} {E : Value → Shared → Prop} {A : Around} {B newId initId : String} {bm : List Value}
theorem own_st0 (T : OwnC X.K C B newId initId bm) (I : Inv X pins σ H s) (e : H a = some (exo a C none)) (no : PySem.W.findIn X.K (.ref C) f = some none) (ry : RelV y u)
    (k : ∀ dx s', H dx = none → dx ≠ a → Inv X pins σ (upd (upd H dx (exd dx [(f, y)])) a (exo a C (some dx))) s' → Q () s') : wpAny (model X.prog X.w) A (setAttr (.ref a) f u) Q E s := by
  obtain ⟨t1, ho⟩ := exo_at I.hok e
  obtain ⟨hp, g, d, t, os⟩ := s
  refine PySem.W.set_plain I.kIn (ox := { cls := .ref C, dict := none, data := .fields #[.ref t1, .none, .none, .none, .bool false, .none] }) (od := none) ⟨ho, rfl, rfl, trivial⟩ T.sa ?_
  refine own_sa0 T I.kIn ho no fun h2 t2 dx stay dn dne hx hn => ?_
  have nodx : H dx = none := I.hok.fresh dn
  have ndx : ∀ {b : Addr} {o : Obj}, hp.get? b = some o → b ≠ dx := fun {b o} z => Nat.ne_of_lt (Nat.lt_of_lt_of_le (Heap.lt_size z) dn)
  have na : ∀ {b : Addr}, H b = none → b ≠ a := fun {b} n z => by
    rw [z, e] at n
    cases n
  have un : Un X.fs [] H (upd (upd H dx (exd dx [(f, y)])) a (exo a C (some dx))) hp h2 := {
    keep := fun b o z n _ _ => stay b o (na n) z
    slot := fun b o z n _ _ => ⟨o.slots, stay b o (na n) z⟩
    free := fun b o z n _ => by
      rw [upd_ne (na n), upd_ne (ndx z)]
      exact n
    there := fun b o z _ => by
      by_cases hb : b = a
      · subst hb
        exact ⟨_, hx⟩
      · exact ⟨o, stay b o hb z⟩
    tups := fun b xs z => by
      rw [upd_ne (L2.at_ne e z exo_tup), upd_ne (ne_of_none z nodx)]
      exact z
    frzs := fun b o v z => by
      rw [upd_ne (L2.at_ne e z exo_frz), upd_ne (ne_of_none z nodx)]
      exact z
    tbls := fun b ps z => ⟨#[], by
      rw [upd_ne (L2.at_ne e z exo_tbl), upd_ne (ne_of_none z nodx), z]
      simp⟩ }
  refine k dx _ nodx dne (I.un (t' := t2) un fun b o z => ?_)
  by_cases hb : b = a
  · subst hb
    rw [upd_same] at z
    cases z
    exact exo_ok hx
  · rw [upd_ne hb] at z
    by_cases hd : b = dx
    · subst hd
      rw [upd_same] at z
      cases z
      exact exd_ok hn (relO_put (fs := []) ry fun g => True.intro)
    · rw [upd_ne hd] at z
      refine (I.hok b o z).stay (fun c v hc q => stay c v ?_ q) (fun c hc => ?_) fun c xs hc => ?_
      · rcases hc with hc | hc
        · subst hc
          exact hb
        · exact L2.at_ne e hc exo_own
      · rw [upd_ne (L2.at_ne e hc exo_own), upd_ne (ne_of_none hc nodx)]
        exact hc
      · rw [upd_ne (L2.at_ne e hc exo_tup), upd_ne (ne_of_none hc nodx)]
        exact hc
theorem own_st1 (T : OwnC X.K C B newId initId bm) (I : Inv X pins σ H s) (e : H a = some (exo a C (some dx))) (ed : H dx = some (exd dx fs)) (hl : fs.length ≤ 900) (no : PySem.W.findIn X.K (.ref C) f = some none) (ry : RelV y u)
    (k : ∀ s', Inv X pins σ (upd H dx (exd dx ((f, y) :: fs))) s' → Q () s') : wpAny (model X.prog X.w) A (setAttr (.ref a) f u) Q E s := by
  obtain ⟨t1, ho⟩ := exo_at I.hok e
  obtain ⟨mA, hns, rel⟩ := exd_at I.hok ed
  have hw := within_of rel
  obtain ⟨hp, g, d, t, os⟩ := s
  obtain ⟨oD, _, _, hoD, _, _⟩ := hns.count hw
  refine PySem.W.set_plain I.kIn (ox := { cls := .ref C, dict := some dx, data := .fields #[.ref t1, .none, .none, .none, .bool false, .none] }) (od := some oD) ⟨ho, rfl, rfl, hoD⟩ T.sa ?_
  refine own_sa1 T I.kIn ho hns hw (by rw [List.length_map]; omega) no fun h2 t2 stay hn => ?_
  have there : ∃ o, h2.get? dx = some o := by
    obtain ⟨o, _, _, z, _⟩ := id hn
    exact ⟨o, z⟩
  exact k _ (I.write (t' := t2) (x := dx) (e := dx) (o := exd dx ((f, y) :: fs)) (by rw [ed]; exact True.intro) (.inl rfl) stay there (exd_ok hn (relO_put ry rel)))
end
def tOwnS (K : PySem.W.Frag) (B newId initId : String) (bm : List Value) (f : Str) (to te : TE) : TS := fun D σ H => te σ H fun y H1 => to σ H1 fun x H2 => ∃ a C : Addr, x = .ref a ∧ OwnC K C B newId initId bm ∧ PySem.W.findIn K (.ref C) f = some none ∧
  ((H2 a = some (exo a C none) ∧ ∀ dx, H2 dx = none → dx ≠ a → D.nx σ (upd (upd H2 dx (exd dx [(f, y)])) a (exo a C (some dx)))) ∨
    ∃ (dx : Addr) (fs : List (Str × V)), H2 a = some (exo a C (some dx)) ∧ H2 dx = some (exd dx fs) ∧ fs.length ≤ 900 ∧ D.nx σ (upd H2 dx (exd dx ((f, y) :: fs))))
theorem ps_ownS {X : Cx} {o e : Expr} {to te : TE} {f : Str} {p' pos : Pos} {B newId initId : String} {bm : List Value} (ho : PE X o to) (he : PE X e te) (hs : swapsWith e (some (.Attribute o f p')) pos.line X.env = pure false := by rfl) :
    PS X (.Assign [.Attribute o f p'] e pos) (tOwnS X.K B newId initId bm f to te) := by
  refine ⟨fun pins s σ H D I h => ?_⟩
  refine plainObj_wpAny_Assign_Attribute (thn (he.run pins s σ H _ I h) fun v s1 ⟨y, H1, I1, r1, q1⟩ => thn (ho.run pins s1 σ H1 _ I1 q1) fun u s2 ⟨x, H2, I2, r2, a, C, ex, T, no, z⟩ => ?_) hs
  subst ex
  obtain rfl : u = Value.ref a := r2
  rcases z with ⟨ea, z⟩ | ⟨dx, fs, ea, ed, hl, z⟩
  · exact own_st0 T I2 ea no r1 fun dx s2 n ne J => ⟨σ, _, J, z dx n ne⟩
  · exact own_st1 T I2 ea ed hl no r1 fun s2 J => ⟨σ, _, J, z⟩

/-! ### isinstance of an exception that is held as a value -/
section
open PySem.W
variable {prog : Program} {w : World} {A : Around} {E : Value → Shared → Prop} {s : Shared} {K : Frag} {x D : Addr} {ox : Obj} {od : Option Obj}
theorem found_data {n : Str} {a g : Value} (hc : (clsIn K D).isSome = true) (h1 : findIn K (.ref D) n = some (some a)) (h2 : specialIn K a "__get__" = some (some g)) (h3 : takesIn K a = some true) :
    findObj K D od n = some (.bind g a) := by
  obtain ⟨cd, z⟩ := Option.isSome_iff_exists.mp hc
  unfold findObj
  rw [z, Option.bind_some, h1, Option.bind_some]
  simp [h2, h3]
theorem class_told {Q : Option Value → Shared → Prop} (T : ExcC K D) (X : K.In s.heap) (I : InstAt s.heap x ox D od) (k : Q (some (.ref D)) { s with toks := s.toks + 1 }) : wpAny (model prog w) A (getAttr? (.ref x) "__class__") Q E s := by
  have there : (clsIn K D).isSome = true := by
    obtain ⟨cd, z, _⟩ := any_some T.hd
    rw [z]
    rfl
  have fo : findObj K D od "__class__" = some (.bind (.builtin "getset_descriptor.__get__") (.builtin "object.__class__")) := found_data there T.ha T.hn T.ht
  obtain ⟨hp, g, d, t, os⟩ := s
  have l0 := I.type (M := model prog w)
  have l1 := looks_findIn (M := model prog w) X T.hg
  have l2 := looks_findIn (M := model prog w) X T.hk
  have l3 := looks_find (M := model prog w) X I fo
  have under : Looks (model prog w) hp (isInstance (.ref x) (.type "BaseException")) true := l0.andThen (looks_subIn X T.hs)
  have z0 : (false && onTheHeap (Value.builtin "BaseException.__getattribute__")) = false := rfl
  have z2 : (Value.builtin "BaseException.__getattribute__" == Value.builtin "object.__getattribute__") = false := by decide +kernel
  have z1 : (onTheHeap (Value.ref D) && Value.builtin "BaseException.__getattribute__" == Value.builtin "object.__getattribute__") = false := by
    rw [z2]
    rfl
  unfold getAttr?
  unfold getAttrBy?
  unfold getAttrBy
  refine wpAny_bind (wpAny_mkText (wpAny_bind (wpAny_attempt (wpAny_holding (wpAny_bind (l0.at (wpAny_bind (l1.at ?_))))))))
  show wpAny _ _ (if (onTheHeap (Value.ref D) && Value.builtin "BaseException.__getattribute__" == Value.builtin "object.__getattribute__") = true
    then _ else _) _ _ _
  rw [z1, if_neg Bool.false_ne_true]
  unfold getAttrByItsOwn
  unfold hookBefore
  refine wpAny_bind ?_
  rw [if_pos (show onTheHeap (Value.ref D) = true by rfl)]
  refine l2.at ?_
  refine wpAny_bind ?_
  refine wpAny_attempt (wpAny_holding ?_)
  unfold callGetattribute
  rw [z0, if_neg Bool.false_ne_true]
  unfold boundAndCalled
  rw [PySem.F.excAttr_ValueError.ga.bind (.ref x)]
  refine wpAny_bind ?_
  refine wpAny_pure ?_
  show wpAny (model prog w) _ (call (.builtin "BaseException.__getattribute__") [.ref x, .str "__class__" t]) _ _ _
  refine wpAny_call ?_
  refine codeAny_call_builtin PySem.F.excAttr_ValueError.ga.plain PySem.F.entry_bexc_ga ?_
  refine @check_slot (model prog w) _ _ ⟨hp, g, d, t + 1, os⟩ "BaseException.__getattribute__" "BaseException" "__getattribute__" (.ref x) [.str "__class__" t] [] _ (by decide +kernel) (by decide +kernel) under (PySem.F.args_bexc_ga (.ref x) (.str "__class__" t)) ?_
  unfold PySem.Builtin.«object.__getattribute__»
  refine wpAny_bind ?_
  refine wpAny_of_eq (a := ((Value.ref x : Value), [Value.str "__class__" t])) (by first | rfl | (simp only [PySem.Builtin.slotArgs]; done)) ?_
  refine wpAny_bind ?_
  refine wpAny_pure (wpAny_bind (l0.at (wpAny_bind (l3.at ?_))))
  show wpAny (model prog w) _ (holding [Value.builtin "object.__class__"] (call (.builtin "getset_descriptor.__get__") [.builtin "object.__class__", .ref x, .ref D]) >>= ret) _ _ _
  refine wpAny_bind ?_
  refine wpAny_holding (wpAny_call (class_get (s := ⟨hp, g, d, t + 1, os⟩) (ox := ox) (od := od) X I T.hm ?_))
  refine wpAny_pure ?_
  show wpAny (model prog w) _ (handedOut (.ref D)) _ _ _
  rw [handedOut_of (v := .ref D) rfl]
  first
    | exact wpAny_pure (wpAny_pure k)
    | exact wpAny_pure k
    | exact wpAny_pure (wpAny_bind (wpAny_pure (wpAny_pure k)))
theorem exo_kit (T : ExcC K D) : KitX K (.ref x) (.ref D) (fun h => InstAt h x ox D od) where
  ty := fun _ _ _ I => I.type
  it := fun M h X _ => by
    obtain ⟨cd, z, _⟩ := any_some T.hd
    unfold clsIn at z
    split at z
    · rename_i o
      intro _ _ _ s' k q
      unfold isType
      unfold loadHead
      exact wpAny_bind (wpAny_loadPart (k _ _ (X _ _ o)) (wpAny_pure q))
    · cases z
  ne := fun h tp _ _ _ _ X htp => by
    obtain ⟨cd, z, _⟩ := any_some T.hd
    refine Bool.eq_false_iff.mpr fun q => ?_
    have e : D = tp := Value.ref.inj (beq_iff_eq.mp q)
    subst e
    unfold clsIn at z
    split at z
    · rename_i o
      cases (X _ _ o).symm.trans htp
    · cases z
  ca := fun X I k => class_told T X I k
theorem kit_own {C C' : Addr} (T' : PySem.W.hasDictIn K C' = true) (ty : typeIn K (.ref C') = some (.type "type")) (ex : subIn K (.ref C) (.ref C') = some (decide (C = C'))) :
    kitOne K (.ref C) (.ref C') = some (decide (C = C')) := by
  unfold kitOne
  by_cases h : C = C'
  · subst h
    rw [if_pos (beq_self_eq_true _), decide_eq_true rfl]
  · rw [if_neg (fun z => h (Value.ref.inj (beq_iff_eq.mp z)))]
    unfold kitCls
    obtain ⟨cd, z, _⟩ := any_some T'
    have yes : ((clsIn K C').isSome && typeIn K (.ref C') == some (.type "type")) = true := by
      rw [z, ty]
      rfl
    show (if ((clsIn K C').isSome && typeIn K (.ref C') == some (.type "type")) = true then subIn K (.ref C) (.ref C') else none) = _
    rw [if_pos yes]
    exact ex
end
/-- isinstance(e, c), e an exception of an own class that is held as a value -/
def rIsO (K : PySem.W.Frag) : List V → Hp → VK → Prop := fun xs H Q => ∃ (a C : Addr) (d : Option Addr) (c : V) (cv : Value) (b : Bool), xs = [.ref a, c] ∧ ClsV c cv ∧ ExcC K C ∧ H a = some (exo a C d) ∧ (∀ dx, d = some dx → ∃ fs, H dx = some (exd dx fs)) ∧ PySem.W.kitOne K (.ref C) cv = some b ∧ Q (.bl b) H
theorem call_isO {X : Cx} : CallR X (.builtin "isinstance") (rIsO X.K) := by
  intro pins s σ H xs us Q I r h
  obtain ⟨a, C, d, c, cv, b, rfl, kc, T, ea, ed, e, q⟩ := h
  obtain ⟨u1, u2, rfl, r1, r2⟩ := vals2 r
  have e2 := kc.eq r2
  subst e2
  cases r1
  obtain ⟨t1, ho⟩ := exo_at I.hok ea
  have J : ∃ od, PySem.W.InstAt s.heap a { cls := .ref C, dict := d, data := .fields #[.ref t1, .none, .none, .none, .bool false, .none] } C od := by
    cases d with
    | none => exact ⟨none, ho, rfl, rfl, trivial⟩
    | some dx =>
      obtain ⟨fs, hd⟩ := ed dx rfl
      obtain ⟨mA, hns, rel⟩ := exd_at I.hok hd
      obtain ⟨oD, _, _, hoD, _, _⟩ := hns.count (within_of rel)
      exact ⟨some oD, ho, rfl, rfl, hoD⟩
  obtain ⟨od, J⟩ := J
  exact PySem.W.kia_one (exo_kit T) I.kIn J e (fun z => nomatch z) fun tk => ⟨.bl b, H, I.tok tk, rfl, q⟩
/-- e.f of such -/
def tOwnF (K : PySem.W.Frag) (f : Str) (te : TE) : TE := fun σ H Q => te σ H fun x H1 => ∃ (a C d : Addr) (fs : List (Str × V)) (v : V), x = .ref a ∧ XfC K C ∧ PySem.W.findIn K (.ref C) f = some none ∧ H1 a = some (exo a C (some d)) ∧ H1 d = some (exd d fs) ∧ fs.lookup f = some v ∧ Q v H1
theorem pe_ownF {X : Cx} {e : Expr} {te : TE} {pos : Pos} {n : Str} (he : PE X e te) (hb : attributeBase e n X.env (eval e X.env) = eval e X.env := by rfl) : PE X (.Attribute e n pos) (tOwnF X.K n te) := by
  refine ⟨fun pins s σ H Q I h => ?_⟩
  refine attr_of hb (thn (he.run pins s σ H _ I h) fun u s1 hh => ?_)
  obtain ⟨x, H1, I1, rx, a, C, d, fs, v, ex, T, no, ea, ed, l, q⟩ := hh
  subst ex
  obtain rfl : u = Value.ref a := rx
  obtain ⟨t1, ho⟩ := exo_at I1.hok ea
  obtain ⟨mA, hns, rel⟩ := exd_at I1.hok ed
  obtain ⟨od, hoD, hl⟩ := lookIn_ns hns
  obtain ⟨u, hu, ru⟩ := RelO.some_of (v := v) (o := mA n) (by rw [← l]; exact rel n)
  have J : PySem.W.InstAt s1.heap a { cls := .ref C, dict := some d, data := .fields #[.ref t1, .none, .none, .none, .bool false, .none] } C (some od) := ⟨ho, rfl, rfl, hoD⟩
  exact HandSPX.exc_get I1.kIn J T.ga T.gg T.exC (PySem.W.findObj_own T.hdC no rfl (by rw [hl, hu])) (handed_of ru) ⟨v, H1, I1.tok _, ru, q⟩

/-! ### the law's own def, run where the law is asked: nothing is being shown there -/
def RunAt (P : Program) (w : World) (K : PySem.W.Frag) (mg : Str → Option Value) (base : Heap) (f : Addr) (fd : FuncData) (ps : List Str) (sp : Sp) : Prop :=
  ∀ (s : Shared) (H : Hp) (us : List Value) (vs : List V) (Q : VK) (E : XK), Env0 P w K mg base callerA [] s H → BindsTo s fd ⟨us, []⟩ (ps.zip us) → Vals vs us → sp vs H Q E → codeAny (model P w) callerA (.call (.ref f) ⟨us, []⟩) (CR CX0 [] P w H s Q E) s
section
variable {P : Program} {w : World} {K : PySem.W.Frag} {mg : Str → Option Value} {base : Heap}
theorem run_at {x qual : Str} {st : Stmt} {f : Addr} {fd : FuncData} {N ps : List Str} {k : Nat} {sp : Sp} (F : Fun K x qual st f fd) (S : FnScope N ps (defScope st)) (room : Room (k + 1) callerA) (len : ∀ vs H Q E, sp vs H Q E → vs.length = ps.length)
    (body : ∀ (cdv : Value) (s : Shared) (H : Hp) (vs : List V) (Q : VK) (E : XK), Room k (callerA.deeper (envOfC qual (defScope st) s.heap.objs.size f cdv)) → sp vs H Q E →
      ∃ t, PSs (cxOf CX0 P w K mg base N qual (defScope st) f cdv callerA [] s H E).nox (defBody st) t ∧ t { nx := fun _ H' => Q .non H', rt := Q } (start N vs) H) : RunAt P w K mg base f fd ps sp := by
  obtain ⟨oc, od, kV, doc, pm, an, cdv, ct, osl, rfl, lk, hcd⟩ := F.ex
  intro s H us vs Q E e0 hb r hsp
  have few := len _ _ _ _ hsp
  have kin : K.In s.heap := e0.mod.kin.keeps fun b o z => (e0.bs b o z).1
  have lim : s.heap.NoLimit := e0.mod.nolimit.keeps fun b o z => (e0.bs b o z).1
  have kinds : ∀ z ∈ ps.zip us, (defScope st).names.lookup z.1 = some .local ∨ ((defScope st).names.lookup z.1 = some .cell ∧ ((cellsFrom (s.heap.objs.size + 1) (defScope st).names []).lookup z.1).isSome = true) := by
    rintro ⟨n, v⟩ hz
    rcases S.par n (List.of_mem_zip hz).1 with z | z
    · exact .inl z
    · exact .inr ⟨z, PySem.W.cellsFrom_some _ _ _ (.inl z)⟩
  refine codeAny_call_function room.depth (kin _ _ lk) rfl S.co S.gen rfl (PySem.W.codeRec_of kin hcd) (hb _ _ _ _ ?_)
  refine wpAny_newFunctionEnv_cells S.kind kinds fun env he s1 z => ?_
  subst he
  refine ⟨lim.keeps z.toInCall.keep, codeAny_func ?_⟩
  obtain ⟨t, ht, hq⟩ := body cdv s H vs Q E (room.deeper _) hsp
  have I : Inv (cxOf CX0 P w K mg base N qual (defScope st) f cdv callerA [] s H E) [] (start N vs) H s1 := inv_start S room.hd e0 few r z
  refine wpAny_mono (ht.nox.run [] s1 (start N vs) H _ I hq) (fun fl s2 hs => ?_) fun e s2 hs => hs
  cases fl with
  | ret u =>
    obtain ⟨v, σ2, H2, J, rv, q⟩ := hs
    exact ⟨v, H2, J.os, J.bare, J.base, J.hok, rv, q⟩
  | next =>
    obtain ⟨σ2, H2, J, q⟩ := hs
    exact ⟨.non, H2, J.os, J.bare, J.base, J.hok, rfl, q⟩
  | brk =>
    obtain ⟨_, _, _, q⟩ := hs
    exact q.elim
  | cont =>
    obtain ⟨_, _, _, q⟩ := hs
    exact q.elim
theorem law_at {mb : Str → Option Value} {fa p : Addr} {fd : FuncData} {x : Str} {sp : Sp} {s1 : Shared} {vs : List Value} {ns : List Int}
    (kin : K.In s1.heap) (hns : s1.heap.Ns mainGlobals mg) (hb : s1.heap.Ns builtinsNs mb) (hbb : ∀ y : Str, y ≠ "__name__" → mb y = bootBuiltins y) (hlim : s1.heap.NoLimit) (hg : s1.gens = #[])
    (hp : s1.heap.get? p = some { cls := .type "list", data := .seq vs.toArray }) (hi : IntsAre vs ns) (few : ns.length ≤ sizeLine)
    (F : ∀ base : Heap, K.In base → base.Ns mainGlobals mg → RunAt P w K mg base fa fd [x] sp) (binds : ∀ (s : Shared) (u : Value), BindsTo s fd ⟨[u], []⟩ [(x, u)])
    (hsp : ∀ H : Hp, Only H → SqL K H p (ns.map V.int) → sp [.ref p] H (fun v _ => v = .bl true) fun _ _ _ => False) :
    codeAny (model P w) callerA (.call (.ref fa) ⟨[.ref p], []⟩) (fun r s2 => r = .ok (.ret (.bool true)) ∧ OldK s1.heap s2.heap ∧ s2.os = s1.os ∧ AllBare s2.gens) s1 := by
  have rv := vals_ints hi
  have core : ∀ H : Hp, Only H → SqL K H p (ns.map V.int) → HOk P w H s1.heap → (∀ b, H b ≠ none → b = p) → (H p ≠ none → K.lookup p = none) →
      codeAny (model P w) callerA (.call (.ref fa) ⟨[.ref p], []⟩) (fun r s2 => r = .ok (.ret (.bool true)) ∧ OldK s1.heap s2.heap ∧ s2.os = s1.os ∧ AllBare s2.gens) s1 := by
    intro H only seq hok one hK
    have below : ∀ {b : Addr} {o : Obj}, s1.heap.get? b = some o → H b = none → (hidT s1.heap H).get? b = some o := fun e n => hidT_get e n
    have dicts : ∀ {b : Addr} {o : Obj} {es : Array DictEntry} {ep : Nat}, s1.heap.get? b = some o → o.data = .dict es ep → H b = none := by
      intro b o es ep e d
      cases q : H b with
      | none => rfl
      | some u =>
        obtain rfl : b = p := one b (by rw [q]; simp)
        rw [hp] at e
        cases e
        cases (show Data.seq vs.toArray _ = Data.dict es ep from d)
    have spaces : ∀ {b : Addr} {m : Str → Option Value}, s1.heap.Ns b m → (hidT s1.heap H).Ns b m := by
      rintro b m ⟨o, es, ep, e, d, r⟩
      exact ⟨o, es, ep, below e (dicts e d), d, r⟩
    have kin2 : K.In (hidT s1.heap H) := fun b o e => by
      refine below (kin b o e) ?_
      cases q : H b with
      | none => rfl
      | some u =>
        obtain rfl : b = p := one b (by rw [q]; simp)
        rw [hK (by rw [q]; simp)] at e
        cases e
    have mod : Mod K mg (hidT s1.heap H) := by
      obtain ⟨mc, c1, c2⟩ := hlim
      exact ⟨kin2, spaces hns, ⟨mb, spaces hb, hbb⟩, ⟨mc, spaces c1, c2⟩⟩
    have e0 : Env0 P w K mg (hidT s1.heap H) callerA [] s1 H :=
      ⟨rfl, mod, fun b o e => of_hidT e, Nat.le_of_eq (hidT_size _ _), trivial, fun b z => absurd (show b ∈ ([] : List Addr) from z) (by simp), hok, .of_eq hg⟩
    refine codeAny_mono (F _ kin2 (spaces hns) s1 H [.ref p] [.ref p] _ _ e0 (binds s1 (.ref p)) (.cons rfl .nil) (hsp H only seq)) fun r s2 h => ?_
    cases r with
    | error e => exact h.elim
    | ok fl =>
      cases fl with
      | next => exact h.elim
      | brk => exact h.elim
      | cont => exact h.elim
      | ret u =>
        obtain ⟨v, H2, os, bare, un, hok2, rel, q⟩ := h
        obtain rfl : v = .bl true := q
        obtain rfl : u = Value.bool true := rel
        refine ⟨rfl, OldK.of_keep fun b o e => ?_, os, bare⟩
        cases q : H b with
        | none => exact un.keep b o e q (fun z => absurd (show b ∈ ([] : List Addr) from z) (by simp)) (by simp)
        | some u =>
          rcases only b with z | ⟨ob, xs, z⟩
          · rw [q] at z
            cases z
          · obtain ⟨a1, _⟩ := hok b _ z
            obtain ⟨a2, _⟩ := hok2 b _ (un.frzs b ob _ z)
            rw [e] at a1
            cases a1
            exact a2
  cases hk : K.lookup p with
  | some o =>
    have e := kin p o hk
    rw [hp] at e
    cases e
    have lv := hi.length
    refine core (fun _ => none) (fun _ => .inl rfl) (.inr ⟨_, vs.toArray, _, hk, rfl, rfl, rfl, ?_, by simpa using rv⟩) (fun b u z => ?_) (fun b z => absurd rfl z) fun z => absurd rfl z
    · rw [List.size_toArray, lv]
      exact few
    · cases (show (none : Option HO) = some u from z)
  | none =>
    refine core (fun b => if b = p then some (.frz { cls := .type "list", data := .seq vs.toArray } (.lst (ns.map V.int))) else none) (fun b => ?_) (.inl (.inr ⟨{ cls := .type "list", data := .seq vs.toArray }, if_pos rfl⟩)) (fun b u z => ?_) (fun b z => ?_) fun _ => hk
    · by_cases hb : b = p
      · exact .inr ⟨_, _, if_pos hb⟩
      · exact .inl (if_neg hb)
    · by_cases hb : b = p
      · subst hb
        cases (if_pos rfl).symm.trans z
        refine ⟨hp, ?_, vs, _, rv, hp⟩
        rw [List.length_map]
        exact few
      · cases (if_neg hb).symm.trans z
    · by_cases hb : b = p
      · exact hb
      · exact absurd (if_neg hb) z
end
theorem walk_at {l : PySem.W.OpenLaw} {n : Nat} {q : Program} {loose : List Str} {XP : (Str → Option Value) → Heap → Prop} {YP : World → Heap → Prop} {d : DefRec} {K : Params → PySem.W.Frag} {sp : World → Sp} {x : Str}
    (hn : l.most = some n) (hn2 : n ≤ sizeLine) (hdf : d.params.defaults = []) (hY : ∀ (w : World) (h : Heap), YP w h → (K w.params).In h)
    (F : ∀ (w : World) (mg : Str → Option Value) (fa : Addr) (h : Heap), (K w.params).In h → h.Ns mainGlobals mg → mg d.name = some (.ref fa) →
      ∃ fd : FuncData, (∀ (s : Shared) (u : Value), BindsTo s fd ⟨[u], []⟩ [(x, u)]) ∧ ∀ base : Heap, (K w.params).In base → base.Ns mainGlobals mg → RunAt l.prog w (K w.params) mg base fa fd [x] (sp w))
    (hsp : ∀ (w : World) (H : Hp) (a : Addr) (ns : List Int), ns.length ≤ n → Only H → SqL (K w.params) H a (ns.map V.int) → sp w [.ref a] H (fun v _ => v = .bl true) fun _ _ _ => False) :
    PySem.W.WalkO q loose XP YP l.row.toRowW d [] (fun f vs => PySem.call f vs) := by
  refine Att.attach_call hn hdf fun w s0 s1 mg mb fa o pm cd doc a vs ns G Y ho hd hcd hmg hobj hints hlen hg => ?_
  obtain ⟨fd, hb, hF⟩ := F w mg fa _ (hY w _ Y) G.T.g hmg
  exact law_at (hY w _ Y) G.T.g G.T.b G.T.builtins G.T.nolimit hg hobj hints (Nat.le_trans hlen hn2) hF hb fun H only seq => hsp w H a ns hlen only seq

/-! ### repr of a list where nothing is being shown; None in an f-string -/
theorem call_reprD {X : Cx} (hg : X.A.guards = some []) (hu : X.A.units + 64 < cLine) : CallR X (.builtin "repr") (fun xs H Q => ∃ a d, xs = [.ref a] ∧ Dp X.K H (.ref a) d ∧ d.showable = true ∧ d.hasDict = false ∧ d.depth ≤ 60 ∧ d.shown.length ≤ sizeLine ∧ Q (.str d.shown) H) := by
  intro pins s σ H xs us Q I r h
  obtain ⟨a, d, rfl, hd, h1, h2, h3, h4, q⟩ := h
  obtain ⟨u, rfl, ru⟩ := vals1 r
  cases ru
  obtain ⟨as, rd⟩ := Dp.reads I d (.ref a) (.ref a) hd rfl
  exact repr_of_reads' (s := s) rd h1 (fun z => by rw [h2] at z; cases z) hg (by omega) (fun _ _ z => z) (fun h2 u tk k => ⟨.str d.shown, H, I.kept (t' := tk) k, ⟨_, rfl⟩, q⟩) h4
def fmtN (Q : VK) : VK := fun x H1 => (∃ y : Str, x = .str y ∧ y.length ≤ sizeLine ∧ Q (.str y) H1) ∨ (∃ i : Int, x = .int i ∧ i.natAbs.log2 < 1920 ∧ Q (.str (toString i)) H1) ∨ (x = .non ∧ Q (.str "None") H1)
def tFmtN (te : TE) : TE := fun σ H Q => te σ H (fmtN Q)
theorem pe_fmtN {X : Cx} {e : Expr} {te : TE} {pos : Pos} (he : PE X e te) : PE X (.FormattedValue e (-1) none pos) (tFmtN te) := by
  refine ⟨fun pins s σ H Q I h => ?_⟩
  refine wpAny_FormattedValue_plain (thn (he.run pins s σ H _ I h) fun v s1 z => ?_)
  obtain ⟨x, H1, I1, rx, q⟩ := z
  rcases q with ⟨y, rfl, hz, q⟩ | ⟨i, rfl, hz, q⟩ | ⟨rfl, q⟩
  · obtain ⟨t, rfl⟩ := rx
    exact wpAny_formatField_str ⟨.str y, H1, I1, ⟨t, rfl⟩, q⟩ ⟨.str y, H1, I1.tok _, ⟨_, rfl⟩, q⟩ hz
  · obtain ⟨t, rfl⟩ := rx
    exact wpAny_formatField_int hz ⟨.str (toString i), H1, I1.tok _, ⟨_, rfl⟩, q⟩
  · cases rx
    exact wpAny_formatField_none ⟨.str "None", H1, I1.tok _, ⟨_, rfl⟩, q⟩
/-! ### what a field may hold -/
/-- a whole number of up to eighteen figures, a short text, None -/
inductive Fld : V → Prop where
  | int (i : Int) (h : i.natAbs < 10 ^ 18) : Fld (.int i)
  | str (z : Str) (h : z.length ≤ 100) : Fld (.str z)
  | non : Fld .non
def fldText : V → Str
  | .int i => toString i
  | .str z => z
  | _ => "None"
theorem fld_log {i : Int} (h : i.natAbs < 10 ^ 18) : i.natAbs.log2 < 1920 := by
  have lg : i.natAbs.log2 < 60 := PySem.Flt.log2_lt_of (by decide) (Nat.lt_trans h (by decide))
  omega
theorem fld_short {i : Int} (h : i.natAbs < 10 ^ 18) : ((toString i : String) : Str).length ≤ 19 := by
  show (Str.ofString (toString i)).length ≤ 19
  rw [PySem.ofString_length]
  exact int_text_length_le10 (k := 18) (by decide) h
theorem fld_fmt {v : V} {H : Hp} {Q : VK} (h : Fld v) (k : ∀ y : Str, y.length ≤ 100 → Q (.str y) H) : fmtN Q v H := by
  cases h with
  | int i h => exact .inr (.inl ⟨i, rfl, fld_log h, k _ (Nat.le_trans (fld_short h) (by decide))⟩)
  | str z h => exact .inl ⟨z, rfl, Nat.le_trans h (by decide), k _ h⟩
  | non => exact .inr (.inr ⟨rfl, k _ (by decide)⟩)

/-! ### the four builtin classes -/
abbrev bmV : List Value := [.type "ValueError", .type "Exception", .type "BaseException", .type "object"]
abbrev bmI : List Value := [.type "IndexError", .type "LookupError", .type "Exception", .type "BaseException", .type "object"]
abbrev bmK : List Value := [.type "KeyError", .type "LookupError", .type "Exception", .type "BaseException", .type "object"]
abbrev bmL : List Value := [.type "LookupError", .type "Exception", .type "BaseException", .type "object"]
theorem store_K : StoreFacts "KeyError" bmK "object.__setattr__" "object" where
  mro := by kernel_rfl
  slot := .of (n := "__setattr__")
    (owner := "object")
    (by
      rw [typeLookup_type]
      rw [builtinLookup_eq_fast]
      kernel_rfl)
    (by decide +kernel)
    (by decide +kernel)
    (by decide +kernel)
    (by
      first
        | exact .inl (by decide +kernel)
        | exact .inr (by decide +kernel))
    (by
      rw [isSubtype_type]
      kernel_rfl)
  entry := PySem.F.entry_object_sa
  kind := by decide +kernel
  split := by decide +kernel
  hasOwner := by decide +kernel
  args := PySem.F.store_ValueError.args
  passes := fun self => by kernel_rfl
structure BaseOf (B newId initId : String) (bm : List Value) : Prop where
  new : ∃ nB, NewBy bm nB newId
  ini : InitBy bm B initId
  sto : ∃ S, StoreFacts S bm "object.__setattr__" "object"
  tl : PySem.W.excTail bm bm = true
  ob : bm.contains (.type "object") = true
  flat : ∀ C : Addr, bm.contains (.ref C) = false
theorem base_V : BaseOf "ValueError" "ValueError.__new__" "ValueError.__init__" bmV :=
  ⟨⟨"ValueError", ⟨_, _, PySem.F.excBase_ValueError⟩, by decide +kernel, by decide +kernel, by decide +kernel⟩, ⟨⟨_, excClass_ValueError⟩, by decide +kernel⟩, ⟨_, PySem.F.store_ValueError⟩, by decide +kernel, by decide +kernel, fun _ => rfl⟩
theorem base_I : BaseOf "IndexError" "IndexError.__new__" "IndexError.__init__" bmI :=
  ⟨⟨"IndexError", ⟨_, _, PySem.F.excBase_IndexError⟩, by decide +kernel, by decide +kernel, by decide +kernel⟩, ⟨⟨_, excClass_IndexError⟩, by decide +kernel⟩, ⟨_, PySem.F.store_IndexError⟩, by decide +kernel, by decide +kernel, fun _ => rfl⟩
theorem base_L : BaseOf "LookupError" "LookupError.__new__" "LookupError.__init__" bmL :=
  ⟨⟨"LookupError", ⟨_, _, PySem.F.excBase_LookupError⟩, by decide +kernel, by decide +kernel, by decide +kernel⟩, ⟨⟨_, excClass_LookupError⟩, by decide +kernel⟩, ⟨_, PySem.F.store_LookupError⟩, by decide +kernel, by decide +kernel, fun _ => rfl⟩
/-- KeyError's own new is LookupError's -/
theorem base_K : BaseOf "KeyError" "LookupError.__new__" "KeyError.__init__" bmK :=
  ⟨⟨"LookupError", ⟨_, _, PySem.F.excBase_LookupError⟩, by decide +kernel, by decide +kernel, by decide +kernel⟩, ⟨⟨_, excClass_KeyError⟩, by decide +kernel⟩, ⟨_, store_K⟩, by decide +kernel, by decide +kernel, fun _ => rfl⟩
theorem meta_V : typeOf (.type "ValueError") = pure (.type "type") := by kernel_rfl
theorem meta_K : typeOf (.type "KeyError") = pure (.type "type") := by kernel_rfl
theorem meta_I : typeOf (.type "IndexError") = pure (.type "type") := by kernel_rfl
theorem meta_L : typeOf (.type "LookupError") = pure (.type "type") := by kernel_rfl
/-! ### an own class of the top -/
section
open PySem.W
structure ClsAt (K : Frag) (mg : Str → Option Value) (C : Addr) (x qual : Str) (B newId initId : String) (bm : List Value) (st : Stmt) (fs : List Str) : Prop where
  mg : mg x = some (.ref C)
  own : OwnC K C B newId initId bm
  xf : XfC K C
  ex : ExcC K C
  no : ∀ f ∈ fs, findIn K (.ref C) f = some none
  ini : ∃ F fd, findIn K (.ref C) "__init__" = some (some (.ref F)) ∧ typeIn K (.ref F) = some (.type "function") ∧ Fun K "__init__" qual st F fd
theorem cls_mk {K : Frag} {mg : Str → Option Value} {C F : Addr} {x qual : Str} {B newId initId : String} {bm : List Value} {st : Stmt} {fs : List Str} {nm q : Str} {N : Addr} {bs : List Value} {sn : List Str} {sub : List Value} {ab : Bool} {col : Option Bool} {dd : Option Addr} {k0 k1 k2 k3 k5 : Option Value} {fd : FuncData}
    (Y : BaseOf B newId initId bm) (m : mg x = some (.ref C)) (o : K.lookup C = some (excClassObj nm q C N bs bm true sn sub ab col dd k0 k1 k2 k3 k5 newId)) (i : findIn K (.ref C) "__init__" = some (some (.ref F))) (t : typeIn K (.ref F) = some (.type "function")) (f : Fun K "__init__" qual st F fd)
    (h1 : findIn K (.ref C) "__setattr__" = some (some (.builtin "object.__setattr__"))) (h2 : subIn K (.ref C) (.type "BaseException") = some true) (h3 : typeIn K (.ref C) = some (.type "type")) (h4 : keepIn K (.ref C) = true)
    (h5 : findIn K (.ref C) "__getattribute__" = some (some (.builtin "BaseException.__getattribute__"))) (h6 : findIn K (.ref C) "__getattr__" = some none) (h7 : hasDictIn K C = true) (h8 : findIn K (.ref C) "__class__" = some (some (.builtin "object.__class__")))
    (h9 : mroIn K C (.type "object") = some true) (e1 : specialIn K (.builtin "object.__class__") "__get__" = some (some (.builtin "getset_descriptor.__get__"))) (e2 : takesIn K (.builtin "object.__class__") = some true)
    (no : ∀ f ∈ fs, findIn K (.ref C) f = some none) : ClsAt K mg C x qual B newId initId bm st fs :=
  ⟨m, ⟨⟨nm, q, N, bs, sn, sub, ab, col, dd, k0, k1, k2, k3, k5, o⟩, Y.new, Y.ini, Y.sto, h1, Y.tl, Y.ob, h2, h3, h4⟩, ⟨h5, h6, h2, h7⟩, ⟨h5, h6, h2, h7, h8, e1, e2, h9⟩, no, F, fd, i, t, f⟩
theorem no0 {p : Str → Prop} : ∀ f ∈ ([] : List Str), p f := fun f h => by cases h
theorem no1 {p : Str → Prop} {a : Str} (h : p a) : ∀ f ∈ [a], p f := fun f hf => by
  rw [List.mem_singleton.mp hf]
  exact h
theorem no2 {p : Str → Prop} {a b : Str} (h : p a) (k : p b) : ∀ f ∈ [a, b], p f := fun f hf => by
  rcases List.mem_cons.mp hf with e | e
  · rw [e]
    exact h
  · rw [List.mem_singleton.mp e]
    exact k
/-- whether one stands under another -/
theorem kit_two {K : Frag} {mg mg' : Str → Option Value} {C C' : Addr} {x qual x' qual' : Str} {B newId initId B' newId' initId' : String} {bm bm' : List Value} {st st' : Stmt} {fs fs' : List Str} (T : ClsAt K mg C x qual B newId initId bm st fs) (T' : ClsAt K mg' C' x' qual' B' newId' initId' bm' st' fs')
    (flat : bm.contains (.ref C') = false) : kitOne K (.ref C) (.ref C') = some (decide (C = C')) := by
  refine kit_own T'.ex.hd T'.own.tyC ?_
  obtain ⟨cd, hc, hm, _⟩ := T.own.clsIn
  show mroIn K C (.ref C') = _
  unfold mroIn
  rw [hc, Option.bind_some, hm]
  show some ((Value.ref C :: bm).contains (.ref C')) = _
  rw [List.contains_cons, flat, Bool.or_false]
  congr 1
  by_cases h : C = C'
  · subst h
    rw [decide_eq_true rfl]
    exact beq_self_eq_true _
  · rw [decide_eq_false h]
    exact Bool.eq_false_iff.mpr fun z => h (Value.ref.inj (beq_iff_eq.mp z)).symm
theorem kit_base {K : Frag} {mg : Str → Option Value} {C : Addr} {x qual : Str} {B newId initId : String} {bm : List Value} {st : Stmt} {fs : List Str} {T : String} {b : Bool} (Y : ClsAt K mg C x qual B newId initId bm st fs) (km : kitMeta T = true) (h : bm.contains (.type T) = b) :
    kitOne K (.ref C) (.type T) = some b := by
  obtain ⟨cd, hc, hm, _⟩ := Y.own.clsIn
  show (if (Value.ref C == Value.type T) = true then some true else kitCls K (.ref C) (.type T)) = _
  have ne : (Value.ref C == Value.type T) = false := Bool.eq_false_iff.mpr fun z => by
    have e := beq_iff_eq.mp z
    cases e
  rw [ne, if_neg Bool.false_ne_true]
  show (if kitMeta T = true then subIn K (.ref C) (.type T) else none) = _
  rw [if_pos km]
  show mroIn K C (.type T) = _
  unfold mroIn
  rw [hc, Option.bind_some, hm]
  show some ((Value.ref C :: bm).contains (.type T)) = _
  rw [List.contains_cons, h]
  rfl
end
/-- its __init__ keeps sp -/
structure HasC (P : Program) (w : World) (K : PySem.W.Frag) (mg : Str → Option Value) (base : Heap) (C : Addr) (x : Str) (ps : List Str) (sp : Sp) : Prop where
  ex : ∃ (B newId initId : String) (bm : List Value) (F : Addr) (fd : FuncData), mg x = some (.ref C) ∧ OwnC K C B newId initId bm ∧ PySem.W.findIn K (.ref C) "__init__" = some (some (.ref F)) ∧ PySem.W.typeIn K (.ref F) = some (.type "function") ∧ FnOk P w K mg base CX0 1 F fd ps sp ∧ Binds K fd ps []
theorem pe_hasC {X : Cx} {C : Addr} {x : Str} {ps : List Str} {sp : Sp} {e : Expr} {es : List Expr} {t : TA} {p pos : Pos} (h : HasC X.prog X.w X.K X.mg X.base C x ps sp) (hr : Room 2 X.A) (hg : Gl X x) (ha : PA X (e :: es) t)
    (hdb : (x == ("__debug__" : Str)) = false := by decide) (he : starEach (e :: es) X.env = (false, eval e X.env) :: starEach es X.env := by rfl) (hpl : (backTo pos (starEach es X.env)).any (·.1) = false := by rfl) :
    PE X (.Call (.Name x p) (e :: es) [] pos) (tOwnV C sp t) := by
  obtain ⟨B, newId, initId, bm, F, fd, hm, T, iC, tI, f, b⟩ := h.ex
  exact pe_own T iC tI f hr b pass0 hg hm ha hdb he hpl
theorem pe_hasC0 {X : Cx} {C : Addr} {x : Str} {ps : List Str} {sp : Sp} {p pos : Pos} (h : HasC X.prog X.w X.K X.mg X.base C x ps sp) (hr : Room 2 X.A) (hg : Gl X x) (hdb : (x == ("__debug__" : Str)) = false := by decide) :
    PE X (.Call (.Name x p) [] [] pos) (tOwnV C sp tNil) := by
  obtain ⟨B, newId, initId, bm, F, fd, hm, T, iC, tI, f, b⟩ := h.ex
  exact pe_own0 T iC tI f hr b pass0 hg hm hdb
/-! ### what such an __init__ promises: no field, one, two -/
section
variable (C : Addr) (f g : Str)
def spI0 : Sp := fun vs H Q _ => ∃ a, vs = [.ref a] ∧ H a = some (exo a C none) ∧ Q .non H
def spI1 : Sp := fun vs H Q _ => ∃ a v, vs = [.ref a, v] ∧ Fld v ∧ H a = some (exo a C none) ∧ ∀ dx, H dx = none → dx ≠ a → Q .non (upd (upd H dx (exd dx [(f, v)])) a (exo a C (some dx)))
def spI2 : Sp := fun vs H Q _ => ∃ a u v, vs = [.ref a, u, v] ∧ Fld u ∧ Fld v ∧ H a = some (exo a C none) ∧ ∀ dx, H dx = none → dx ≠ a → Q .non (upd (upd (upd H dx (exd dx [(f, u)])) a (exo a C (some dx))) dx (exd dx [(g, v), (f, u)]))
end
/-! ### texts of parts -/
theorem part2 {a y : Str} {n m : Nat} (h1 : a.length ≤ n) (h2 : y.length ≤ m) : (a ++ y).length ≤ n + m := by
  rw [PySem.Str.length_append]
  exact Nat.add_le_add h1 h2
theorem part {a y : Str} {n m : Nat} (h1 : a.length ≤ n) (h2 : y.length ≤ m) (h3 : n + m ≤ 10000) : (a ++ y).length ≤ sizeLine :=
  Nat.le_trans (part2 h1 h2) (Nat.le_trans h3 (by decide))
/-- an own class by its name -/
theorem pe_cls {X : Cx} {x : Str} {C : Addr} {pos : Pos} (m : X.mg x = some (.ref C)) (hg : Gl X x) (hd : (x == ("__debug__" : Str)) = false := by decide) : PE X (.Name x pos) (tC (.ref C)) := pe_glob (v := .ref C) hg m rfl hd
theorem getD_inj {l : List Addr} (nd : l.Nodup) (i j : Nat) (hi : i < l.length) (hj : j < l.length) (h : l.getD i 0 = l.getD j 0) : i = j := by
  rw [List.getD_eq_getElem?_getD, List.getD_eq_getElem?_getD, List.getElem?_eq_getElem hi, List.getElem?_eq_getElem hj, Option.getD_some, Option.getD_some] at h
  have z := List.pairwise_iff_getElem.mp nd
  rcases Nat.lt_trichotomy i j with c | c | c
  · exact absurd h (z i j hi hj c)
  · exact c
  · exact absurd h.symm (z j i hj hi c)

/-! ### a tuple of texts of the top -/
structure CTup (K : PySem.W.Frag) (mg : Str → Option Value) (x : Str) (ws : List Str) : Prop where
  ex : ∃ p, mg x = some (.ref p) ∧ ∃ (o : Obj) (its : Array Value) (n : Nat), K.lookup p = some o ∧ o.cls = .type "tuple" ∧ o.data = .seq its n ∧ its.size ≤ sizeLine ∧ Vals (ws.map V.str) its.toList
theorem pe_ctup {X : Cx} {x : Str} {ws : List Str} {pos : Pos} (h : CTup X.K X.mg x ws) (hg : Gl X x) (hd : (x == ("__debug__" : Str)) = false := by decide) :
    PE X (.Name x pos) (fun _ H Q => ∀ p, (∀ H', SqT X.K H' p (ws.map V.str)) → Q (.ref p) H) := by
  obtain ⟨p, hm, e⟩ := h.ex
  exact ⟨fun _ _ _ H _ I h => ld_glob I hg hm ⟨.ref p, H, I, rfl, h p fun H' => .inr e⟩ hd⟩
theorem ctup_mk {K : PySem.W.Frag} {mg : Str → Option Value} {x : Str} {ws : List Str} {p : Addr} {pd : Option Addr} {its : Array Value} {n : Nat} {sl : Array (Option Value)} (hm : mg x = some (.ref p)) (l : K.lookup p = some ⟨.type "tuple", pd, .seq its n, sl⟩)
    (few : its.size ≤ 1000) (v : Vals (ws.map V.str) its.toList) : CTup K mg x ws :=
  ⟨p, hm, _, its, n, l, rfl, rfl, Nat.le_trans few (by decide), v⟩

structure Top (K : PySem.W.Frag) (mg : Str → Option Value) (cs : Nat → Addr) : Prop where
  d_ways : At K mg "ways" s_ways
  d_how_many : At K mg "how_many" s_how_many
  d_choices : At K mg "choices" s_choices
  d__with_one_more : At K mg "_with_one_more" s__with_one_more
  d_apart : At K mg "apart" s_apart
  d_are_apart : At K mg "are_apart" s_are_apart
  d__having_more : At K mg "_having_more" s__having_more
  d__law_begun : At K mg "_law_begun" s__law_begun
  d__law_draw : At K mg "_law_draw" s__law_draw
  d__law_pick : At K mg "_law_pick" s__law_pick
  d__law_marks : At K mg "_law_marks" s__law_marks
  d__law_number : At K mg "_law_number" s__law_number
  d__law_apart : At K mg "_law_apart" s__law_apart
  d__law_bent : At K mg "_law_bent" s__law_bent
  d__law_shuffled : At K mg "_law_shuffled" s__law_shuffled
  d__law_stretches : At K mg "_law_stretches" s__law_stretches
  d__law_told_right : At K mg "_law_told_right" s__law_told_right
  d__law_any_sizes_right : At K mg "_law_any_sizes_right" s__law_any_sizes_right
  d__law_chosen : At K mg "_law_chosen" s__law_chosen
  d__law_refused : At K mg "_law_refused" s__law_refused
  d_law : At K mg "law" s_law
  k_TooMany : ClsAt K mg (cs 0) "TooMany" "TooMany.__init__" "IndexError" "IndexError.__new__" "IndexError.__init__" bmI s_TooMany___init__ ["many"]
  one : ∀ i j, i < 1 → j < 1 → cs i = cs j → i = j
  i_ValueError : PySem.W.findCls K (.type "ValueError") (.type "type") "__init__" = some (.val (.builtin "ValueError.__init__"))
  i_IndexError : PySem.W.findCls K (.type "IndexError") (.type "type") "__init__" = some (.val (.builtin "IndexError.__init__"))
  i_KeyError : PySem.W.findCls K (.type "KeyError") (.type "type") "__init__" = some (.val (.builtin "KeyError.__init__"))
  i_LookupError : PySem.W.findCls K (.type "LookupError") (.type "type") "__init__" = some (.val (.builtin "LookupError.__init__"))
  c_MOST_CHOICES : ∃ t, mg "MOST_CHOICES" = some (.int 3003 t)
  b_len : mg "len" = none
  b_sum : mg "sum" = none
  b_range : mg "range" = none
  b_min : mg "min" = none
  b_max : mg "max" = none
  b_zip : mg "zip" = none
  b_enumerate : mg "enumerate" = none
  b_list : mg "list" = none
  b_repr : mg "repr" = none
  b_isinstance : mg "isinstance" = none
  b_set : mg "set" = none
  b_IndexError : mg "IndexError" = none
section
variable {P : Program} {w : World} {K : PySem.W.Frag} {mg : Str → Option Value} {base : Heap} {cs : Nat → Addr}
theorem hc_TooMany (T : Top K mg cs) : HasC P w K mg base (cs 0) "TooMany" ["self", "many"] (spI1 (cs 0) "many") := by
  obtain ⟨F, fd, iC, tI, f⟩ := T.k_TooMany.ini
  refine ⟨_, _, _, _, F, fd, T.k_TooMany.mg, T.k_TooMany.own, iC, tI, ?_, f.binds fun _ _ _ _ _ _ us hl => match us, hl with | [_, _], _ => rfl⟩
  refine f.ok sc_TooMany___init__ (fun vs H Q E h => ?_) (fun cdv A outer s H vs Q E hr h => ?_)
  · obtain ⟨a, v0, rfl, _⟩ := h
    rfl
  · have nd := sc_TooMany___init__.nd
    obtain ⟨a, v0, rfl, f0, ha, k⟩ := h
    refine ⟨_, (pss_cons (ps_expr (pe_ownInit (newId := "IndexError.__new__") (initId := "IndexError.__init__") (bm := bmI) (by rfl) T.b_IndexError (by decide +kernel) meta_I (by decide +kernel) T.i_IndexError (by decide +kernel) (pa_cons (pv 0) (pa_cons (pe_joined (.cons pe_str (.cons (pe_fmtN (pv 1)) .nil))) pa_nil))))
    (pss_one (ps_ownS (B := "IndexError") (newId := "IndexError.__new__") (initId := "IndexError.__init__") (bm := bmI) (pv 0) (pv 1)))), ?_⟩
    refine ⟨_, rfl, ?_⟩
    refine ⟨_, rfl, part (n := 0) (m := 100) (by decide) (by decide +kernel) (by decide), ?_⟩
    refine ⟨_, rfl, fld_fmt f0 fun yf0 hf0 => ?_⟩
    refine ⟨_, rfl, part (n := 100) (m := 100) (part2 (n := 0) (m := 100) (by decide) (by decide +kernel)) hf0 (by decide), ?_⟩
    refine ⟨a, cs 0, [_], rfl, by show 1 ≤ 1000; decide, T.k_TooMany.own, ha, ?_⟩
    exact ⟨_, rfl, _, rfl, a, cs 0, rfl, T.k_TooMany.own, T.k_TooMany.no _ (by simp), .inl ⟨ha, fun dx n ne => k dx n ne⟩⟩
end
/-! ### raising an exception of an own class, and catching it -/
section
variable {X : Cx}
/-- the end of C(..) without a field: the exception is let go -/
theorem mk_endN {pins : List (Addr × Obj)} {σ : L2.St} {H1 H2 : Hp} {Q : XK} {hp hp2 h2 : Heap} {g1 g2 : Array GenState} {d1 d2 : Drawn} {t1 t2 : Nat} {os1 os2 : OsState} {a C : Addr} (T : Raises X (.ref C)) (I1 : Inv X pins σ H1 ⟨hp, g1, d1, t1, os1⟩)
    (ha : hp.objs.size ≤ a) (k : ∀ b o, hp.get? b = some o → hp2.get? b = some o) (un : Un (frs X.stack) [] (upd H1 a (exo a C none)) H2 hp2 h2) (hok : HOk X.prog X.w H2 h2) (ho : os2 = os1) (hb : AllBare g2)
    (ea : H2 a = some (exo a C none)) (q : Q (.ref C) none (del H2 a)) : MkP X pins σ Q (.ref a) ⟨h2, g2, d2, t2, os2⟩ := by
  obtain ⟨t0, hoe⟩ := exo_at hok ea
  have hn : H1 a = none := I1.hok.fresh ha
  obtain ⟨G, g1', g2'⟩ := restrict h2 fun b => decide (b ≠ a)
  have gk : ∀ b, b ≠ a → G.get? b = h2.get? b := fun b hb => g1' b (decide_eq_true hb)
  have ge : G.get? a = none := g2' a (by simp)
  have nha : ∀ {b : Addr} {o : Obj}, hp.get? b = some o → b ≠ a := fun {b o} z => Nat.ne_of_lt (Nat.lt_of_lt_of_le (Heap.lt_size z) ha)
  have up : ∀ {b : Addr}, b ≠ a → H1 b = none → upd H1 a (exo a C none) b = none := fun {b} hb n => by
    rw [upd_ne hb]
    exact n
  have un2 : Un (frs X.stack) [] H1 (del H2 a) hp G := {
    keep := fun b o z n hf hx => by
      rw [gk b (nha z)]
      exact un.keep b o (k b o z) (up (nha z) n) hf hx
    slot := fun b o z n hf hx => by
      rw [gk b (nha z)]
      exact un.slot b o (k b o z) (up (nha z) n) hf hx
    free := fun b o z n hx => by
      rw [del_ne (nha z)]
      exact un.free b o (k b o z) (up (nha z) n) hx
    there := fun b o z hx => by
      rw [gk b (nha z)]
      exact un.there b o (k b o z) hx
    tups := fun b xs z => by
      rw [del_ne (ne_of_none z hn)]
      exact un.tups b xs (by rw [upd_ne (ne_of_none z hn)]; exact z)
    frzs := fun b o v z => by
      rw [del_ne (ne_of_none z hn)]
      exact un.frzs b o v (by rw [upd_ne (ne_of_none z hn)]; exact z)
    tbls := fun b ps z => by
      rw [del_ne (ne_of_none z hn)]
      exact un.tbls b ps (by rw [upd_ne (ne_of_none z hn)]; exact z) }
  have ok2 : HOk X.prog X.w (del H2 a) G := fun b o z => by
    have hba : b ≠ a := fun e => by
      rw [e, del_same] at z
      cases z
    rw [del_ne hba] at z
    have noa : ∀ {c : Addr}, H2 c = some (.own b) → c ≠ a := fun {c} hc => L2.at_ne ea hc exo_own
    exact (hok b o z).stay (fun c v hc y => by
        have hca : c ≠ a := by
          rcases hc with hc | hc
          · rw [hc]
            exact hba
          · exact noa hc
        rw [gk c hca]
        exact y)
      (fun c hc => by rw [del_ne (noa hc)]; exact hc) (fun c xs hc => by rw [del_ne (L2.at_ne ea hc exo_tup)]; exact hc)
  have J : Inv X pins σ (del H2 a) ⟨G, g2, d2, t2, os2⟩ := I1.call' (ch := []) ho un2 ok2 hb (fun b z => absurd z (by simp))
  exact ⟨a, _, _, ⟨G, g2, d2, t2, os2⟩, _, .ref C, none, rfl, J, fun b o z => by
    by_cases hba : b = a
    · rw [hba, ge] at z
      cases z
    · exact (gk b hba).symm.trans z, ge, hoe, ⟨rfl, rfl⟩, rfl, rfl, del_same, rfl, hb, T, q⟩
/-- C(e, ..), to be raised -/
def tMkC (C : Addr) (sp : Sp) (ta : TA) : L2.St → Hp → XK → Prop := fun σ H Q => ta σ H fun vs H1 => vs.length ≤ 1000 ∧ ∀ a, H1 a = none → sp (.ref a :: vs) (upd H1 a (exo a C none))
  (fun v H2 => v = .non ∧ ((H2 a = some (exo a C none) ∧ Q (.ref C) none (del H2 a)) ∨ ∃ (d : Addr) (fs : List (Str × V)), H2 a = some (exo a C (some d)) ∧ H2 d = some (exd d fs) ∧ H1 d = none ∧ Q (.ref C) (some d) (upd (del H2 a) d (.xd fs)))) (fun _ _ _ => False)
theorem mk_call {CX : CXT} {C fI : Addr} {k : Nat} {fd : FuncData} {ps : List Str} {sp : Sp} {B newId initId : String} {bm : List Value} (T : OwnC X.K C B newId initId bm) (iC : PySem.W.findIn X.K (.ref C) "__init__" = some (some (.ref fI))) (tI : PySem.W.typeIn X.K (.ref fI) = some (.type "function"))
    (F1 : FnOk X.prog X.w X.K X.mg X.base CX k fI fd ps sp) (hr : Room (k + 1) X.A) (hb : Binds X.K fd ps []) (hx : Passes CX X (fun _ _ _ => False)) {pins : List (Addr × Obj)} {σ : L2.St} {H : Hp} {s : Shared} {Q : XK} {us : List Value} {vs : List V}
    (I : Inv X pins σ H s) (r : Vals vs us) (few : vs.length ≤ 1000) (h : ∀ a, H a = none → sp (.ref a :: vs) (upd H a (exo a C none))
      (fun v H2 => v = .non ∧ ((H2 a = some (exo a C none) ∧ Q (.ref C) none (del H2 a)) ∨ ∃ (d : Addr) (fs : List (Str × V)), H2 a = some (exo a C (some d)) ∧ H2 d = some (exd d fs) ∧ H d = none ∧ Q (.ref C) (some d) (upd (del H2 a) d (.xd fs)))) (fun _ _ _ => False)) :
    wpAny (model X.prog X.w) X.A (call (.ref C) us) (MkP X pins σ Q) X.xe s := by
  obtain ⟨nm, q, N, bs, sn, sub, ab, col, dd, k0, k1, k2, k3, k5, o⟩ := T.cls
  obtain ⟨nB, Y⟩ := T.new
  obtain ⟨hp, g, dr, tk, os⟩ := s
  have lt : hp.objs.size ≤ hp.objs.size + 1 := Nat.le_succ _
  have no : H (hp.objs.size + 1) = none := I.hok.fresh lt
  have hq := h (hp.objs.size + 1) no
  have up : ∀ b u, hp.get? b = some u → ((hp.push (PySem.W.kdv_tup us)).push (bare C hp.objs.size)).get? b = some u := fun b u e => Heap.get?_push_of_some _ (Heap.get?_push_of_some _ e)
  have at2 : ((hp.push (PySem.W.kdv_tup us)).push (bare C hp.objs.size)).get? (hp.objs.size + 1) = some (bare C hp.objs.size) := by heap_get
  have I2 : Inv X pins σ (upd H (hp.objs.size + 1) (exo (hp.objs.size + 1) C none)) ⟨(hp.push (PySem.W.kdv_tup us)).push (bare C hp.objs.size), g, dr, tk, os⟩ :=
    I.laid (t' := tk) (a := hp.objs.size + 1) (o := exo (hp.objs.size + 1) C none) (h' := (hp.push (PySem.W.kdv_tup us)).push (bare C hp.objs.size)) up lt (exo_ok at2)
  have r2 : Vals (V.ref (hp.objs.size + 1) :: vs) (Value.ref (hp.objs.size + 1) :: us) := .cons rfl r
  have hl : (Value.ref (hp.objs.size + 1) :: us).length = ps.length := by
    rw [← r2.length]
    exact F1.len _ _ _ _ hq
  have fit : us.length ≤ sizeLine := by
    rw [← Paired.length r, sizeLine_eq]
    omega
  have hbd := hb ⟨(hp.push (PySem.W.kdv_tup us)).push (bare C hp.objs.size), g, dr, tk, os⟩ (Value.ref (hp.objs.size + 1) :: us) I2.kIn (by rw [List.append_nil]; exact hl)
  rw [List.append_nil] at hbd
  refine wpAny_call (call_made Y (I.kIn _ _ o) (PySem.W.looks_findIn I.kIn iC) (fun x => PySem.W.bind_fn I.kIn x tI) fit
    (codeAny_mono (F1.run _ X.stack _ _ ⟨Value.ref (hp.objs.size + 1) :: us, []⟩ (Value.ref (hp.objs.size + 1) :: us) _ _ (fun _ _ _ => False) (hr.make C us []) (I2.env0.make C us []) hbd r2 hq) fun r s2 z => ?_))
  cases r with
  | error er => exact hx pins σ _ _ er s2 I2 z
  | ok fl =>
    cases fl with
    | ret u =>
      obtain ⟨v, H2, os2, bare2, un2, hok2, rv, ev, q⟩ := z
      subst ev
      obtain ⟨h2, g2, d2, t2, os'⟩ := s2
      have R : Raises X (.ref C) := raises_own T.exC T.tyC
      rcases q with ⟨ea, q2⟩ | ⟨d, fs, ea, ed, hd1, q2⟩
      · exact ⟨rv, mk_endN R I lt up un2 hok2 os2 bare2 ea q2⟩
      · exact ⟨rv, mk_end R I lt up un2 hok2 os2 bare2 ea ed hd1 q2⟩
    | next => exact False.elim z
    | brk => exact False.elim z
    | cont => exact False.elim z
theorem pmk_hasC {C : Addr} {x : Str} {ps : List Str} {sp : Sp} {e : Expr} {es : List Expr} {t : TA} {p pos : Pos} (h : HasC X.prog X.w X.K X.mg X.base C x ps sp) (hr : Room 2 X.A) (hg : Gl X x) (ha : PA X (e :: es) t)
    (hdb : (x == ("__debug__" : Str)) = false := by decide) (he : starEach (e :: es) X.env = (false, eval e X.env) :: starEach es X.env := by rfl) (hpl : (backTo pos (starEach es X.env)).any (·.1) = false := by rfl) :
    PMk X (.Call (.Name x p) (e :: es) [] pos) (tMkC C sp t) := by
  obtain ⟨B, newId, initId, bm, F, fd, hm, T, iC, tI, f, b⟩ := h.ex
  intro pins s σ H Q I h
  refine wpAny_Call_Name_kw (ld_glob I hg hm ?_ hdb)
  refine PySem.W.callWith_K (h₀ := X.base) I.ok.mod.kin T.kC (thn (ha.run pos pins s σ H _ I h) fun us s1 ⟨vs, H1, I1, r1, hz, q1⟩ => ⟨I1.kIn, ?_⟩) he hpl
  exact mk_call T iC tI f hr b pass0 I1 r1 hz q1
theorem pmk_hasC0 {C : Addr} {x : Str} {ps : List Str} {sp : Sp} {p pos : Pos} (h : HasC X.prog X.w X.K X.mg X.base C x ps sp) (hr : Room 2 X.A) (hg : Gl X x) (hdb : (x == ("__debug__" : Str)) = false := by decide) :
    PMk X (.Call (.Name x p) [] [] pos) (tMkC C sp tNil) := by
  obtain ⟨B, newId, initId, bm, F, fd, hm, T, iC, tI, f, b⟩ := h.ex
  intro pins s σ H Q I h
  refine wpAny_Call_Name_kw (ld_glob I hg hm ?_ hdb)
  exact PySem.W.callWith_K0 I.kIn T.kC (mk_call (us := []) T iC tI f hr b pass0 I .nil h.1 h.2)
theorem del_upd {H : Hp} {a : Addr} {o : HO} (h : H a = none) : del (upd H a o) a = H := funext fun b => by
  by_cases e : b = a
  · rw [e, del_same, h]
  · rw [del_ne e, upd_ne e]
/-- C() without a field -/
theorem pmk_own0 {C : Addr} {x : Str} {p pos : Pos} (h : HasC X.prog X.w X.K X.mg X.base C x ["self"] (spI0 C)) (hr : Room 2 X.A) (hg : Gl X x) (hdb : (x == ("__debug__" : Str)) = false := by decide) :
    PMk X (.Call (.Name x p) [] [] pos) (fun _ H Q => Q (.ref C) none H) := fun pins s σ H Q I q =>
  pmk_hasC0 h hr hg hdb pins s σ H Q I ⟨by show 0 ≤ 1000; decide, fun a na => ⟨a, rfl, upd_same, rfl, .inl ⟨upd_same, by rw [del_upd na]; exact q⟩⟩⟩
/-! ### defs that may raise -/
structure HasX (P : Program) (w : World) (K : PySem.W.Frag) (mg : Str → Option Value) (base : Heap) (k : Nat) (x : Str) (ps : List Str) (sp : Sp) : Prop where
  ex : ∃ f fd, mg x = some (.ref f) ∧ PySem.W.keepIn K (.ref f) = true ∧ Binds K fd ps [] ∧ FnOk P w K mg base (L2.CX P w) k f fd ps sp
theorem has_ofX {P : Program} {w : World} {K : PySem.W.Frag} {mg : Str → Option Value} {base : Heap} {x : Str} {st : Stmt} {N ps : List Str} {k : Nat} {sp : Sp} (A : At K mg x st) (S : FnScope N ps (defScope st)) (B : BindsAll x st ps) (len : ∀ vs H Q E, sp vs H Q E → vs.length = ps.length)
    (hbody : ∀ (f : Addr) (cdv : Value) (A : Around) (outer : List Env) (s : Shared) (H : Hp) (vs : List V) (Q : VK) (E : XK), Room k (A.deeper (envOfC x (defScope st) s.heap.objs.size f cdv)) → sp vs H Q E →
      ∃ t, PSs (cxOf (L2.CX P w) P w K mg base N x (defScope st) f cdv A outer s H E) (defBody st) t ∧ t { nx := fun _ H' => Q .non H', rt := Q } (start N vs) H) : HasX P w K mg base (k + 1) x ps sp := by
  obtain ⟨f, fd, hm, F⟩ := A.ex
  exact ⟨f, fd, hm, F.kp, F.binds B, F.okX S len fun cdv A outer s H vs Q E hr h => hbody f cdv A outer s H vs Q E hr h⟩
theorem pe_hasX {W : WX} {k : Nat} {x : Str} {ps : List Str} {sp : Sp} {e : Expr} {es : List Expr} {t : TA} {p pos : Pos} (tk : Takes X W) (h : HasX X.prog X.w X.K X.mg X.base k x ps sp) (hr : Room k X.A) (hg : Gl X x) (ha : PA X (e :: es) t)
    (hdb : (x == ("__debug__" : Str)) = false := by decide) (he : starEach (e :: es) X.env = (false, eval e X.env) :: starEach es X.env := by rfl) (hpl : (backTo pos (starEach es X.env)).any (·.1) = false := by rfl) :
    PE X (.Call (.Name x p) (e :: es) [] pos) (tCallS sp (WE W) t) := by
  obtain ⟨f, fd, hm, hk, hb, F⟩ := h.ex
  exact pe_callS F hr hg hm hk hb (fun σ => L2.passAt tk σ) ha hdb he hpl
/-- here it lets nothing out -/
theorem pe_hasX0 {k : Nat} {x : Str} {ps : List Str} {sp : Sp} {e : Expr} {es : List Expr} {t : TA} {p pos : Pos} (h : HasX X.prog X.w X.K X.mg X.base k x ps sp) (hr : Room k X.A) (hg : Gl X x) (ha : PA X (e :: es) t)
    (hdb : (x == ("__debug__" : Str)) = false := by decide) (he : starEach (e :: es) X.env = (false, eval e X.env) :: starEach es X.env := by rfl) (hpl : (backTo pos (starEach es X.env)).any (·.1) = false := by rfl) :
    PE X (.Call (.Name x p) (e :: es) [] pos) (tCall sp [] E0 t) := by
  obtain ⟨f, fd, hm, hk, hb, F⟩ := h.ex
  exact pe_call F hr hg hm hk hb .nil L2.passL ha hdb he hpl
end
/-! ### isinstance of a caught one -/
/-- what its dict holds is known, where it has one -/
def XdAt (H : Hp) (d : Option Addr) : Prop := ∀ dx, d = some dx → ∃ fs, H dx = some (.xd fs)
theorem xd_none {H : Hp} : XdAt H none := fun dx z => by cases z
theorem caught_at {X : Cx} {pins pn : List (Addr × Obj)} {σ : L2.St} {H : Hp} {s : Shared} {a D : Addr} {d : Option Addr} {oe : Obj} (hz : Zc (.ref D) d oe) (hf : ∃ vs, oe.data = .fields vs) (I : Inv (X.suite a ((a, oe) :: pn)) pins σ H s) (hd : XdAt H d) :
    ∃ od, PySem.W.InstAt s.heap a oe D od := by
  obtain ⟨hget, _⟩ := I.pin (a, oe) (List.mem_append.mpr (.inl List.mem_cons_self))
  obtain ⟨vs, hv⟩ := hf
  have nc : PySem.W.notCls oe = true := by
    unfold PySem.W.notCls
    rw [hv] <;> rfl
  cases d with
  | none => exact ⟨none, hget, hz.1, nc, by rw [hz.2]; trivial⟩
  | some dx =>
    obtain ⟨fs, e⟩ := hd dx rfl
    have hx : ObjOk X.prog X.w H s.heap dx (.xd fs) := I.hok dx _ e
    obtain ⟨mA, hns, _⟩ := hx
    obtain ⟨od, ho, _⟩ := lookIn_ns hns
    exact ⟨some od, hget, hz.1, nc, by rw [hz.2]; exact ho⟩
def rIsX (K : PySem.W.Frag) (cls : Value) (d : Option Addr) (a : Addr) : List V → Hp → VK → Prop := fun xs H Q => ∃ (c : V) (cv : Value) (D : Addr) (b : Bool), xs = [.ref a, c] ∧ cls = .ref D ∧ ClsV c cv ∧ ExcC K D ∧ XdAt H d ∧ PySem.W.kitOne K (.ref D) cv = some b ∧ Q (.bl b) H
theorem call_isX {X : Cx} {a : Addr} {cls : Value} {d : Option Addr} {oe : Obj} {pn : List (Addr × Obj)} (hz : Zc cls d oe) (hf : ∃ vs, oe.data = .fields vs) : CallR (X.suite a ((a, oe) :: pn)) (.builtin "isinstance") (rIsX X.K cls d a) := by
  intro pins s σ H xs us Q I r h
  obtain ⟨c, cv, D, b, rfl, rfl, kc, T, hd, e, q⟩ := h
  obtain ⟨u1, u2, rfl, r1, r2⟩ := vals2 r
  have e2 := kc.eq r2
  subst e2
  cases r1
  obtain ⟨od, J⟩ := caught_at hz hf I hd
  exact PySem.W.kia_one (exo_kit T) I.kIn J e (fun z => nomatch z) fun tk => ⟨.bl b, H, I.tok tk, rfl, q⟩
def rIsXT (K : PySem.W.Frag) (cls : Value) (d : Option Addr) (a : Addr) : List V → Hp → VK → Prop := fun xs H Q => ∃ (tp : Addr) (cs : List V) (us : List Value) (D : Addr) (b : Bool), xs = [.ref a, .ref tp] ∧ cls = .ref D ∧ H tp = some (.tup cs) ∧ Paired ClsV cs us ∧ ExcC K D ∧ XdAt H d ∧ PySem.W.kitAny K (.ref D) us = some b ∧ Q (.bl b) H
theorem call_isXT {X : Cx} {a : Addr} {cls : Value} {d : Option Addr} {oe : Obj} {pn : List (Addr × Obj)} (hz : Zc cls d oe) (hf : ∃ vs, oe.data = .fields vs) : CallR (X.suite a ((a, oe) :: pn)) (.builtin "isinstance") (rIsXT X.K cls d a) := by
  intro pins s σ H xs us Q I r h
  obtain ⟨tp, cs, ws, D, b, rfl, rfl, ht, kc, T, hd, e, q⟩ := h
  obtain ⟨u1, u2, rfl, r1, r2⟩ := vals2 r
  cases r1
  cases r2
  obtain ⟨od, J⟩ := caught_at hz hf I hd
  have hx : ObjOk X.prog X.w H s.heap tp (.tup cs) := I.hok tp _ ht
  obtain ⟨_, vs, rv, o, ho, h2, n, h3⟩ := hx
  obtain ⟨oc, od', oda, osl⟩ := o
  dsimp only at h2 h3
  subst h2 h3
  have e3 := ClsV.all kc rv
  subst e3
  exact PySem.W.kia_tup (exo_kit T) I.kIn J ho e (fun z => nomatch z) fun tk => ⟨.bl b, H, I.tok tk, rfl, q⟩
/-- the class that a clause names, own -/
theorem names_own {X : Cx} {x : Str} {C : Addr} (m : X.mg x = some (.ref C)) (hg : Gl X x) (hd : (x == ("__debug__" : Str)) = false := by decide) : Names X x (.ref C) := ⟨hg, hd, .inl m⟩
/-- one own class in a clause that names another -/
theorem exm_two {K : PySem.W.Frag} {mg mg' : Str → Option Value} {C C' : Addr} {x qual x' qual' : Str} {B newId initId B' newId' initId' : String} {bm bm' : List Value} {st st' : Stmt} {fs fs' : List Str} (T : ClsAt K mg C x qual B newId initId bm st fs) (T' : ClsAt K mg' C' x' qual' B' newId' initId' bm' st' fs')
    (flat : bm.contains (.ref C') = false) : PySem.W.exmOne K (.ref C) (.ref C') = some (decide (C = C')) := by
  refine PySem.W.exm_ref T'.ex.hs T'.ex.hd T'.own.tyC ?_
  obtain ⟨cd, hc, hm, _⟩ := T.own.clsIn
  show PySem.W.mroIn K C (.ref C') = _
  unfold PySem.W.mroIn
  rw [hc, Option.bind_some, hm]
  show some ((Value.ref C :: bm).contains (.ref C')) = _
  rw [List.contains_cons, flat, Bool.or_false]
  congr 1
  by_cases h : C = C'
  · subst h
    rw [decide_eq_true rfl]
    exact beq_self_eq_true _
  · rw [decide_eq_false h]
    exact Bool.eq_false_iff.mpr fun z => h (Value.ref.inj (beq_iff_eq.mp z)).symm
theorem kit_nil {K : PySem.W.Frag} {t : Value} : PySem.W.kitAny K t [] = some false := rfl
theorem kit_no {K : PySem.W.Frag} {t c : Value} {r : List Value} (h : PySem.W.kitOne K t c = some false) (k : PySem.W.kitAny K t r = some false) : PySem.W.kitAny K t (c :: r) = some false := by
  unfold PySem.W.kitAny
  rw [h]
  exact k
theorem kit_other {K : PySem.W.Frag} {mg mg' : Str → Option Value} {C C' : Addr} {x qual x' qual' : Str} {B newId initId B' newId' initId' : String} {bm bm' : List Value} {st st' : Stmt} {fs fs' : List Str} (T : ClsAt K mg C x qual B newId initId bm st fs) (T' : ClsAt K mg' C' x' qual' B' newId' initId' bm' st' fs')
    (flat : bm.contains (.ref C') = false) (ne : C ≠ C') : PySem.W.kitOne K (.ref C) (.ref C') = some false := by
  rw [kit_two T T' flat, decide_eq_false ne]
theorem exm_self {K : PySem.W.Frag} {mg : Str → Option Value} {C : Addr} {x qual : Str} {B newId initId : String} {bm : List Value} {st : Stmt} {fs : List Str} (T : ClsAt K mg C x qual B newId initId bm st fs) (flat : bm.contains (.ref C) = false) : PySem.W.exmOne K (.ref C) (.ref C) = some true := by
  rw [exm_two T T flat, decide_eq_true rfl]

/-! ### exceptions kept past their suite -/
/-- an exception object of the class C that was caught -/
def exk (a C : Addr) (d : Option Addr) : HO := .ext fun h => ∃ (oe : Obj) (vs : Array Value), h.get? a = some oe ∧ oe.cls = .ref C ∧ oe.dict = d ∧ oe.data = .fields vs
theorem exk_ok {P : Program} {w : World} {H : Hp} {h : Heap} {a C : Addr} {d : Option Addr} {oe : Obj} {vs : Array Value} (e : h.get? a = some oe) (c : oe.cls = .ref C) (dd : oe.dict = d) (f : oe.data = .fields vs) : ObjOk P w H h a (exk a C d) :=
  ⟨⟨oe, vs, e, c, dd, f⟩, ⟨oe, e⟩, fun _ _ ⟨o, v, q, r⟩ k => ⟨o, v, k o q, r⟩⟩
theorem exk_at {P : Program} {w : World} {H : Hp} {h : Heap} {a C : Addr} {d : Option Addr} (hok : HOk P w H h) (he : H a = some (exk a C d)) : ∃ (oe : Obj) (vs : Array Value), h.get? a = some oe ∧ oe.cls = .ref C ∧ oe.dict = d ∧ oe.data = .fields vs := by
  have x : ObjOk P w H h a (.ext fun h => ∃ (oe : Obj) (vs : Array Value), h.get? a = some oe ∧ oe.cls = .ref C ∧ oe.dict = d ∧ oe.data = .fields vs) := hok a _ he
  exact x.1
section
variable {X : Cx} {pins : List (Addr × Obj)} {σ σ' : L2.St} {H H' : Hp} {s sI : Shared}
/-- an object that came to be while we ran is told from now on -/
theorem inv_track (J : Inv X pins σ' H' sI) {a : Addr} {o : HO} (hI : sI.heap.get? a = none) (I : Inv X pins σ H s) (ha : H a = none) (new : ObjOk X.prog X.w (upd H a o) s.heap a o) : Inv X pins σ (upd H a o) s := by
  have ne : ∀ b u, sI.heap.get? b = some u → b ≠ a := fun b u e z => by
    rw [z, hI] at e
    cases e
  refine ⟨I.ok, I.os, I.bare, ⟨I.base.keep, I.base.slot, fun b u e n hx => ?_, I.base.there, fun b xs e => ?_, fun b u v e => ?_, fun b ps e => ?_⟩, I.loc, I.cell, ?_, fun x c e => ?_, fun p hp => ?_, fun b u e => ?_, I.len⟩
  · obtain ⟨u', q⟩ := J.base.there b u e hx
    rw [upd_ne (ne b u' q)]
    exact I.base.free b u e n hx
  · have q := I.base.tups b xs e
    rw [upd_ne (ne_of_none q ha)]
    exact q
  · have q := I.base.frzs b u v e
    rw [upd_ne (ne_of_none q ha)]
    exact q
  · obtain ⟨m, q⟩ := I.base.tbls b ps e
    exact ⟨m, by rw [upd_ne (ne_of_none q ha)]; exact q⟩
  · obtain ⟨m, ⟨u, es, ep, hu, r⟩, hl⟩ := J.loc
    rw [upd_ne (ne _ u hu)]
    exact I.free
  · obtain ⟨v, u, hu, _⟩ := J.cell x c e
    rw [upd_ne (ne c u hu)]
    exact I.freeC x c e
  · obtain ⟨h1, h2, h3⟩ := I.pin p hp
    obtain ⟨g1, _⟩ := J.pin p hp
    exact ⟨h1, by rw [upd_ne (ne _ _ g1)]; exact h2, h3⟩
  · by_cases hb : b = a
    · subst hb
      rw [upd_same] at e
      cases e
      exact new
    · rw [upd_ne hb] at e
      exact (I.hok b u e).stay (fun c v _ q => q) (fun c q => by rw [upd_ne (ne_of_none q ha)]; exact q) fun c xs q => by rw [upd_ne (ne_of_none q ha)]; exact q
end
/-- what the clause 'except x as n' wishes of an exception of the body that is kept: behind the suite its object is told -/
def wKeep (K : PySem.W.Frag) (c : Value) (i : Nat) (ts : Addr → Value → Option Addr → TS) (Wout : WX) (D : Ends) : WX := fun cls d σ H =>
  ∃ b, PySem.W.exmOne K cls c = some b ∧ (b = true → ∀ a, H a = none → ∃ C, cls = .ref C ∧ ts a cls d { nx := fun σ' H' => H' a = none ∧ D.nx (σ'.set i none) (upd H' a (exk a C d)), rt := D.rt, bk := fun σ' H' => D.bk (σ'.set i none) H', ct := fun σ' H' => D.ct (σ'.set i none) H' } (σ.set i (some (.ref a))) H) ∧
    (b = false → Wout cls d σ H)
section
variable {X : Cx} {x n : Str} {c : Value} {i : Nat} {body suite : List Stmt} {b₀ : Stmt} {np pos pos' : Pos} {tb : WX → TS} {ts : Addr → Value → Option Addr → TS} {Wout : WX}
theorem ps_try_keep (hs : X.stack = X.env :: X.outer) (hf : X.env.frame = some X.env.locals) (hN : X.N.Nodup) (hi : X.N[i]? = some n) (hln : X.env.kindOf n = some .local) (hc : Names X x c) (tk : Takes X Wout)
    (hb : ∀ (W : WX) (pn : List (Addr × Obj)) (xe : Value → Shared → Prop), Takes (X.tr pn xe) W → PassesOwn (model X.prog X.w) X.A X.env xe → PSs (X.tr pn xe) body (tb W))
    (hsu : ∀ (a : Addr) (oe : Obj) (cls : Value) (d : Option Addr) (pn : List (Addr × Obj)), Zc cls d oe → (∃ vs, oe.data = .fields vs) → PSs (X.suite a ((a, oe) :: pn)) (b₀ :: suite) (ts a cls d)) :
    PS X (.Try body [.ExceptHandler (some (.Name x np)) (some n) (b₀ :: suite) pos'] [] [] pos) (fun D σ H => tb (wKeep X.K c i ts Wout D) D σ H) := by
  refine ⟨fun pins s σ H D I h => ?_⟩
  have ok := I.ok
  have hfr : X.A.frames = some (X.env :: X.outer) := by rw [ok.frames, hs]
  have hloc : Loc X.env.scope n := .inl hln
  refine wpAny_Try_except ?_
  refine wpAny_mono ((hb (wKeep X.K c i ts Wout D) (X.pn ++ pins) (fun e s₁ => wpAny (model X.prog X.w) X.A (noteFrame e X.env) (fun _ s₂ => wpAny (model X.prog X.w) X.A (setFlight e none) (fun _ s₃ =>
    wpAny (model X.prog X.w) X.A (handleBy e X.env [.ExceptHandler (some (.Name x np)) (some n) (b₀ :: suite) pos']) (SP X pins D) X.xe s₃) X.xe s₂) X.xe s₁) (fun u s' xx => ?_) PassesOwn.looking).run [] s σ H D (I.toTry _) h) (fun f s1 hsp => ?_) (fun e s1 he => he)
  · obtain ⟨a, B, sI, pins', σ', H', cls, d, rfl, J', nb, up, sky, na, os, ag, b, hb1, hyes, hno⟩ := xx
    have J : Inv X pins σ' H' sI := J'.ofTry ok
    have sky' : Sky B (X.env :: X.outer) a (Zc cls d) X.env.locals s'.heap := by rw [← hs]; exact sky
    show wpAny (model X.prog X.w) X.A (noteFrame (.ref a) X.env) _ _ _
    refine Sky.land Zc.steady hfr hf sky' fun h3 fl3 up3 => ?_
    have J3 : Inv X pins σ' H' { s' with heap := h3 } := J.landed nb fl3.1 (up.trans up3) os ag
    obtain ⟨oe3, vs3, he3, hz3, hd3⟩ := fl3.there
    have notFr : ∀ {h : Heap} {o : Obj} {vs : Array Value}, h.FunFrames B (X.env :: X.outer) → h.get? a = some o → o.data = .fields vs → a ∉ frs (X.env :: X.outer) := fun {h o vs} ff e dd hm => by
      obtain ⟨_, o', e', hnf⟩ := ff.mem hm
      rw [e] at e'; cases e'
      exact hnf _ dd
    have nfr := notFr fl3.2.2.1 he3 hd3
    have nL : a ≠ X.env.locals := fun z => nfr (List.mem_filterMap.mpr ⟨X.env, List.mem_cons_self, by rw [hf, z]⟩)
    have nF : a ∉ X.fs := fun hm => by
      obtain ⟨e, he, q⟩ := List.mem_filterMap.mp hm
      exact nfr (List.mem_filterMap.mpr ⟨e, List.mem_cons_of_mem _ he, q⟩)
    have nI : sI.heap.get? a = none := by
      cases e : sI.heap.get? a with
      | none => rfl
      | some o =>
        have z := nb a o e (by rw [hs]; exact nfr)
        have y : B.get? a = none := fl3.2.1
        rw [y] at z
        cases z
    have S3 := J3.suite he3 hd3 na nL nF
    refine wpAny_handleBy_cons (codeAny_handlers_test ?_) (by intro q; cases q)
    have LT : PySem.W.Looks (model X.prog X.w) h3 (typeOf (.ref a)) cls := fun A Q E s k q => wpAny_typeOf_ref (k _ _ he3) (by rw [hz3.1]; exact q)
    have LM := PySem.W.exm_one (M := model X.prog X.w) (J3.kIn) LT hb1
    have test : ∀ {Q : Value → Shared → Prop} {E : Value → Shared → Prop}, Q c { s' with heap := h3 } → wpAny (model X.prog X.w) (X.A.mark (some (.ref a))) (eval (.Name x np) X.env) Q E { s' with heap := h3 } := fun {Q E} q => by
      obtain ⟨hg, hdbg, hm | ⟨hm, hv, hnn⟩⟩ := hc
      · exact ld_glob (X := X.suite a ((a, oe3) :: (X.pn ++ pins))) S3 hg hm q hdbg
      · exact ld_blt (X := X.suite a ((a, oe3) :: (X.pn ++ pins))) S3 hg hm hv q hnn hdbg
    refine test (LM.here ?_)
    cases b with
    | true =>
      obtain ⟨C, ec, hyes⟩ := hyes rfl a na
      refine codeAny_handlers_suite_as ?_
      refine HandSPX.lands_againZ fl3 fun h4 fl4 up4 => ?_
      have J4 : Inv X pins σ' H' { s' with heap := h4 } := J.landed nb fl4.1 ((up.trans up3).trans up4) os ag
      obtain ⟨oe4, vs4, he4, hz4, hd4⟩ := fl4.there
      have S4 := J4.suite he4 hd4 na nL nF
      refine store_ok (X := X.suite a ((a, oe4) :: (X.pn ++ pins))) (v := .ref a) S4 hN hi hloc rfl (fun s5 S5 => ?_) (.inr hln)
      refine wpAny_mono ((hsu a oe4 cls d (X.pn ++ pins) hz4 ⟨_, hd4⟩).run [] s5 _ H' _ S5 hyes) (fun f s6 hsp => ?_) (fun _ _ z => False.elim z)
      have end_ : ∀ {σ6 : L2.St} {H6 : Hp} {Q : Shared → Prop}, Inv (X.suite a ((a, oe4) :: (X.pn ++ pins))) [] σ6 H6 s6 → (∀ s7, Inv X pins (σ6.set i none) H6 s7 → Q s7) →
          wpAny (model X.prog X.w) X.A (do bindName X.env n .none; unbindBehindTheSuite X.env n pos') (fun _ s7 => Q s7) X.xe s6 := fun {σ6 H6 Q} S6 hq => gone_ok (S6.unsuite ok) hN hi hln hq
      cases f with
      | next =>
        obtain ⟨σ6, H6, S6, n6, q6⟩ := hsp
        obtain ⟨he6, _⟩ := S6.pin (a, oe4) (List.mem_append_left _ List.mem_cons_self)
        have J6 := inv_track J nI (S6.unsuite ok) n6 (exk_ok (C := C) (d := d) he6 (by rw [← ec]; exact hz4.1) hz4.2 hd4)
        exact gone_ok J6 hN hi hln fun s7 J7 => ⟨_, _, J7, q6⟩
      | brk =>
        obtain ⟨σ6, H6, S6, q6⟩ := hsp
        exact end_ S6 fun s7 J7 => ⟨_, _, J7, q6⟩
      | cont =>
        obtain ⟨σ6, H6, S6, q6⟩ := hsp
        exact end_ S6 fun s7 J7 => ⟨_, _, J7, q6⟩
      | ret u =>
        obtain ⟨v6, σ6, H6, S6, r6, q6⟩ := hsp
        exact end_ S6 fun s7 J7 => ⟨_, _, _, J7, r6, q6⟩
    | false =>
      show wpAny _ X.A (handleBy (.ref a) X.env []) _ _ _
      refine wpAny_handleBy_nil ?_
      obtain ⟨k1, k2, k3, oe, vs, T, oT, ts', he, hz, hd, h1, hr⟩ := id fl3
      unfold PySem.passOn
      refine wpAny_bind (wpAny_field he hd h1 ?_)
      rw [if_neg (show ¬ ((Value.ref T == Value.none) = true) from by simp)]
      have fin : wpAny (model X.prog X.w) X.A (setFlight (.ref a) X.env.frame) (fun _ s4 => wpAny (model X.prog X.w) X.A (throw (.ref a) : Sem Flow) (SP X pins D) X.xe s4) X.xe { s' with heap := h3 } := by
        rw [hf]
        refine HandSPX.setFlight_upZ fl3 fun h4 hh4 up4 => wpAny_throw (tk _ _ ?_)
        exact ⟨a, B, sI, pins, σ', H', cls, d, rfl, J, nb, (up.trans up3).trans up4, .inr (.inr (by rw [hs]; exact hh4)), na, os, ag, hno rfl⟩
      first
        | exact wpAny_bind (wpAny_pure (wpAny_bind fin))
        | exact wpAny_bind fin
  · cases f with
    | next =>
      obtain ⟨σ', H', J', q⟩ := hsp
      exact wpAny_execs_nil ⟨σ', H', J'.ofTry ok, q⟩
    | brk =>
      obtain ⟨σ', H', J', q⟩ := hsp
      exact ⟨σ', H', J'.ofTry ok, q⟩
    | cont =>
      obtain ⟨σ', H', J', q⟩ := hsp
      exact ⟨σ', H', J'.ofTry ok, q⟩
    | ret u =>
      obtain ⟨v, σ', H', J', r, q⟩ := hsp
      exact ⟨v, σ', H', J'.ofTry ok, r, q⟩
/-- k.f, k such an exception -/
def tKeptF (K : PySem.W.Frag) (f : Str) (te : TE) : TE := fun σ H Q => te σ H fun x H1 => ∃ (a C d : Addr) (fs : List (Str × V)) (v : V), x = .ref a ∧ XfC K C ∧ PySem.W.findIn K (.ref C) f = some none ∧ H1 a = some (exk a C (some d)) ∧ H1 d = some (.xd fs) ∧ fs.lookup f = some v ∧ Q v H1
theorem pe_keptF {e : Expr} {te : TE} {pos : Pos} {n : Str} (he : PE X e te) (hb : attributeBase e n X.env (eval e X.env) = eval e X.env := by rfl) : PE X (.Attribute e n pos) (tKeptF X.K n te) := by
  refine ⟨fun pins s σ H Q I h => ?_⟩
  refine attr_of hb (thn (he.run pins s σ H _ I h) fun u s1 hh => ?_)
  obtain ⟨x, H1, I1, rx, a, C, d, fs, v, ex, T, no, ea, ed, l, q⟩ := hh
  subst ex
  obtain rfl : u = Value.ref a := rx
  obtain ⟨oe, vs, ho, oc, od', of'⟩ := exk_at I1.hok ea
  have hx : ObjOk X.prog X.w H1 s1.heap d (.xd fs) := I1.hok d _ ed
  obtain ⟨mA, hns, rel⟩ := hx
  obtain ⟨od, hoD, hl⟩ := lookIn_ns hns
  obtain ⟨u, hu, ru⟩ := RelO.some_of (v := v) (o := mA n) (by rw [← l]; exact rel n)
  have J : PySem.W.InstAt s1.heap a oe C (some od) := ⟨ho, oc, by unfold PySem.W.notCls; rw [of'] <;> rfl, by rw [od']; exact hoD⟩
  exact HandSPX.exc_get I1.kIn J T.ga T.gg T.exC (PySem.W.findObj_own T.hdC no rfl (by rw [hl, hu])) (handed_of ru) ⟨v, H1, I1.tok _, ru, q⟩
/-- isinstance(k, c), k such an exception -/
def rIsK (K : PySem.W.Frag) : List V → Hp → VK → Prop := fun xs H Q => ∃ (a C : Addr) (d : Option Addr) (c : V) (cv : Value) (b : Bool), xs = [.ref a, c] ∧ ClsV c cv ∧ ExcC K C ∧ H a = some (exk a C d) ∧ (∀ dx, d = some dx → ∃ fs, H dx = some (.xd fs)) ∧ PySem.W.kitOne K (.ref C) cv = some b ∧ Q (.bl b) H
theorem call_isK : CallR X (.builtin "isinstance") (rIsK X.K) := by
  intro pins s σ H xs us Q I r h
  obtain ⟨a, C, d, c, cv, b, rfl, kc, T, ea, ed, e, q⟩ := h
  obtain ⟨u1, u2, rfl, r1, r2⟩ := vals2 r
  have e2 := kc.eq r2
  subst e2
  cases r1
  obtain ⟨oe, vs, ho, oc, od', of'⟩ := exk_at I.hok ea
  have J : ∃ od, PySem.W.InstAt s.heap a oe C od := by
    cases d with
    | none => exact ⟨none, ho, oc, by unfold PySem.W.notCls; rw [of'] <;> rfl, by rw [od']; trivial⟩
    | some dx =>
      obtain ⟨fs, hd⟩ := ed dx rfl
      have hx : ObjOk X.prog X.w H s.heap dx (.xd fs) := I.hok dx _ hd
      obtain ⟨mA, hns, rel⟩ := hx
      obtain ⟨od, hoD, hl⟩ := lookIn_ns hns
      exact ⟨some od, ho, oc, by unfold PySem.W.notCls; rw [of'] <;> rfl, by rw [od']; exact hoD⟩
  obtain ⟨od, J⟩ := J
  exact PySem.W.kia_one (exo_kit T) I.kIn J e (fun z => nomatch z) fun tk => ⟨.bl b, H, I.tok tk, rfl, q⟩
end

/-! ### the draws -/
def spDraw : Sp := fun vs H Q _ => ∃ (t c : Addr) (m : Int) (n : Nat), vs = [.ref t, .int m] ∧ Tape H t c n ∧ n < 2 ^ 40 ∧ 0 < m ∧ m < 2 ^ 8000 ∧
  ∀ (H' : Hp) (r : Int), 0 ≤ r → r < m → Tape H' t c (n + 1) → Kp t H H' → Q (.int r) H'
theorem cell_at {ns : List Int} {spot : Int} (h0 : 0 < ns.length) (hs : 0 ≤ spot) : ∃ x, atI (ns.map V.int) (spot % ((ns.map V.int).length : Int)) = some (.int x) := by
  rw [List.length_map]
  have hp : (0 : Int) < (ns.length : Int) := by omega
  have h1 := Int.emod_nonneg spot (show (ns.length : Int) ≠ 0 by omega)
  have h2 := Int.emod_lt_of_pos spot hp
  have h3 : (spot % (ns.length : Int)).toNat < ns.length := by omega
  refine ⟨ns[(spot % (ns.length : Int)).toNat], at_of (j := (spot % (ns.length : Int)).toNat) (by omega) ?_⟩
  rw [List.getElem?_map, List.getElem?_eq_getElem h3]
  rfl
theorem log2_small {m : Int} (h0 : 0 < m) (h : m < 2 ^ 8000) : m.natAbs.log2 < 9000 := by
  have h2 : m.natAbs < 2 ^ 8000 := by
    have e : ((2 ^ 8000 : Nat) : Int) = (2 : Int) ^ 8000 := by rw [Int.natCast_pow]; rfl
    omega
  exact Nat.lt_of_lt_of_le (PySem.Flt.log2_lt_of (by decide) h2) (by decide)
theorem pow_ok {x spot : Int} {n : Nat} (h0 : 0 ≤ spot) (h1 : spot ≤ n) (h2 : n < 2 ^ 40) : CPow (x % 2147483647 + 69621 * spot + 48271) 17 := by
  have a := Int.emod_nonneg x (show (2147483647 : Int) ≠ 0 by decide)
  have b := Int.emod_lt_of_pos x (show (0 : Int) < 2147483647 by decide)
  refine ⟨by decide, by decide, ?_⟩
  have e : (2 : Nat) ^ 64 = 18446744073709551616 := by decide
  rw [e]
  omega
section
variable {P : Program} {w : World} {K : PySem.W.Frag} {mg : Str → Option Value} {base : Heap}
theorem has_draw {cs : Nat → Addr} (T : Top K mg cs) : Has P w K mg base 1 "_law_draw" ["_law_tape", "_law_many"] spDraw := by
  refine has_of T.d__law_draw sc__law_draw bd__law_draw (fun vs H Q E h => ?_) (fun f cdv A outer s H vs Q E hr h => ?_)
  · obtain ⟨t, c, m, n, rfl, _⟩ := h
    rfl
  · have hu := hu_of hr
    have nd := sc__law_draw.nd
    obtain ⟨t, c, m, n, rfl, ⟨ns, spot, left, tp, hs⟩, hn, hm, hm2, k⟩ := h
    refine ⟨_, (C8.pss_cut (ps_if (pt_cmpR op_lt (pe_dget hu (pv 0) pe_str (fun _ _ => rfl)) (pv 1) (nomark _)) (pss_cons (ps_par (i := 2) (j := 3) (by rfl) nd rfl rfl (by decide) rfl rfl (pa_cons (pe_dget hu (pv 0) pe_str (fun _ _ => rfl)) (pa_cons (pe_callB call_len_seq (by rfl) T.b_len (by decide +kernel) (pa_cons (pe_dget hu (pv 0) pe_str (fun _ _ => rfl)) pa_nil)) pa_nil)) (by rfl))
    (pss_cons (ps_asg (pe_tup (pa_cons (pe_ix ix_list (pe_dget hu (pv 0) pe_str (fun _ _ => rfl)) (pe_op op_mod (pv 2) (pv 3)) (fun _ _ => rfl)) (pa_cons (pe_op op_add (pv 2) pe_int) pa_nil))) (pg_tup (by rfl) (pgs_cons (pg_name (i := 4) nd rfl (.inl rfl)) (pgs_cons (pg_sub (pv 0) pe_str (set_dict hu)) pgs_nil))))
    (pss_cons (ps_dput hu (pv 0) pe_str (pe_op op_mod (pe_op op_pow (pe_op op_add (pe_op op_add (pe_op op_mod (pv 4) pe_int) (pe_op op_mul pe_int (pv 2))) pe_int) pe_int) (pe_op op_add (pe_op op_pow pe_int pe_int) pe_int)) rfl)
    (pss_one (ps_if (PW.pt (pw_and (pt_cmpR op_ge (pv 4) (pe_op op_pow pe_int pe_int) (nomark _)) (pw_and1 (pt_cmpR op_lt (pv 2) (pv 3) (nomark _))))) (pss_one (ps_dput hu (pv 0) pe_str (pe_op op_sub (pv 4) (pe_op op_pow pe_int pe_int)) rfl)) pss_nil))))) pss_nil)
    (pss_cons (ps_asg (pe_tup (pa_cons (pe_op op_mod (pe_dget hu (pv 0) pe_str (fun _ _ => rfl)) (pv 1)) (pa_cons (pe_op op_fdivW (pe_dget hu (pv 0) pe_str (fun _ _ => rfl)) (pv 1)) pa_nil))) (pg_tup (by rfl) (pgs_cons (pg_name (i := 5) nd rfl (.inl rfl)) (pgs_cons (pg_sub (pv 0) pe_str (set_dict hu)) pgs_nil))))
    (pss_one (ps_ret (pv 5))))), ?_⟩
    refine ⟨fun σ' H' => ∃ (v2 v3 v4 v5 : Option V) (spot' left' : Int), σ' = [some (.ref t), some (.int m), v2, v3, v4, v5] ∧ TapeC H' t c ns spot' left' ∧ spot' ≤ ((n + 1 : Nat) : Int) ∧ Kp t H H', ?_, ?_⟩
    · refine ⟨_, rfl, t, _, rfl, dg_left tp.d, _, rfl, _, _, rfl, rfl, _, rfl, ite2 (fun _ => ?_) (fun _ => ?_)⟩
      · obtain ⟨x, hx⟩ := cell_at tp.ne tp.s0
        refine ⟨_, rfl, t, _, rfl, dg_spot tp.d, _, rfl, t, _, rfl, dg_cells tp.d, c, _, rfl, .inl (SqL.of tp.l), _, _, rfl, ?_⟩
        refine ⟨_, rfl, t, _, rfl, dg_cells tp.d, _, rfl, _, rfl, _, _, rfl, rfl, ?_, c, _, _, _, rfl, rfl, SqL.of tp.l, hx, _, rfl, _, _, rfl, rfl, by show 2 ≤ sizeLine; decide, fun p hp => ?_⟩
        · show (0 : Int) < ((ns.map V.int).length : Int)
          rw [List.length_map]
          have := tp.ne
          omega
        have h1 : (upd H p (.tup [.int x, .int (spot + 1)])) t = some (.dK (tk c spot left)) := by
          rw [upd_ne (ne_of_none tp.d hp)]
          exact tp.d
        refine ⟨p, _, rfl, SqT.of upd_same, rfl, _, _, rfl, _, _, rfl, _, rfl, t, _, rfl, dp_spot _ h1, rfl, ?_⟩
        have c1 : (upd (upd H p (.tup [.int x, .int (spot + 1)])) t (.dK (tk c (spot + 1) left))) c = some (.lst (ns.map V.int)) := by
          rw [upd_ne (show c ≠ t from ne_of tp.l tp.d (by intro z; cases z)), upd_ne (ne_of_none tp.l hp)]
          exact tp.l
        refine ⟨_, rfl, _, _, rfl, rfl, by show (0 : Int) < 2147483647; decide, _, rfl, _, _, rfl, rfl, .inl ⟨by decide, by decide⟩, _, _, rfl, rfl, _, _, rfl, rfl, _, _, rfl, rfl, pow_ok tp.s0 hs hn, _, _, rfl, rfl, ⟨by decide, by decide, by decide⟩, _, _, rfl, rfl, _, _, rfl, rfl, ?_, _, rfl, t, _, rfl, dp_left _ upd_same, ?_⟩
        · show (0 : Int) < 10 ^ (50 : Int).toNat + 151
          decide
        have kp : ∀ z, Kp t H (upd (upd (upd H p (.tup [.int x, .int (spot + 1)])) t (.dK (tk c (spot + 1) left))) t (.dK (tk c (spot + 1) z))) := fun z => ((Kp.new hp).trans Kp.at).trans Kp.at
        have tq : ∀ z, 0 ≤ z → TapeC (upd (upd (upd H p (.tup [.int x, .int (spot + 1)])) t (.dK (tk c (spot + 1) left))) t (.dK (tk c (spot + 1) z))) t c ns (spot + 1) z := fun z hz =>
          ⟨upd_same, by rw [upd_ne (show c ≠ t from ne_of tp.l tp.d (by intro z; cases z))]; exact c1, tp.ne, tp.lt, by have := tp.s0; omega, hz⟩
        have h0 : ∀ a : Int, 0 ≤ a % (10 ^ (50 : Int).toNat + 151) := fun a => Int.emod_nonneg _ (by decide)
        refine ⟨_, rfl, _, _, rfl, rfl, ⟨by decide, by decide, by decide⟩, _, _, rfl, rfl, _, rfl, ite2 (fun hc => ?_) (fun _ => iteF ?_)⟩
        · refine ⟨_, rfl, _, rfl, _, _, rfl, rfl, _, rfl, ite2 (fun _ => ?_) (fun _ => ?_)⟩
          · refine ⟨_, rfl, _, _, rfl, rfl, ⟨by decide, by decide, by decide⟩, _, _, rfl, rfl, _, rfl, t, _, rfl, dp_left _ upd_same, ?_⟩
            have hz : (10 : Int) ^ (18 : Int).toNat ≤ x := of_decide_eq_true hc
            exact ⟨_, _, _, _, spot + 1, x - 10 ^ (18 : Int).toNat, rfl, ⟨upd_same, by rw [upd_ne (show c ≠ t from ne_of tp.l tp.d (by intro z; cases z))]; exact (tq _ (h0 _)).l, tp.ne, tp.lt, by have := tp.s0; omega, by omega⟩, by omega, (kp _).trans Kp.at⟩
          · exact ⟨_, _, _, _, _, _, rfl, tq _ (h0 _), by omega, kp _⟩
        · exact ⟨_, _, _, _, _, _, rfl, tq _ (h0 _), by omega, kp _⟩
      · exact ⟨_, _, _, _, _, _, rfl, tp, by omega, Kp.refl _⟩
    · rintro σ' H' ⟨v2, v3, v4, v5, spot', left', rfl, tp', hs', kp⟩
      refine ⟨_, rfl, t, _, rfl, dg_left tp'.d, _, rfl, _, _, rfl, rfl, hm, _, rfl, t, _, rfl, dg_left tp'.d, _, rfl, _, _, rfl, rfl, ⟨hm, ?_⟩, by show 2 ≤ sizeLine; decide, fun p hp => ?_⟩
      · exact log2_small hm hm2
      have h1 : ∀ o, (upd H' p o) t = some (.dK (tk c spot' left')) := fun o => by
          rw [upd_ne (ne_of_none tp'.d hp)]
          exact tp'.d
      refine ⟨p, _, rfl, SqT.of upd_same, rfl, _, _, rfl, _, _, rfl, _, rfl, t, _, rfl, dp_left _ (h1 _), rfl, ?_⟩
      refine ⟨_, rfl, k _ _ (Int.emod_nonneg _ (by omega)) (Int.emod_lt_of_pos _ hm) ?_ ?_⟩
      · exact ⟨ns, spot', _, ⟨upd_same, by rw [upd_ne (show c ≠ t from ne_of tp'.l tp'.d (by intro z; cases z)), upd_ne (ne_of_none tp'.l hp)]; exact tp'.l, tp'.ne, tp'.lt, tp'.s0, Int.ediv_nonneg tp'.l0 (by omega)⟩, hs'⟩
      · exact (kp.trans (Kp.new hp)).trans Kp.at
/-- a pick from a list or a tuple -/
def spPick (K : PySem.W.Frag) : Sp := fun vs H Q _ => ∃ (t c a : Addr) (xs : List V) (n : Nat), vs = [.ref t, .ref a] ∧ Tape H t c n ∧ n < 2 ^ 40 ∧ (∀ H', Kp t H H' → SqL K H' a xs ∨ SqT K H' a xs) ∧ 0 < xs.length ∧ xs.length ≤ 1000000 ∧
  ∀ (H' : Hp) (i : Nat) (v : V), xs[i]? = some v → Tape H' t c (n + 1) → Kp t H H' → Q v H'
theorem has_pick {cs : Nat → Addr} (T : Top K mg cs) (h__law_draw : Has P w K mg base 1 "_law_draw" ["_law_tape", "_law_many"] spDraw) : Has P w K mg base 2 "_law_pick" ["_law_tape", "_law_some"] (spPick K) := by
  refine has_of T.d__law_pick sc__law_pick bd__law_pick (fun vs H Q E h => ?_) (fun f cdv A outer s H vs Q E hr h => ?_)
  · obtain ⟨t, c, a, xs, n, rfl, _⟩ := h
    rfl
  · have hu := hu_of hr
    have nd := sc__law_pick.nd
    obtain ⟨t, c, a, xs, n, rfl, tp, hn, hs, h0, h1, k⟩ := h
    refine ⟨_, (pss_one (ps_ret (pe_ix ix_seq (pv 1) (pe_has h__law_draw (hr.mono (by omega)) (by rfl) (pa_cons (pv 0) (pa_cons (pe_callB call_len_seq (by rfl) T.b_len (by decide +kernel) (pa_cons (pv 1) pa_nil)) pa_nil))) (fun _ _ => rfl)))), ?_⟩
    refine ⟨_, rfl, _, rfl, _, rfl, a, xs, rfl, hs H (Kp.refl _), t, c, _, n, rfl, tp, hn, by omega, ?_, fun H' r r0 r1 tp' kp => ?_⟩
    · exact Int.lt_of_le_of_lt (Int.ofNat_le.mpr h1) (by decide +kernel)
    have hi : r.toNat < xs.length := by omega
    have g : xs[r.toNat]? = some xs[r.toNat] := List.getElem?_eq_getElem hi
    rcases hs H' kp with z | z
    · exact .inl ⟨a, xs, r, _, rfl, rfl, z, at_of (by omega) g, k H' _ _ g tp' kp⟩
    · exact .inr (.inl ⟨a, xs, r, _, rfl, rfl, z, at_of (by omega) g, k H' _ _ g tp' kp⟩)
/-- the tape's beginning -/
def spBegun (K : PySem.W.Frag) : Sp := fun vs H Q _ => ∃ (a : Addr) (ns : List Int), vs = [.ref a] ∧ SqL K H a (ns.map V.int) ∧ ns.length ≤ 63 ∧
  ∀ (H' : Hp) (t c : Addr), H t = none → H c = none → Same H H' → Tape H' t c 0 → Q (.ref t) H'
theorem has_begun {cs : Nat → Addr} (T : Top K mg cs) : Has P w K mg base 1 "_law_begun" ["_law_script"] (spBegun K) := by
  refine has_of T.d__law_begun sc__law_begun bd__law_begun (fun vs H Q E h => ?_) (fun f cdv A outer s H vs Q E hr h => ?_)
  · obtain ⟨a, ns, rfl, _⟩ := h
    rfl
  · have hu := hu_of hr
    have nd := sc__law_begun.nd
    obtain ⟨a, ns, rfl, hS, hl, k⟩ := h
    refine ⟨_, (pss_one (ps_ret (pe_disp (pps_cons pe_str (pe_orT (pe_slice sl_list (pv 0) po_none (po_some pe_int)) (pe_one (pe_lst (pa_cons pe_int pa_nil)))) (pps_cons pe_str pe_int (pps_cons pe_str pe_int pps_nil))) (by rfl) (by rfl) (fun z => by cases z) (by decide)))), ?_⟩
    intro t ht
    have s1 := same_new (o := .dK []) ht
    refine ⟨_, rfl, 63, rfl, a, _, rfl, s1.seq hS, fun q hq => ?_⟩
    have ec : cutV (ns.map V.int) none (some 63) = ns.map V.int := by
      unfold cutV
      rw [HT.sIx_none, show HT.sIx (ns.map V.int).length (ns.map V.int).length (some 63) = min 63 (ns.map V.int).length from HT.sIx_nat _ _ 63, List.drop_zero, List.length_map]
      refine List.take_of_length_le ?_
      rw [List.length_map]
      omega
    rw [ec]
    have nqt : q ≠ t := fun e => by
      rw [e, upd_same] at hq
      cases hq
    have nq : H q = none := by
      rw [← hq, upd_ne nqt]
    cases hns : ns with
    | cons z zs =>
      refine ⟨true, .inl ⟨_, SqL.of upd_same, rfl⟩, iteT ?_⟩
      refine ⟨by rw [upd_ne nqt.symm]; exact upd_same, tk q 0 0, rfl, by show 3 ≤ 15; decide, ?_⟩
      refine k _ t q ht nq (fun b o e => ?_) ⟨z :: zs, 0, 0, ⟨upd_same, by rw [upd_ne nqt]; exact upd_same, by rw [List.length_cons]; omega, by rw [← hns]; exact hl, by decide, by decide⟩, by decide⟩
      rw [upd_ne (ne_of_none e ht), upd_ne (ne_of_none e nq), upd_ne (ne_of_none e ht)]
      exact e
    | nil =>
      refine ⟨false, .inl ⟨_, SqL.of upd_same, rfl⟩, iteF ?_⟩
      refine ⟨by show 1 ≤ sizeLine; decide, fun p hp => ?_⟩
      have npq : p ≠ q := fun e => by
        rw [e, upd_same] at hp
        cases hp
      have npt : p ≠ t := fun e => by
        rw [e, upd_ne nqt.symm, upd_same] at hp
        cases hp
      have np : H p = none := by
        rw [← hp, upd_ne npq, upd_ne npt]
      refine ⟨by rw [upd_ne npt.symm, upd_ne nqt.symm]; exact upd_same, tk p 0 0, rfl, by show 3 ≤ 15; decide, ?_⟩
      refine k _ t p ht np (fun b o e => ?_) ⟨[0], 0, 0, ⟨upd_same, by rw [upd_ne npt]; exact upd_same, by decide, by decide, by decide, by decide⟩, by decide⟩
      rw [upd_ne (ne_of_none e ht), upd_ne (ne_of_none e np), upd_ne (ne_of_none e nq), upd_ne (ne_of_none e ht)]
      exact e
end

/-! ### steps by clauses, as plain functions -/
def tru (on : List Int) : List (Key × V) := on.map fun k => ((Sum.inl k : Key), V.bl true)
def ins (on : List Int) (k : Int) : List Int := if k ∈ on then on else on ++ [k]
theorem tru_val (on : List Int) (k : Int) : valV (tru on) (Sum.inl k : Key) = if k ∈ on then some (V.bl true) else none := by
  induction on with
  | nil => rfl
  | cons a r ih =>
    show valV (((Sum.inl a : Key), V.bl true) :: tru r) (Sum.inl k : Key) = _
    by_cases h : a = k
    · rw [valV_pos (by rw [h]), if_pos (by rw [h]; exact List.mem_cons_self)]
    · rw [valV_neg (fun e => h (Sum.inl.inj e)), ih]
      by_cases hm : k ∈ r
      · rw [if_pos hm, if_pos (List.mem_cons_of_mem _ hm)]
      · rw [if_neg hm, if_neg]
        intro z
        rcases List.mem_cons.mp z with e | e
        · exact h e.symm
        · exact hm e
theorem tru_some (on : List Int) (k : Int) : (valV (tru on) (Sum.inl k : Key)).isSome = decide (k ∈ on) := by
  rw [tru_val]
  by_cases h : k ∈ on
  · rw [if_pos h, decide_eq_true h]
    rfl
  · rw [if_neg h, decide_eq_false h]
    rfl
theorem tru_put (on : List Int) (k : Int) : putK (tru on) (Sum.inl k : Key) (V.bl true) = tru (ins on k) := by
  unfold ins
  by_cases h : k ∈ on
  · rw [if_pos h]
    unfold putK
    rw [if_pos (by rw [valV_any, tru_some, decide_eq_true h])]
    unfold tru
    rw [List.map_map]
    refine List.map_congr_left fun a ha => ?_
    show (if ((Sum.inl a : Key), V.bl true).1 = Sum.inl k then _ else _) = _
    by_cases e : (Sum.inl a : Key) = Sum.inl k
    · rw [if_pos e]
    · rw [if_neg e]
  · rw [if_neg h, putK_new _ (by rw [tru_val, if_neg h])]
    unfold tru
    rw [List.map_append]
    rfl
theorem tru_merge : ∀ (b a : List Int), mergeK (tru a) (tru b) = tru (b.foldl ins a)
  | [], a => rfl
  | k :: r, a => by
    show mergeK (putK (tru a) (Sum.inl k : Key) (V.bl true)) (tru r) = _
    rw [tru_put, tru_merge r]
    rfl
theorem ins_len (on : List Int) (k : Int) : (ins on k).length ≤ on.length + 1 := by
  unfold ins
  split
  · omega
  · rw [List.length_append]
    exact Nat.le_refl _
theorem fold_len : ∀ (b a : List Int), (b.foldl ins a).length ≤ a.length + b.length
  | [], a => Nat.le_refl _
  | k :: r, a => by
    have h := fold_len r (ins a k)
    have h2 := ins_len a k
    show (r.foldl ins (ins a k)).length ≤ a.length + (r.length + 1)
    omega
/-- the marks of a clause that aren't off -/
def left (on c : List Int) : List Int := c.filter fun m => !decide (-m ∈ on)
/-- the clause of a number -/
def clAt (cs : List (List Int)) (r : Int) : Option (List Int) := if 0 ≤ r ∧ r < cs.length then cs[r.toNat]? else none
def step (cs : List (List Int)) (on : List Int) (r : Int) : Option (List Int) :=
  match clAt cs r with
  | none => none
  | some c => match left on c with
    | [x] => if x ∈ on then none else some (ins on x)
    | _ => none
def bring (cs : List (List Int)) : List Int → List Int → Option (List Int)
  | [], on => some on
  | r :: rs, on => match step cs on r with
    | none => none
    | some on' => bring cs rs on'
def broken (cs : List (List Int)) (on : List Int) (r : Int) : Bool :=
  match clAt cs r with
  | none => false
  | some c => (left on c).isEmpty
/-- what the program tells -/
def shownP (cs : List (List Int)) (ps rs : List Int) : Option Int → Bool
  | none => match rs.getLast? with
    | none => false
    | some r => match bring cs rs.dropLast (ps.foldl ins []) with
      | none => false
      | some on => broken cs on r
  | some m => match bring cs rs (ps.foldl ins []) with
    | none => false
    | some on => decide (m ∈ on)
/-- the law's own walk -/
def stepL (cs : List (List Int)) (on : List Int) (r : Int) : Option (List Int × Bool) :=
  match clAt cs r with
  | none => none
  | some c => if (left on c).length > 1 ∨ ((left on c).filter fun m => decide (m ∈ on)) ≠ [] then none else some ((left on c).foldl ins on, (left on c).isEmpty)
def walkL (cs : List (List Int)) : List Int → List Int → Bool → Option (List Int × Bool)
  | [], on, e => some (on, e)
  | r :: rs, on, e => if e = true then none else match stepL cs on r with
    | none => none
    | some (on', e') => walkL cs rs on' e'
def shownL (cs : List (List Int)) (ps rs : List Int) (m : Option Int) : Bool :=
  match walkL cs rs (ps.foldl ins []) false with
  | none => false
  | some (on, e) => match m with
    | none => e
    | some k => !e && decide (k ∈ on)
theorem stepL_of (cs : List (List Int)) (on : List Int) (r : Int) : stepL cs on r = match step cs on r with
    | some on' => some (on', false)
    | none => if broken cs on r = true then some (on, true) else none := by
  unfold stepL step broken
  cases clAt cs r with
  | none => rfl
  | some c =>
    show (if (left on c).length > 1 ∨ ((left on c).filter fun m => decide (m ∈ on)) ≠ [] then none else some ((left on c).foldl ins on, (left on c).isEmpty)) = match (match left on c with | [x] => if x ∈ on then none else some (ins on x) | _ => none) with
      | some on' => some (on', false)
      | none => if (left on c).isEmpty = true then some (on, true) else none
    cases left on c with
    | nil => simp
    | cons x r =>
      cases r with
      | nil =>
        by_cases h : x ∈ on
        · simp [h]
        · simp [h, ins]
      | cons y r => simp
theorem walk_ended (cs : List (List Int)) (rs on : List Int) : walkL cs rs on true = if rs = [] then some (on, true) else none := by
  cases rs with
  | nil => rfl
  | cons r rs => simp [walkL]
theorem walk_mark (cs : List (List Int)) (k : Int) : ∀ (rs on : List Int), (match walkL cs rs on false with
    | none => false
    | some (o, e) => !e && decide (k ∈ o)) = match bring cs rs on with
    | none => false
    | some o => decide (k ∈ o)
  | [], on => rfl
  | r :: rs, on => by
    simp only [walkL, bring]
    rw [if_neg Bool.false_ne_true, stepL_of]
    cases step cs on r with
    | some on' => exact walk_mark cs k rs on'
    | none =>
      by_cases hb : broken cs on r = true
      · simp only [hb, if_true]
        rw [walk_ended]
        cases rs with
        | nil => rfl
        | cons a b => rfl
      · simp only [hb]
        rfl
theorem walk_none (cs : List (List Int)) : ∀ (rs on : List Int), (match walkL cs rs on false with
    | none => false
    | some (_, e) => e) = match rs.getLast? with
    | none => false
    | some r => match bring cs rs.dropLast on with
      | none => false
      | some o => broken cs o r
  | [], on => rfl
  | [r], on => by
    simp only [walkL, bring, List.getLast?_singleton, List.dropLast_singleton]
    rw [if_neg Bool.false_ne_true, stepL_of]
    cases hs : step cs on r with
    | some on' =>
      have nb : broken cs on r = false := by
        unfold step at hs
        unfold broken
        cases hc : clAt cs r with
        | none => rfl
        | some c =>
          rw [hc] at hs
          simp only at hs ⊢
          cases hl : left on c with
          | nil =>
            rw [hl] at hs
            cases hs
          | cons x y => rfl
      rw [nb]
    | none =>
      by_cases hb : broken cs on r = true
      · simp only [hb, if_true]
      · simp only [hb]
        simp
  | r :: r2 :: rs, on => by
    have e1 : (r :: r2 :: rs).getLast? = (r2 :: rs).getLast? := by rw [List.getLast?_cons_cons]
    have e2 : (r :: r2 :: rs).dropLast = r :: (r2 :: rs).dropLast := rfl
    rw [e1, e2]
    simp only [bring]
    rw [show walkL cs (r :: r2 :: rs) on false = match stepL cs on r with | none => none | some (on', e') => walkL cs (r2 :: rs) on' e' by
      show (if false = true then none else _) = _
      rw [if_neg Bool.false_ne_true]]
    rw [stepL_of]
    cases step cs on r with
    | some on' => exact walk_none cs (r2 :: rs) on'
    | none =>
      have z : (match (r2 :: rs).getLast? with | none => false | some r => false) = false := by
        cases (r2 :: rs).getLast? <;> rfl
      by_cases hb : broken cs on r = true
      · simp only [hb, if_true]
        rw [walk_ended]
        simp only [reduceCtorEq, if_false]
        exact z.symm
      · simp only [hb]
        exact z.symm
theorem shown_eq (cs : List (List Int)) (ps rs : List Int) (m : Option Int) : shownL cs ps rs m = shownP cs ps rs m := by
  unfold shownL shownP
  cases m with
  | none => exact walk_none cs rs _
  | some k => exact walk_mark cs k rs _

/-! ### clauses as they stand in the heap -/
structure Cs (H : Hp) (a : Addr) (qs : List Addr) (cs : List (List Int)) : Prop where
  l : H a = some (.lst (qs.map V.ref))
  n : qs.length = cs.length
  t : ∀ (i : Nat) q c, qs[i]? = some q → cs[i]? = some c → H q = some (.tup (c.map V.int))
theorem Cs.same {H H' : Hp} {a : Addr} {qs : List Addr} {cs : List (List Int)} (h : Cs H a qs cs) (s : Same H H') : Cs H' a qs cs := ⟨s _ _ h.l, h.n, fun i q c hq hc => s _ _ (h.t i q c hq hc)⟩
theorem Cs.kp {H H' : Hp} {a d : Addr} {qs : List Addr} {cs : List (List Int)} {kvs : List (Key × V)} (h : Cs H a qs cs) (hd : H d = some (.dK kvs)) (k : Kp d H H') : Cs H' a qs cs :=
  ⟨k _ _ h.l (ne_of h.l hd (by intro z; cases z)), h.n, fun i q c hq hc => k _ _ (h.t i q c hq hc) (ne_of (h.t i q c hq hc) hd (by intro z; cases z))⟩
theorem clAt_some {cs : List (List Int)} {r : Int} {c : List Int} (h : clAt cs r = some c) : 0 ≤ r ∧ r < cs.length ∧ cs[r.toNat]? = some c := by
  unfold clAt at h
  split at h
  · rename_i e
    exact ⟨e.1, e.2, h⟩
  · cases h
theorem clAt_in {cs : List (List Int)} {r : Int} (h0 : 0 ≤ r) (h1 : r < cs.length) : ∃ c, clAt cs r = some c := by
  unfold clAt
  rw [if_pos ⟨h0, h1⟩]
  exact ⟨_, List.getElem?_eq_getElem (by omega)⟩
theorem Cs.at {H : Hp} {a : Addr} {qs : List Addr} {cs : List (List Int)} (h : Cs H a qs cs) {r : Int} {c : List Int} (hc : clAt cs r = some c) : ∃ q, atI (qs.map V.ref) r = some (.ref q) ∧ H q = some (.tup (c.map V.int)) := by
  obtain ⟨h0, h1, h2⟩ := clAt_some hc
  have hn := h.n
  have l : r.toNat < qs.length := by omega
  refine ⟨qs[r.toNat], at_of (j := r.toNat) (by omega) ?_, h.t _ _ _ (List.getElem?_eq_getElem l) h2⟩
  rw [List.getElem?_map, List.getElem?_eq_getElem l]
  rfl
theorem len_zero (l : List Int) : decide (V.int ((l.map V.int).length : Nat) = V.int 0) = l.isEmpty := by
  cases l with
  | nil => rfl
  | cons y r =>
    refine decide_eq_false fun z => ?_
    have z2 := V.int.inj z
    rw [List.length_map, List.length_cons] at z2
    omega
theorem drop_at {α : Type} {xs : List α} {i : Nat} {x : α} (h : xs[i]? = some x) : xs.drop i = x :: xs.drop (i + 1) := by
  obtain ⟨l, e⟩ := List.getElem?_eq_some_iff.mp h
  rw [List.drop_eq_getElem_cons l, e]
theorem int_at {rs : List Int} {i : Nat} {x : V} (h : (rs.map V.int)[i]? = some x) : ∃ r, x = .int r ∧ rs[i]? = some r := by
  rw [List.getElem?_map] at h
  cases e : rs[i]? with
  | none =>
    rw [e] at h
    cases h
  | some r =>
    rw [e] at h
    exact ⟨r, (Option.some.inj h).symm, rfl⟩

/-! ### small things -/
theorem pick_int {zs : List Int} {i : Nat} {v : V} (h : (zs.map V.int)[i]? = some v) : ∃ z, v = .int z ∧ z ∈ zs := by
  obtain ⟨r, e, hr⟩ := int_at h
  exact ⟨r, e, List.mem_of_getElem? hr⟩
theorem seq_in {n : Nat} {i : Int} (h0 : 0 ≤ i) (h1 : i < n) : seqIndex? i n = some i.toNat := by
  have e : ixN n i = some i.toNat := by
    unfold ixN
    rw [if_pos h0, if_pos h1]
  exact (ixN_seq e).1
theorem pow8000 {x : Int} (h : x ≤ 1000000) : x < 2 ^ 8000 := Int.lt_of_le_of_lt h (by decide +kernel)
theorem Tape.sq {H : Hp} {t c p : Addr} {n : Nat} {xs : List V} (h : Tape H t c n) (e : H p = some (.lst xs)) {H' : Hp} (k : Kp t H H') : H' p = some (.lst xs) := k p _ e (by
  obtain ⟨ns, spot, left, tc, _⟩ := h
  exact ne_of e tc.d (by intro z; cases z))
theorem Tape.ne_lst' {H : Hp} {t c p : Addr} {n : Nat} {xs : List V} (h : Tape H t c n) (e : H p = some (.lst xs)) : p ≠ t := by
  obtain ⟨ns, spot, left, tc, _⟩ := h
  exact ne_of e tc.d (by intro z; cases z)
theorem getElem_snoc {α : Type} {xs : List α} {x y : α} {i : Nat} (h : (xs ++ [x])[i]? = some y) : (i < xs.length ∧ xs[i]? = some y) ∨ (i = xs.length ∧ x = y) := by
  by_cases c : i < xs.length
  · rw [List.getElem?_append_left c] at h
    exact .inl ⟨c, h⟩
  · rw [List.getElem?_append_right (by omega)] at h
    have l := (List.getElem?_eq_some_iff.mp h).1
    simp only [List.length_cons, List.length_nil] at l
    have e : i - xs.length = 0 := by omega
    rw [e] at h
    exact .inr ⟨by omega, Option.some.inj h⟩
theorem same_mut {H H' : Hp} {D : Addr} {o : HO} (s : Same H H') (h : H D = none) : Same H (upd H' D o) := fun b u e => by
  rw [upd_ne (ne_of_none e h)]
  exact s b u e
theorem take_snoc {xs : List Int} {i : Nat} {x : Int} (h : xs[i]? = some x) : xs.take (i + 1) = xs.take i ++ [x] := by
  rw [List.take_add_one, h]
  rfl

/-! ### what the data are -/
theorem lay_ints : ∀ l : List Int, PyData.canLayAll0 (l.map PyData.int) = true
  | [] => rfl
  | x :: r => by
    rw [List.map_cons, PyData.canLayAll0, lay_ints r]
    rfl
theorem dep_ints : ∀ l : List Int, PyData.depthAll (l.map PyData.int) ≤ 0
  | [] => Nat.le_refl _
  | x :: r => by
    rw [List.map_cons, PyData.depthAll]
    exact Nat.max_le.mpr ⟨Nat.le_refl _, dep_ints r⟩
def tupD (c : List Int) : PyData := .tuple (c.map PyData.int)
def lstD (c : List Int) : PyData := .list (c.map PyData.int)
theorem lay_tup (c : List Int) : (tupD c).canLay0 = true := by
  unfold tupD
  rw [PyData.canLay0]
  exact lay_ints c
theorem lay_lst (c : List Int) : (lstD c).canLay0 = true := by
  unfold lstD
  rw [PyData.canLay0]
  exact lay_ints c
theorem dep_tup (c : List Int) : (tupD c).depth ≤ 1 := by
  unfold tupD
  rw [PyData.depth]
  exact Nat.succ_le_succ (dep_ints c)
theorem dep_lst (c : List Int) : (lstD c).depth ≤ 1 := by
  unfold lstD
  rw [PyData.depth]
  exact Nat.succ_le_succ (dep_ints c)
theorem lay_tups : ∀ cs : List (List Int), PyData.canLayAll0 (cs.map tupD) = true
  | [] => rfl
  | x :: r => by
    rw [List.map_cons, PyData.canLayAll0, lay_tups r, lay_tup]
    rfl
theorem dep_tups : ∀ cs : List (List Int), PyData.depthAll (cs.map tupD) ≤ 1
  | [] => Nat.zero_le _
  | x :: r => by
    rw [List.map_cons, PyData.depthAll]
    exact Nat.max_le.mpr ⟨dep_tup x, dep_tups r⟩
section
variable {K : PySem.W.Frag} {H : Hp}
theorem dp_ints : ∀ l : List Int, DpAll K H (l.map V.int) (l.map PyData.int)
  | [] => .nil
  | x :: r => .cons (.int x) (dp_ints r)
theorem dp_lst {a : Addr} {l : List Int} (h : H a = some (.lst (l.map V.int))) : Dp K H (.ref a) (lstD l) := .lst (SqL.of h) (dp_ints l)
theorem dp_tups : ∀ {qs : List Addr} {cs : List (List Int)}, qs.length = cs.length → (∀ (i : Nat) q c, qs[i]? = some q → cs[i]? = some c → H q = some (.tup (c.map V.int))) → DpAll K H (qs.map V.ref) (cs.map tupD)
  | [], [], _, _ => .nil
  | [], _ :: _, n, _ => absurd n (by simp)
  | _ :: _, [], n, _ => absurd n (by simp)
  | q :: qs, c :: cs, n, t => .cons (.tup (SqT.of (t 0 q c rfl rfl)) (dp_ints c)) (dp_tups (Nat.succ.inj n) fun i q c hq hc => t (i + 1) q c hq hc)
end
theorem shape_lst (l : List Int) : SeqAt.shaped (lstD l) = true := by
  unfold SeqAt.shaped
  rw [lay_lst, decide_eq_true (Nat.le_trans (dep_lst l) (by decide))]
  rfl

/-! ### promises that hold where nothing is being shown -/
structure FnG (P : Program) (w : World) (K : PySem.W.Frag) (mg : Str → Option Value) (base : Heap) (k : Nat) (f : Addr) (fd : FuncData) (ps : List Str) (sp : Sp) : Prop where
  len : ∀ vs H Q E, sp vs H Q E → vs.length = ps.length
  run : ∀ (A : Around) (out : List Env) (s : Shared) (H : Hp) (us : List Value) (vs : List V) (Q : VK) (E : XK), Room k A → A.guards = some [] → Env0 P w K mg base A out s H → BindsTo s fd ⟨us, []⟩ (ps.zip us) → Vals vs us → sp vs H Q E →
    codeAny (model P w) A (.call (.ref f) ⟨us, []⟩) (CR CX0 out P w H s Q E) s
structure HasG (P : Program) (w : World) (K : PySem.W.Frag) (mg : Str → Option Value) (base : Heap) (k : Nat) (x : Str) (ps : List Str) (sp : Sp) : Prop where
  ex : ∃ f fd, mg x = some (.ref f) ∧ PySem.W.keepIn K (.ref f) = true ∧ Binds K fd ps [] ∧ FnG P w K mg base k f fd ps sp
section
variable {P : Program} {w : World} {K : PySem.W.Frag} {mg : Str → Option Value} {base : Heap}
theorem fnG {x qual : Str} {st : Stmt} {f : Addr} {fd : FuncData} {N ps : List Str} {k : Nat} {sp : Sp} (F : Fun K x qual st f fd) (S : FnScope N ps (defScope st)) (len : ∀ vs H Q E, sp vs H Q E → vs.length = ps.length)
    (body : ∀ (cdv : Value) (A : Around) (out : List Env) (s : Shared) (H : Hp) (vs : List V) (Q : VK) (E : XK), Room k (A.deeper (envOfC qual (defScope st) s.heap.objs.size f cdv)) → (A.deeper (envOfC qual (defScope st) s.heap.objs.size f cdv)).guards = some [] → sp vs H Q E →
      ∃ t, PSs (cxOf CX0 P w K mg base N qual (defScope st) f cdv A out s H E).nox (defBody st) t ∧ t { nx := fun _ H' => Q .non H', rt := Q } (start N vs) H) : FnG P w K mg base (k + 1) f fd ps sp := by
  obtain ⟨oc, od, kV, doc, pm, an, cdv, ct, osl, rfl, lk, hcd⟩ := F.ex
  refine ⟨len, fun A out s H us vs Q E room calm e0 hb r hsp => ?_⟩
  have few := len _ _ _ _ hsp
  have kin : K.In s.heap := e0.mod.kin.keeps fun b o z => (e0.bs b o z).1
  have lim : s.heap.NoLimit := e0.mod.nolimit.keeps fun b o z => (e0.bs b o z).1
  have kinds : ∀ z ∈ ps.zip us, (defScope st).names.lookup z.1 = some .local ∨ ((defScope st).names.lookup z.1 = some .cell ∧ ((cellsFrom (s.heap.objs.size + 1) (defScope st).names []).lookup z.1).isSome = true) := by
    rintro ⟨n, v⟩ hz
    rcases S.par n (List.of_mem_zip hz).1 with z | z
    · exact .inl z
    · exact .inr ⟨z, PySem.W.cellsFrom_some _ _ _ (.inl z)⟩
  refine codeAny_call_function room.depth (kin _ _ lk) rfl S.co S.gen rfl (PySem.W.codeRec_of kin hcd) (hb _ _ _ _ ?_)
  refine wpAny_newFunctionEnv_cells S.kind kinds fun env he s1 z => ?_
  subst he
  refine ⟨lim.keeps z.toInCall.keep, codeAny_func ?_⟩
  obtain ⟨t, ht, hq⟩ := body cdv A out s H vs Q E (room.deeper _) calm hsp
  have I : Inv (cxOf CX0 P w K mg base N qual (defScope st) f cdv A out s H E) [] (start N vs) H s1 := inv_start S room.hd e0 few r z
  refine wpAny_mono (ht.nox.run [] s1 (start N vs) H _ I hq) (fun fl s2 hs => ?_) fun e s2 hs => hs
  cases fl with
  | ret u =>
    obtain ⟨v, σ2, H2, J, rv, q⟩ := hs
    exact ⟨v, H2, J.os, J.bare, J.base, J.hok, rv, q⟩
  | next =>
    obtain ⟨σ2, H2, J, q⟩ := hs
    exact ⟨.non, H2, J.os, J.bare, J.base, J.hok, rfl, q⟩
  | brk =>
    obtain ⟨_, _, _, q⟩ := hs
    exact q.elim
  | cont =>
    obtain ⟨_, _, _, q⟩ := hs
    exact q.elim
theorem has_ofG {x : Str} {st : Stmt} {N ps : List Str} {k : Nat} {sp : Sp} (A : At K mg x st) (S : FnScope N ps (defScope st)) (B : BindsAll x st ps) (len : ∀ vs H Q E, sp vs H Q E → vs.length = ps.length)
    (body : ∀ (f : Addr) (cdv : Value) (A : Around) (out : List Env) (s : Shared) (H : Hp) (vs : List V) (Q : VK) (E : XK), Room k (A.deeper (envOfC x (defScope st) s.heap.objs.size f cdv)) → (A.deeper (envOfC x (defScope st) s.heap.objs.size f cdv)).guards = some [] → sp vs H Q E →
      ∃ t, PSs (cxOf CX0 P w K mg base N x (defScope st) f cdv A out s H E).nox (defBody st) t ∧ t { nx := fun _ H' => Q .non H', rt := Q } (start N vs) H) : HasG P w K mg base (k + 1) x ps sp := by
  obtain ⟨f, fd, hm, F⟩ := A.ex
  exact ⟨f, fd, hm, F.kp, F.binds B, fnG F S len fun cdv A out s H vs Q E hr hg h => body f cdv A out s H vs Q E hr hg h⟩
theorem FnG.at_ {f : Addr} {fd : FuncData} {ps : List Str} {k : Nat} {sp : Sp} (G : FnG P w K mg base k f fd ps sp) (room : Room k callerA) : RunAt P w K mg base f fd ps sp :=
  fun s H us vs Q E e0 hb r hsp => G.run callerA [] s H us vs Q E room rfl e0 hb r hsp
end
section
variable {X : Cx} {k : Nat} {x : Str} {ps : List Str} {sp : Sp} {e : Expr} {es : List Expr} {t : TA} {p pos : Pos}
theorem pe_hasG (h : HasG X.prog X.w X.K X.mg X.base k x ps sp) (hr : Room k X.A) (hgd : X.A.guards = some []) (hg : Gl X x) (ha : PA X (e :: es) t)
    (hdb : (x == ("__debug__" : Str)) = false := by decide) (he : starEach (e :: es) X.env = (false, eval e X.env) :: starEach es X.env := by rfl) (hpl : (backTo pos (starEach es X.env)).any (·.1) = false := by rfl) :
    PE X (.Call (.Name x p) (e :: es) [] pos) (tCall sp [] E0 t) := by
  obtain ⟨f, fd, hm, hk, hb, F⟩ := h.ex
  refine ⟨fun pins s σ H Q I hw => ?_⟩
  refine wpAny_Call_Name_kw (ld_glob I hg hm ?_ hdb)
  refine PySem.W.callWith_K (h₀ := X.base) I.ok.mod.kin hk (thn (ha.run pos pins s σ H _ I hw) fun us s1 ⟨vs, H1, I1, r1, q⟩ => ⟨I1.kIn, ?_⟩) he hpl
  have q : sp vs H1 Q E0 := by
    have z : sp (vs ++ []) H1 Q E0 := q
    rwa [List.append_nil] at z
  have bd := hb s1 us I1.kIn (by rw [List.append_nil, ← r1.length]; exact F.len _ _ _ _ q)
  rw [List.append_nil] at bd
  refine wpAny_call (codeAny_mono (F.run X.A X.stack s1 H1 us vs Q E0 hr hgd I1.env0 bd r1 q) fun r s2 hq => ?_)
  cases r with
  | error e => exact pass0 pins σ H1 s1 e s2 I1 hq
  | ok fl =>
    cases fl with
    | ret u => exact I1.after hq
    | next => exact hq.elim
    | brk => exact hq.elim
    | cont => exact hq.elim
end
/-! ### repr of None, of a whole number, of a list -/
structure Showy (x : PyData) : Prop where
  s : x.showable = true
  n : x.hasDict = false
  d : x.depth ≤ 60
  l : x.shown.length ≤ sizeLine
theorem call_reprV {X : Cx} (hgd : X.A.guards = some []) (hu : X.A.units + 64 < cLine) : CallR X (.builtin "repr") (fun xs H Q => (xs = [.non] ∧ Q (.str "None") H) ∨ (∃ i, xs = [.int i] ∧ i.natAbs.log2 < 1920 ∧ Q (.str (toString i)) H) ∨
    ∃ a d, xs = [.ref a] ∧ Dp X.K H (.ref a) d ∧ Showy d ∧ Q (.str d.shown) H) := by
  intro pins s σ H xs us Q I r h
  rcases h with ⟨rfl, q⟩ | ⟨i, rfl, hi, q⟩ | ⟨a, d, rfl, hd, sh, q⟩
  · obtain ⟨u, rfl, ru⟩ := vals1 r
    cases ru
    exact PySem.P.repr_of_none ⟨.str "None", H, I.tok _, ⟨_, rfl⟩, q⟩
  · obtain ⟨u, rfl, t, rfl⟩ := vals1 r
    exact PySem.P.repr_of_int hi ⟨.str (toString i), H, I.tok _, ⟨_, rfl⟩, q⟩
  · obtain ⟨u, rfl, ru⟩ := vals1 r
    cases ru
    obtain ⟨as, rd⟩ := Dp.reads I d (.ref a) (.ref a) hd rfl
    have h3 := sh.d
    exact repr_of_reads' (s := s) rd sh.s (fun z => by rw [sh.n] at z; cases z) hgd (by omega) (fun _ _ z => z) (fun h2 u tk k => ⟨.str d.shown, H, I.kept (t' := tk) k, ⟨_, rfl⟩, q⟩) sh.l

/-! ### rules: a text a few times, a tuple a few times -/
theorem op_repTK {X : Cx} {K : PySem.W.Frag} (h : X.K = K) : OpR X (binaryOp .Mult) (rRepT K) := h ▸ op_repT
def repS (k : Int) (z : Str) : Str := ⟨(List.replicate k.toNat z.cps).foldl (· ++ ·) #[]⟩
theorem op_repS {X : Cx} : OpR X (binaryOp .Mult) (fun x y H Q => ∃ (z : Str) (k : Int), x = .str z ∧ y = .int k ∧ 2 ≤ k ∧ k ≤ 1000 ∧ 1 ≤ z.length ∧ z.length ≤ 1000 ∧ (repS k z).length ≤ sizeLine ∧ Q (.str (repS k z)) H) := by
  intro pins s σ H x y v u Q I rx ry h
  obtain ⟨z, k, rfl, rfl, h1, h2, h3, h4, h5, q⟩ := h
  obtain ⟨t, rfl⟩ := rx
  obtain ⟨t', rfl⟩ := ry
  have c1 : ¬ k < 1 := by omega
  have c2 : (k == 1 || z.length == 0) = false := by
    rw [Bool.or_eq_false_iff]
    exact ⟨by simp; omega, by simp; omega⟩
  refine PySem.P.mul_str ?_ (fun _ _ => ?_) (fun _ _ => ?_) ?_
  · rw [Bool.or_eq_false_iff]
    exact ⟨decide_eq_false (by omega), decide_eq_false (by omega)⟩
  · have e : (1000 : Int) ≤ (2 ^ 63 - 1) / k := (Int.le_ediv_iff_mul_le (by omega)).mpr (by omega)
    omega
  · have e : z.length * k.toNat ≤ 1000 * 1000 := Nat.mul_le_mul h4 (by omega)
    have e2 : sizeLine = 16777216 := sizeLine_eq
    show decide (_ > sizeLine) = false
    refine decide_eq_false ?_
    omega
  · rw [if_neg c1, if_neg (by rw [c2]; exact Bool.false_ne_true)]
    exact ⟨h5, .str (repS k z), H, I.tok _, ⟨_, rfl⟩, q⟩
/-- a def whose promise can't be asked -/
theorem has_zero {P : Program} {w : World} {K : PySem.W.Frag} {mg : Str → Option Value} {base : Heap} {x : Str} {st : Stmt} {ps : List Str} {sp : Sp} (A : At K mg x st) (B : BindsAll x st ps) (no : ∀ vs H Q E, ¬ sp vs H Q E) : Has P w K mg base 0 x ps sp := by
  obtain ⟨f, fd, hm, F⟩ := A.ex
  exact ⟨f, fd, hm, F.kp, F.binds B, fun vs H Q E h => absurd h (no _ _ _ _), fun A out s H args us vs Q E _ _ _ _ h => absurd h (no _ _ _ _)⟩
/-! ### data made of tuples: they stay whatever becomes of lists -/
mutual
inductive Tp (H : Hp) : V → PyData → Prop
  | non : Tp H .non .none
  | bl (b : Bool) : Tp H (.bl b) (.bool b)
  | int (i : Int) : Tp H (.int i) (.int i)
  | str (x : Str) : Tp H (.str x) (.str x)
  | tup {a : Addr} {xs : List V} {ds : List PyData} : H a = some (.tup xs) → TpAll H xs ds → Tp H (.ref a) (.tuple ds)
inductive TpAll (H : Hp) : List V → List PyData → Prop
  | nil : TpAll H [] []
  | cons {v : V} {vs : List V} {d : PyData} {ds : List PyData} : Tp H v d → TpAll H vs ds → TpAll H (v :: vs) (d :: ds)
end
/-- tuples stay -/
def KT (H H' : Hp) : Prop := ∀ a xs, H a = some (.tup xs) → H' a = some (.tup xs)
theorem KT.refl {H : Hp} : KT H H := fun _ _ h => h
theorem KT.trans {H H1 H2 : Hp} (a : KT H H1) (b : KT H1 H2) : KT H H2 := fun c xs h => b c xs (a c xs h)
theorem KT.same {H H' : Hp} (s : Same H H') : KT H H' := fun a xs h => s a _ h
theorem KT.kp {H H' : Hp} {t c : Addr} {n : Nat} (tp : Tape H t c n) (k : Kp t H H') : KT H H' := fun a xs h => by
  obtain ⟨ns', sp', lf', tc, _⟩ := tp
  exact k _ _ h (ne_of h tc.d (by intro z; cases z))
theorem KT.lst {H : Hp} {D : Addr} {xs : List V} {o : HO} (h : H D = some (.lst xs)) : KT H (upd H D o) := fun a ys e => by
  rw [upd_ne (ne_of e h (by intro z; cases z))]
  exact e
theorem KT.new {H : Hp} {p : Addr} {o : HO} (h : H p = none) : KT H (upd H p o) := KT.same (same_new h)
mutual
theorem Tp.kt {H H' : Hp} (s : KT H H') : ∀ {v : V} {d : PyData}, Tp H v d → Tp H' v d
  | _, _, .non => .non
  | _, _, .bl b => .bl b
  | _, _, .int i => .int i
  | _, _, .str x => .str x
  | _, _, .tup h r => .tup (s _ _ h) (TpAll.kt s r)
theorem TpAll.kt {H H' : Hp} (s : KT H H') : ∀ {vs : List V} {ds : List PyData}, TpAll H vs ds → TpAll H' vs ds
  | _, _, .nil => .nil
  | _, _, .cons h r => .cons (Tp.kt s h) (TpAll.kt s r)
end
mutual
theorem Tp.dp {K : PySem.W.Frag} {H : Hp} : ∀ {v : V} {d : PyData}, Tp H v d → Dp K H v d
  | _, _, .non => .non
  | _, _, .bl b => .bl b
  | _, _, .int i => .int i
  | _, _, .str x => .str x
  | _, _, .tup h r => .tup (SqT.of h) (TpAll.dp r)
theorem TpAll.dp {K : PySem.W.Frag} {H : Hp} : ∀ {vs : List V} {ds : List PyData}, TpAll H vs ds → DpAll K H vs ds
  | _, _, .nil => .nil
  | _, _, .cons h r => .cons (Tp.dp h) (TpAll.dp r)
end
theorem TpAll.snoc {H : Hp} {v : V} {d : PyData} : ∀ {vs : List V} {ds : List PyData}, TpAll H vs ds → Tp H v d → TpAll H (vs ++ [v]) (ds ++ [d])
  | _, _, .nil, h => .cons h .nil
  | _, _, .cons a r, h => .cons a (r.snoc h)
theorem TpAll.app {H : Hp} {ws : List V} {es : List PyData} : ∀ {vs : List V} {ds : List PyData}, TpAll H vs ds → TpAll H ws es → TpAll H (vs ++ ws) (ds ++ es)
  | _, _, .nil, h => h
  | _, _, .cons a r, h => .cons a (r.app h)
theorem TpAll.len {H : Hp} : ∀ {vs : List V} {ds : List PyData}, TpAll H vs ds → vs.length = ds.length
  | _, _, .nil => rfl
  | _, _, .cons _ r => by rw [List.length_cons, List.length_cons, r.len]
theorem TpAll.get {H : Hp} : ∀ {vs : List V} {ds : List PyData} {i : Nat} {d : PyData}, TpAll H vs ds → ds[i]? = some d → ∃ v, vs[i]? = some v ∧ Tp H v d
  | _, _, _, _, .nil, e => by cases e
  | _, _, 0, _, .cons a _, e => ⟨_, rfl, by cases e; exact a⟩
  | _, _, i + 1, _, .cons _ r, e => r.get e
theorem tp_rep {H : Hp} {v : V} {d : PyData} (h : Tp H v d) : ∀ n, TpAll H (List.replicate n v) (List.replicate n d)
  | 0 => .nil
  | n + 1 => .cons h (tp_rep h n)
theorem Tp.new {H : Hp} {p : Addr} {xs : List V} {ds : List PyData} (n : H p = none) (r : TpAll H xs ds) : Tp (upd H p (.tup xs)) (.ref p) (.tuple ds) := .tup upd_same (r.kt (KT.new n))
theorem flat_one {v : V} : ∀ n : Nat, (List.replicate n [v]).flatten = List.replicate n v
  | 0 => rfl
  | n + 1 => by
    rw [List.replicate_succ, List.flatten_cons, flat_one n]
    rfl
/-! ### a comprehension over a range, whose items are new -/
section
variable {K : PySem.W.Frag} {tt : TT} {te : TE} {vs : List Nat} {σ : L2.St} {H : Hp} {D : Addr} {Qd : Hp → Prop} {j : Nat}
theorem lc_rangeC {lo c : Int} {n : Nat} {g : TG} (Pv : Nat → Hp → Prop) (h0 : Pv 0 (upd H D (.lst [])))
    (hs : ∀ i H, i < n → Pv i H → g (.int (lo + (i : Nat) * c)) (wipe σ vs) H fun σ2 H2 => wipe σ2 vs = wipe σ vs ∧ tt σ2 H2 fun b H3 =>
      if b = true then te σ2 H3 fun y H4 => ∃ acc, H4 D = some (.lst acc) ∧ acc.length < sizeLine ∧ Pv (i + 1) (upd H4 D (.lst (acc ++ [y]))) else Pv (i + 1) H3) (hd : ∀ H, Pv n H → Qd H) :
    ∃ W : Nat → Nat → Hp → Prop, (∃ m, W 0 m (upd H D (.lst []))) ∧ ∀ i m H, W i m H →
      ((Itc lo c n).stop i H ∧ Qd H) ∨ ((Itc lo c n).go i H ∧ ∃ Nx : Hp → Prop, (∀ H', Nx H' → ∃ m', m' < m ∧ W (i + 1) m' H') ∧ ∀ x H', (Itc lo c n).yld i H x H' → g x (wipe σ vs) H' fun σ2 H2 => wipe σ2 vs = wipe σ vs ∧ tt σ2 H2 fun b H3 =>
        if b = true then te σ2 H3 fun y H4 => ∃ acc, H4 D = some (.lst acc) ∧ acc.length < sizeLine ∧ Nx (upd H4 D (.lst (acc ++ [y]))) else Nx H3) := by
  refine ⟨fun i m H => m = n - i ∧ i ≤ n ∧ Pv i H, ⟨n, by simp, Nat.zero_le _, h0⟩, ?_⟩
  rintro i m H ⟨rfl, hi, p⟩
  by_cases hlt : i < n
  · refine .inr ⟨hlt, Pv (i + 1), fun H' p' => ⟨n - (i + 1), by omega, rfl, hlt, p'⟩, fun x H' y => ?_⟩
    obtain ⟨rfl, rfl⟩ := y
    exact hs i H' hlt p
  · have e : i = n := by omega
    subst e
    exact .inl ⟨Nat.le_refl _, hd H p⟩
/-- what stands at a turn: so many items that are data -/
structure TpT (H H' : Hp) (D : Addr) (ds : List PyData) : Prop where
  s : Same H H'
  ex : ∃ xs, H' D = some (.lst xs) ∧ TpAll H' xs ds
theorem TpT.new (hD : H D = none) : TpT H (upd H D (.lst [])) D [] := ⟨same_new hD, [], upd_same, .nil⟩
/-- an item more -/
theorem TpT.put {H1 H2 : Hp} {y : V} {d : PyData} {ds : List PyData} (hD : H D = none) (p : TpT H H1 D ds) (s : Same H1 H2) (small : ds.length < sizeLine) (hy : Tp H2 y d) :
    ∃ acc, H2 D = some (.lst acc) ∧ acc.length < sizeLine ∧ TpT H (upd H2 D (.lst (acc ++ [y]))) D (ds ++ [d]) := by
  obtain ⟨xs, e, r⟩ := p.ex
  have e2 := s _ _ e
  refine ⟨xs, e2, by rw [r.len]; exact small, same_mut (p.s.trans s) hD, _, upd_same, ?_⟩
  exact ((r.kt (KT.same s)).snoc hy).kt (KT.lst e2)
end

/-! ### how many choices of counts, as plain functions -/
def sm (f : Int → Int) : Nat → Int
  | 0 => 0
  | n + 1 => sm f n + f n
theorem sm_congr {f g : Int → Int} : ∀ n : Nat, (∀ i : Int, 0 ≤ i → i < n → f i = g i) → sm f n = sm g n
  | 0, _ => rfl
  | n + 1, h => by
    show sm f n + f n = sm g n + g n
    rw [sm_congr n fun i a b => h i a (by omega), h n (by omega) (by omega)]
theorem sm_nil : ∀ (n : Nat) (f : Int → Int), (∀ i : Int, 0 ≤ i → i < n → f i = 0) → sm f n = 0
  | 0, _, _ => rfl
  | n + 1, f, h => by
    show sm f n + f n = 0
    rw [sm_nil n f fun i a b => h i a (by omega), h n (by omega) (by omega)]
    rfl
theorem sm_add (f g : Int → Int) : ∀ n : Nat, sm (fun i => f i + g i) n = sm f n + sm g n
  | 0 => rfl
  | n + 1 => by
    show sm (fun i => f i + g i) n + (f n + g n) = (sm f n + f n) + (sm g n + g n)
    rw [sm_add f g n]
    omega
theorem sm_swap (G : Int → Int → Int) (m : Nat) : ∀ n : Nat, sm (fun i => sm (fun j => G i j) m) n = sm (fun j => sm (fun i => G i j) n) m
  | 0 => (sm_nil m _ fun _ _ _ => rfl).symm
  | n + 1 => by
    show sm (fun i => sm (fun j => G i j) m) n + sm (fun j => G n j) m = sm (fun j => sm (fun i => G i j) n + G n j) m
    rw [sm_swap G m n, sm_add]
theorem sm_first (f : Int → Int) : ∀ n : Nat, sm f (n + 1) = f 0 + sm (fun k => f (k + 1)) n
  | 0 => by
    show 0 + f (0 : Nat) = f 0 + 0
    rw [Int.zero_add, Int.add_zero]
    rfl
  | n + 1 => by
    show sm f (n + 1) + f ((n + 1 : Nat) : Int) = f 0 + (sm (fun k => f (k + 1)) n + f ((n : Int) + 1))
    rw [sm_first f n, show ((n + 1 : Nat) : Int) = (n : Int) + 1 from rfl]
    omega
theorem sm_split (f : Int → Int) (n : Nat) : ∀ m : Nat, sm f (n + m) = sm f n + sm (fun k => f (n + k)) m
  | 0 => by
    show sm f n = sm f n + 0
    omega
  | m + 1 => by
    show sm f (n + m) + f ((n + m : Nat) : Int) = sm f n + (sm (fun k => f (n + k)) m + f ((n : Int) + (m : Nat)))
    rw [sm_split f n m, show ((n + m : Nat) : Int) = (n : Int) + (m : Int) from Int.natCast_add n m]
    omega
theorem sm_back (f : Int → Int) : ∀ n : Nat, sm f n = sm (fun k => f (n - 1 - k)) n
  | 0 => rfl
  | n + 1 => by
    rw [sm_first (fun k => f (((n + 1 : Nat) : Int) - 1 - k)) n]
    show sm f n + f n = f (((n + 1 : Nat) : Int) - 1 - 0) + sm (fun k => f (((n + 1 : Nat) : Int) - 1 - (k + 1))) n
    rw [sm_back f n, show ((n + 1 : Nat) : Int) - 1 - 0 = n by omega, sm_congr n (f := fun k => f (((n + 1 : Nat) : Int) - 1 - (k + 1))) (g := fun k => f (n - 1 - k)) fun i _ _ => congrArg f (by omega)]
    omega
def wstep (l : Nat) (F : Int → Int) (t : Int) : Int := sm (fun k => F (t - k)) (l + 1)
def w0 (t : Int) : Int := if t = 0 then 1 else 0
def wFrom (F : Int → Int) (ls : List Int) : Int → Int := ls.foldl (fun F l => wstep l.toNat F) F
def wAll (ls : List Int) : Int → Int := wFrom w0 ls
theorem wAll_snoc (xs : List Int) (x : Int) : wAll (xs ++ [x]) = wstep x.toNat (wAll xs) := by
  unfold wAll wFrom
  rw [List.foldl_append]
  rfl
theorem wstep_comm (a b : Nat) (F : Int → Int) : wstep a (wstep b F) = wstep b (wstep a F) := by
  funext t
  show sm (fun i => sm (fun j => F (t - i - j)) (b + 1)) (a + 1) = sm (fun j => sm (fun i => F (t - j - i)) (a + 1)) (b + 1)
  rw [sm_swap]
  exact sm_congr _ fun j _ _ => sm_congr _ fun i _ _ => congrArg F (by omega)
theorem wFrom_in : ∀ (ls : List Int) (a : Nat) (F : Int → Int), wFrom (wstep a F) ls = wstep a (wFrom F ls)
  | [], _, _ => rfl
  | l :: r, a, F => by
    show wFrom (wstep l.toNat (wstep a F)) r = wstep a (wFrom (wstep l.toNat F) r)
    rw [wstep_comm, wFrom_in r a]
theorem wFrom_append (F : Int → Int) (a b : List Int) : wFrom F (a ++ b) = wFrom (wFrom F a) b := List.foldl_append
theorem wAll_reverse : ∀ ls : List Int, wAll ls.reverse = wAll ls
  | [] => rfl
  | l :: r => by
    rw [List.reverse_cons, wAll_snoc, wAll_reverse r]
    exact (wFrom_in r l.toNat w0).symm
/-- it is 0 below 0 and above S, and the same from both ends -/
structure Tall (F : Int → Int) (S : Int) : Prop where
  lo : ∀ t, t < 0 → F t = 0
  hi : ∀ t, S < t → F t = 0
  sy : ∀ t, F (S - t) = F t
theorem tall0 : Tall w0 0 := by
  refine ⟨fun t h => if_neg (by omega), fun t h => if_neg (by omega), fun t => ?_⟩
  unfold w0
  by_cases e : t = 0
  · rw [if_pos e, if_pos (by omega)]
  · rw [if_neg e, if_neg (by omega)]
theorem tall_step {F : Int → Int} {S : Int} (h : Tall F S) (l : Nat) : Tall (wstep l F) (S + l) := by
  refine ⟨fun t ht => sm_nil _ _ fun i a b => h.lo _ (by omega), fun t ht => sm_nil _ _ fun i a b => h.hi _ (by omega), fun t => ?_⟩
  show sm (fun k => F (S + l - t - k)) (l + 1) = sm (fun k => F (t - k)) (l + 1)
  rw [sm_back (fun k => F (t - k))]
  refine sm_congr _ fun i a b => ?_
  show F (S + l - t - i) = F (t - (((l + 1 : Nat) : Int) - 1 - i))
  rw [← h.sy]
  exact congrArg F (by omega)
theorem tall_from : ∀ (ls : List Int) (F : Int → Int) (S : Int), Tall F S → (∀ l ∈ ls, 0 ≤ l) → Tall (wFrom F ls) (S + ls.sum)
  | [], F, S, h, _ => by
    rw [List.sum_nil, Int.add_zero]
    exact h
  | l :: r, F, S, h, p => by
    rw [List.sum_cons]
    have hl := p l List.mem_cons_self
    have e : S + (l + r.sum) = S + (l.toNat : Int) + r.sum := by omega
    rw [e]
    exact tall_from r _ _ (tall_step h l.toNat) fun x hx => p x (List.mem_cons_of_mem _ hx)
theorem tall_all (ls : List Int) (p : ∀ l ∈ ls, 0 ≤ l) : Tall (wAll ls) ls.sum := by
  have h := tall_from ls w0 0 tall0 p
  rw [Int.zero_add] at h
  exact h
theorem wstep_next (l : Nat) (F : Int → Int) (t : Int) : wstep l F t = wstep l F (t - 1) + F t - F (t - 1 - l) := by
  have e : wstep l F t = F t + sm (fun k => F (t - 1 - k)) l := by
    show sm (fun k => F (t - k)) (l + 1) = _
    rw [sm_first (fun k => F (t - k)) l]
    show F (t - 0) + sm (fun k => F (t - (k + 1))) l = _
    rw [Int.sub_zero, sm_congr l (f := fun k => F (t - (k + 1))) (g := fun k => F (t - 1 - k)) fun i _ _ => congrArg F (by omega)]
  rw [e]
  show F t + sm (fun k => F (t - 1 - k)) l = (sm (fun k => F (t - 1 - k)) l + F (t - 1 - l)) + F t - F (t - 1 - l)
  omega
/-- the table of the first n -/
def tab (F : Int → Int) (n : Nat) : List Int := (List.range n).map fun i : Nat => F (i : Int)
theorem tab_len (F : Int → Int) (n : Nat) : (tab F n).length = n := by
  unfold tab
  rw [List.length_map, List.length_range]
theorem tab_at {F : Int → Int} {n i : Nat} (h : i < n) : (tab F n)[i]? = some (F (i : Int)) := by
  unfold tab
  rw [List.getElem?_map, List.getElem?_range h]
  rfl
theorem tab_snoc (F : Int → Int) (n : Nat) : tab F (n + 1) = tab F n ++ [F (n : Int)] := by
  unfold tab
  rw [List.range_succ, List.map_append]
  rfl
theorem tab_cut (F : Int → Int) (n a : Nat) : ∀ k : Nat, a + k ≤ n → (((tab F n).drop a).take k).sum = sm (fun j => F (a + j)) k
  | 0, _ => by
    rw [List.take_zero]
    rfl
  | k + 1, h => by
    rw [List.take_add_one, List.sum_append, tab_cut F n a k (by omega), List.getElem?_drop, tab_at (by omega)]
    show sm (fun j => F (a + j)) k + ([F ((a + k : Nat) : Int)] : List Int).sum = sm (fun j => F (a + j)) k + F (a + (k : Nat))
    rw [List.sum_cons, List.sum_nil, Int.add_zero, Int.natCast_add]
/-- a sum of a slice is a step -/
theorem cut_step {F : Int → Int} {S : Int} (h : Tall F S) {n t l : Nat} (ht : t < n) : (((tab F n).drop (t - l)).take (t + 1 - (t - l))).sum = wstep l F t := by
  rw [tab_cut F n _ _ (by omega)]
  show _ = sm (fun k => F ((t : Int) - k)) (l + 1)
  by_cases c : l ≤ t
  · rw [show t + 1 - (t - l) = l + 1 by omega, sm_back (fun k => F ((t : Int) - k))]
    exact sm_congr _ fun i a b => congrArg F (by omega)
  · rw [show t - l = 0 by omega, show l + 1 = (t + 1) + (l - t) by omega, sm_split, sm_nil (l - t) (fun k => F ((t : Int) - (((t + 1 : Nat) : Int) + k))) fun i a b => h.lo _ (by omega), Int.add_zero, sm_back (fun k => F ((t : Int) - k))]
    exact sm_congr _ fun i a b => congrArg F (by omega)
theorem tab_w0 (n : Nat) : tab w0 (n + 1) = 1 :: List.replicate n 0 := by
  induction n with
  | zero => rfl
  | succ n ih =>
    rw [tab_snoc, ih, List.replicate_succ', List.cons_append]
    have e : w0 ((n + 1 : Nat) : Int) = 0 := if_neg (by omega)
    rw [e]

/-! ### choices of counts, in order: plain functions -/
theorem rev_ind2 {α : Type} {P : List α → Prop} (h0 : P []) (hs : ∀ xs x, P xs → P (xs ++ [x])) (l : List α) : P l := by
  have h : ∀ n (l : List α), l.length = n → P l := by
    intro n
    induction n with
    | zero =>
      intro l e
      rw [List.length_eq_zero_iff.mp e]
      exact h0
    | succ n ih =>
      intro l e
      have ne : l ≠ [] := fun z => by
        rw [z] at e
        cases e
      rw [← List.dropLast_concat_getLast ne]
      exact hs _ _ (ih _ (by rw [List.length_dropLast]; omega))
  exact h _ l rfl
abbrev Pre := List Int × Int
def rgI (lo hi : Int) : List Int := (List.range (hi - lo).toNat).map fun (i : Nat) => lo + (i : Int)
def mx0 (x : Int) : Int := if 0 < x then x else 0
def mn2 (l x : Int) : Int := if x < l then x else l
def ext (p : Pre) (c : Int) : Pre := (p.1 ++ [c], p.2 - c)
def pItem (b l : Int) (p : Pre) : List Pre := (rgI (mx0 (p.2 - b)) (mn2 l p.2 + 1)).map (ext p)
def lItem (l : Int) (p : Pre) : List Pre := (rgI 0 (mn2 l p.2 + 1)).map (ext p)
def pStep (b l : Int) (bs : List Pre) : List Pre := (bs.map (pItem b l)).flatten
def lStep (l : Int) (bs : List Pre) : List Pre := (bs.map (lItem l)).flatten
def lAll (ls : List Int) (t : Int) : List Pre := ls.foldl (fun bs l => lStep l bs) [([], t)]
theorem lAll_snoc (ls : List Int) (l t : Int) : lAll (ls ++ [l]) t = lStep l (lAll ls t) := List.foldl_append
def due (ls : List Int) (t : Int) : List (List Int) := ((lAll ls t).filter fun p => decide (p.2 = 0)).map (·.1)
theorem mem_rg {lo hi c : Int} : c ∈ rgI lo hi ↔ lo ≤ c ∧ c < hi := by
  unfold rgI
  rw [List.mem_map]
  constructor
  · rintro ⟨i, hi', rfl⟩
    have := List.mem_range.mp hi'
    omega
  · rintro ⟨h1, h2⟩
    exact ⟨(c - lo).toNat, List.mem_range.mpr (by omega), by omega⟩
theorem rg_len (lo hi : Int) : (rgI lo hi).length = (hi - lo).toNat := by
  unfold rgI
  rw [List.length_map, List.length_range]
theorem rg_cons {lo hi : Int} (h : lo < hi) : rgI lo hi = lo :: rgI (lo + 1) hi := by
  unfold rgI
  rw [show (hi - lo).toNat = (hi - (lo + 1)).toNat + 1 by omega, List.range_succ_eq_map, List.map_cons, List.map_map]
  have e0 : lo + ((0 : Nat) : Int) = lo := by omega
  rw [e0]
  refine congrArg (List.cons lo) (List.map_congr_left fun i _ => ?_)
  show lo + ((i + 1 : Nat) : Int) = lo + 1 + (i : Int)
  omega
theorem rg_nil {lo hi : Int} (h : hi ≤ lo) : rgI lo hi = [] := by
  unfold rgI
  rw [show (hi - lo).toNat = 0 by omega]
  rfl
/-- those from d on -/
theorem rg_filter (d hi : Int) : ∀ (n : Nat) (lo : Int), (hi - lo).toNat = n → (rgI lo hi).filter (fun k => decide (d ≤ k)) = rgI (if lo < d then d else lo) hi
  | 0, lo, h => by
    rw [rg_nil (by omega), rg_nil (by split <;> omega)]
    rfl
  | n + 1, lo, h => by
    have h1 : lo < hi := by omega
    rw [rg_cons h1, List.filter_cons, rg_filter d hi n (lo + 1) (by omega)]
    by_cases c : d ≤ lo
    · rw [if_pos (decide_eq_true c), if_neg (by omega : ¬ lo + 1 < d), if_neg (by omega : ¬ lo < d), rg_cons h1]
    · rw [if_neg (by rw [decide_eq_false c]; exact Bool.false_ne_true), if_pos (by omega : lo < d)]
      by_cases c2 : lo + 1 < d
      · rw [if_pos c2]
      · rw [if_neg c2, show lo + 1 = d by omega]
/-- the program's step tells just those of the law's that can be led to an end -/
theorem item_filter {b l : Int} (hl : 0 ≤ l) (p : Pre) (hp : 0 ≤ p.2) : (lItem l p).filter (fun q => decide (q.2 ≤ b)) = if p.2 ≤ b + l then pItem b l p else [] := by
  unfold lItem pItem
  rw [List.filter_map]
  have e : ((fun q : Pre => decide (q.2 ≤ b)) ∘ ext p) = fun k => decide (p.2 - b ≤ k) := by
    funext k
    show decide (p.2 - k ≤ b) = decide (p.2 - b ≤ k)
    exact decide_eq_decide.mpr (by omega)
  rw [e, rg_filter _ _ _ 0 rfl]
  show (rgI (mx0 (p.2 - b)) (mn2 l p.2 + 1)).map (ext p) = _
  by_cases c : p.2 ≤ b + l
  · rw [if_pos c]
  · rw [if_neg c, rg_nil]
    · rfl
    · unfold mn2 mx0
      rw [if_pos (by omega : (0 : Int) < p.2 - b)]
      split <;> omega
theorem step_filter {b l : Int} (hl : 0 ≤ l) : ∀ bs : List Pre, (∀ p ∈ bs, 0 ≤ p.2) → (lStep l bs).filter (fun q => decide (q.2 ≤ b)) = pStep b l (bs.filter fun q => decide (q.2 ≤ b + l))
  | [], _ => rfl
  | p :: r, h => by
    have ih := step_filter (b := b) hl r fun q hq => h q (List.mem_cons_of_mem _ hq)
    unfold lStep pStep at ih ⊢
    rw [List.map_cons, List.flatten_cons, List.filter_append, item_filter hl p (h p List.mem_cons_self), ih, List.filter_cons]
    by_cases c : p.2 ≤ b + l
    · rw [if_pos c, if_pos (decide_eq_true c), List.map_cons, List.flatten_cons]
    · rw [if_neg c, if_neg (by rw [decide_eq_false c]; exact Bool.false_ne_true)]
      rfl
theorem all_left {t : Int} (ht : 0 ≤ t) : ∀ (ls : List Int), ∀ p ∈ lAll ls t, 0 ≤ p.2 := by
  intro ls
  refine rev_ind2 (P := fun ls => ∀ p ∈ lAll ls t, 0 ≤ p.2) (fun p hp => ?_) (fun xs x ih p hp => ?_) ls
  · have hp : p ∈ [(([], t) : Pre)] := hp
    rw [List.mem_singleton.mp hp]
    exact ht
  · rw [lAll_snoc] at hp
    unfold lStep at hp
    obtain ⟨q, hq, hpq⟩ := List.mem_flatten.mp hp
    obtain ⟨r, hr, rfl⟩ := List.mem_map.mp hq
    unfold lItem at hpq
    obtain ⟨c, hc, rfl⟩ := List.mem_map.mp hpq
    have hc := mem_rg.mp hc
    have hz := ih r hr
    show 0 ≤ r.2 - c
    unfold mn2 at hc
    split at hc <;> omega
theorem all_len (t : Int) : ∀ (ls : List Int), ∀ p ∈ lAll ls t, p.1.length = ls.length := by
  intro ls
  refine rev_ind2 (P := fun ls => ∀ p ∈ lAll ls t, p.1.length = ls.length) (fun p hp => ?_) (fun xs x ih p hp => ?_) ls
  · have hp : p ∈ [(([], t) : Pre)] := hp
    rw [List.mem_singleton.mp hp]
  · rw [lAll_snoc] at hp
    unfold lStep at hp
    obtain ⟨q, hq, hpq⟩ := List.mem_flatten.mp hp
    obtain ⟨r, hr, rfl⟩ := List.mem_map.mp hq
    unfold lItem at hpq
    obtain ⟨c, hc, rfl⟩ := List.mem_map.mp hpq
    have hz := ih r hr
    show (r.1 ++ [c]).length = (xs ++ [x]).length
    rw [List.length_append, List.length_append, hz]
    rfl
theorem mx0_b {x : Int} : 0 ≤ mx0 x ∧ (0 ≤ x → mx0 x ≤ x) ∧ (x ≤ 0 → mx0 x = 0) := by
  unfold mx0
  split <;> omega
theorem mn2_b {l x : Int} : mn2 l x ≤ l ∧ mn2 l x ≤ x ∧ (mn2 l x = l ∨ mn2 l x = x) := by
  unfold mn2
  split <;> omega
/-- the program's state behind so many rows -/
def pAt (ls : List Int) (t : Int) (i : Nat) : List Pre := (lAll (ls.take i) t).filter fun q => decide (q.2 ≤ (ls.drop i).sum)
theorem pAt_next {ls : List Int} {t : Int} {i : Nat} {l : Int} (ht : 0 ≤ t) (hl : 0 ≤ l) (h : ls[i]? = some l) : pAt ls t (i + 1) = pStep (ls.drop (i + 1)).sum l (pAt ls t i) := by
  obtain ⟨hi, e⟩ := List.getElem?_eq_some_iff.mp h
  unfold pAt
  rw [List.take_add_one, h]
  show (lAll (ls.take i ++ [l]) t).filter _ = _
  rw [lAll_snoc, step_filter hl _ (all_left ht _), List.drop_eq_getElem_cons hi, List.sum_cons, e, Int.add_comm l]
theorem pAt_end {ls : List Int} {t : Int} (ht : 0 ≤ t) : (pAt ls t ls.length).map (·.1) = due ls t := by
  unfold pAt due
  rw [List.take_length, List.drop_length]
  refine congrArg (List.map _) (List.filter_congr fun p hp => ?_)
  have := all_left ht ls p hp
  show decide (p.2 ≤ 0) = decide (p.2 = 0)
  exact decide_eq_decide.mpr (by omega)
theorem pAt_len (ls : List Int) (t : Int) (i : Nat) : (pAt ls t i).length ≤ (lAll (ls.take i) t).length := List.length_filter_le _ _
/-- there is a choice just where the total is no more than the sum -/
theorem sm_pos {f : Int → Int} : ∀ (n : Nat), (∀ i : Int, 0 ≤ i → i < n → 0 ≤ f i) → 0 ≤ sm f n ∧ ((∃ i : Int, 0 ≤ i ∧ i < n ∧ 0 < f i) → 0 < sm f n)
  | 0, _ => ⟨Int.le_refl _, fun ⟨i, a, b, _⟩ => absurd b (by omega)⟩
  | n + 1, h => by
    obtain ⟨a, b⟩ := sm_pos n fun i x y => h i x (by omega)
    have c := h n (by omega) (by omega)
    refine ⟨?_, fun ⟨i, x, y, z⟩ => ?_⟩
    · show 0 ≤ sm f n + f n
      omega
    · show 0 < sm f n + f n
      by_cases e : i = n
      · subst e
        omega
      · have := b ⟨i, x, by omega, z⟩
        omega
theorem wAll_pos : ∀ (ls : List Int), (∀ l ∈ ls, 0 ≤ l) → (∀ t, 0 ≤ wAll ls t) ∧ ∀ t, 0 ≤ t → t ≤ ls.sum → 0 < wAll ls t := by
  intro ls
  refine rev_ind2 (P := fun ls => (∀ l ∈ ls, 0 ≤ l) → (∀ t, 0 ≤ wAll ls t) ∧ ∀ t, 0 ≤ t → t ≤ ls.sum → 0 < wAll ls t) (fun _ => ⟨fun t => ?_, fun t h1 h2 => ?_⟩) (fun xs x ih h => ?_) ls
  · show 0 ≤ w0 t
    unfold w0
    split <;> decide
  · have h2 : t ≤ 0 := h2
    show 0 < w0 t
    unfold w0
    rw [if_pos (by omega)]
    decide
  · obtain ⟨a, b⟩ := ih fun l hl => h l (List.mem_append_left _ hl)
    have hx := h x (List.mem_append_right _ List.mem_cons_self)
    rw [wAll_snoc]
    have z := fun t => sm_pos (f := fun k => wAll xs (t - k)) (x.toNat + 1) fun i _ _ => a _
    refine ⟨fun t => (z t).1, fun t h1 h2 => (z t).2 ?_⟩
    rw [List.sum_append, List.sum_cons, List.sum_nil, Int.add_zero] at h2
    by_cases c : t ≤ xs.sum
    · exact ⟨0, Int.le_refl _, by omega, by rw [Int.sub_zero]; exact b t h1 c⟩
    · have sp : 0 ≤ xs.sum := by
        have hh : ∀ l ∈ xs, 0 ≤ l := fun l hl => h l (List.mem_append_left _ hl)
        clear z a b ih h h2 c
        induction xs with
        | nil => exact Int.le_refl _
        | cons y r ih =>
          rw [List.sum_cons]
          have := ih fun l hl => hh l (List.mem_cons_of_mem _ hl)
          have := hh y List.mem_cons_self
          omega
      exact ⟨t - xs.sum, by omega, by omega, by rw [show t - (t - xs.sum) = xs.sum by omega]; exact b _ sp (Int.le_refl _)⟩
theorem pAt_zero {ls : List Int} {t : Int} (h0 : ∀ l ∈ ls, 0 ≤ l) (ht : 0 ≤ t) : pAt ls t 0 = if 0 < wAll ls t then [([], t)] else [] := by
  unfold pAt
  rw [List.take_zero, List.drop_zero]
  show [(([], t) : Pre)].filter _ = _
  by_cases c : t ≤ ls.sum
  · rw [if_pos ((wAll_pos ls h0).2 t ht c), List.filter_cons, if_pos (decide_eq_true c)]
    rfl
  · have e := (tall_all ls h0).hi t (by omega)
    rw [if_neg (by omega), List.filter_cons, if_neg (by rw [decide_eq_false c]; exact Bool.false_ne_true)]
    rfl

theorem sum_le : ∀ xs : List Int, (∀ l ∈ xs, 0 ≤ l ∧ l ≤ 60) → 0 ≤ xs.sum ∧ xs.sum ≤ 60 * (xs.length : Int)
  | [], _ => ⟨Int.le_refl _, Int.le_refl _⟩
  | x :: r, h => by
    have a := h x List.mem_cons_self
    have b := sum_le r fun l hl => h l (List.mem_cons_of_mem _ hl)
    rw [List.sum_cons, List.length_cons]
    omega
theorem tab_ix {F : Int → Int} {n i : Nat} (h : i < n) : ((tab F n).map V.int)[i]? = some (.int (F (i : Int))) := by
  rw [List.getElem?_map, tab_at h]
  rfl
structure Lens (xs : List Int) : Prop where
  b : ∀ l ∈ xs, 0 ≤ l ∧ l ≤ 60
  n : xs.length ≤ 60
theorem Lens.take {xs : List Int} (h : Lens xs) (i : Nat) : Lens (xs.take i) := ⟨fun l hl => h.b l (List.mem_of_mem_take hl), Nat.le_trans (List.length_take_le' i xs) h.n⟩
theorem Lens.sum {xs : List Int} (h : Lens xs) : 0 ≤ xs.sum ∧ xs.sum ≤ 3600 := by
  have a := sum_le xs h.b
  have b := h.n
  omega
theorem Lens.tall {xs : List Int} (h : Lens xs) : Tall (wAll xs) xs.sum := tall_all xs fun l hl => (h.b l hl).1
def spOne (K : PySem.W.Frag) : Sp := fun vs H Q _ => ∃ (a : Addr) (F : Int → Int) (n : Nat) (l : Int), vs = [.ref a, .int l] ∧ SqL K H a ((tab F n).map V.int) ∧ (∀ t, t < 0 → F t = 0) ∧ (∀ t : Int, (n : Int) ≤ t → F t = 0) ∧ 0 < n ∧ n ≤ 100000 ∧ 0 ≤ l ∧ l ≤ 1000 ∧
  ∀ (H' : Hp) (q : Addr), Same H H' → H' q = some (.lst ((tab (wstep l.toNat F) (n + l.toNat)).map V.int)) → Q (.ref q) H'
def spWays (K : PySem.W.Frag) : Sp := fun vs H Q _ => ∃ (a : Addr) (xs : List Int), vs = [.ref a] ∧ SqL K H a (xs.map V.int) ∧ Lens xs ∧
  ∀ (H' : Hp) (q : Addr), Same H H' → H' q = some (.lst ((tab (wAll xs) (xs.sum.toNat + 1)).map V.int)) → Q (.ref q) H'
def spHow (K : PySem.W.Frag) : Sp := fun vs H Q _ => ∃ (a : Addr) (xs : List Int) (t : Int), vs = [.ref a, .int t] ∧ SqL K H a (xs.map V.int) ∧ Lens xs ∧
  ∀ (H' : Hp), Same H H' → Q (.int (wAll xs t)) H'
theorem cut_tab {F : Int → Int} {n t l : Nat} (ht : t < n) (lo : Int) (hlo : lo = ((t - l : Nat) : Int)) (hi : Int) (hhi : hi = ((t + 1 : Nat) : Int)) :
    cutV ((tab F n).map V.int) (some lo) (some hi) = (((tab F n).drop (t - l)).take (t + 1 - (t - l))).map V.int := by
  subst hlo hhi
  unfold cutV
  rw [HT.sIx_nat, HT.sIx_nat, List.length_map, tab_len, show min (t - l) n = t - l by omega, show min (t + 1) n = t + 1 by omega, List.map_take, List.map_drop]
theorem flat_zeros : ∀ k : Nat, (List.replicate k [V.int 0]).flatten = (List.replicate k (0 : Int)).map V.int
  | 0 => rfl
  | k + 1 => by
    rw [List.replicate_succ, List.flatten_cons, flat_zeros k, List.replicate_succ]
    rfl
theorem start_tab (k : Nat) : [V.int 1] ++ (List.replicate k [V.int 0]).flatten = (tab w0 (k + 1)).map V.int := by
  rw [flat_zeros, tab_w0]
  rfl
theorem flat_same (x : V) : ∀ k : Nat, (List.replicate k [x]).flatten = List.replicate k x
  | 0 => rfl
  | k + 1 => by
    rw [List.replicate_succ, List.flatten_cons, flat_same x k, List.replicate_succ]
    rfl
section
variable {P : Program} {w : World} {K : PySem.W.Frag} {mg : Str → Option Value} {base : Heap}
theorem has_one {cs : Nat → Addr} (T : Top K mg cs) : Has P w K mg base 1 "_with_one_more" ["many", "length"] (spOne K) := by
  refine has_of T.d__with_one_more sc__with_one_more bd__with_one_more (fun vs H Q E h => ?_) (fun f cdv A outer s H vs Q E hr h => ?_)
  · obtain ⟨a, F, n, l, rfl, _⟩ := h
    rfl
  · have hu := hu_of hr
    have nd := sc__with_one_more.nd
    obtain ⟨a, F, n, l, rfl, hS, f0, f1, n0, n1, l0, l1, k⟩ := h
    refine ⟨_, (pss_cons (ps_set (i := 2) nd rfl (.inl rfl) (pe_lst pa_nil))
    (pss_cons (ps_set (i := 3) nd rfl (.inl rfl) pe_int)
    (pss_cons (ps_for PassesOwn.never rfl (pi_range1 (by rfl) T.b_range (pa_cons (pe_op op_add (pe_callB call_len_seq (by rfl) T.b_len (by decide +kernel) (pa_cons (pv 0) pa_nil)) (pv 1)) pa_nil)) (pg_name (i := 4) nd rfl (.inl rfl))
      (C8.pss_cut (ps_if (pt_cmpR op_lt (pv 4) (pe_callB call_len_seq (by rfl) T.b_len (by decide +kernel) (pa_cons (pv 0) pa_nil)) (nomark _)) (pss_one (ps_aug (i := 3) nd rfl (.inl rfl) (pe_ix ix_list (pv 0) (pv 4) (fun _ _ => rfl)) ip_add)) pss_nil)
    (C8.pss_cut (ps_if (pt_cmpR op_gt (pv 4) (pv 1) (nomark _)) (pss_one (ps_aug (i := 3) nd rfl (.inl rfl) (pe_ix ix_list (pv 0) (pe_op op_sub (pe_op op_sub (pv 4) (pv 1)) pe_int) (fun _ _ => rfl)) ip_sub)) pss_nil)
    (pss_one (ps_expr (pe_bm PySem.F.plainAttrs_list PySem.F.slot_list_append PySem.F.type_list_append mt_append (pv 2) (pa_cons (pv 3) pa_nil)))))))
    (pss_one (ps_ret (pv 2)))))), ?_⟩
    have line : 1000000 < sizeLine := by decide
    refine ⟨by show 0 ≤ sizeLine; decide, fun D hD => ?_⟩
    have hS1 : SqL K (upd H D (.lst [])) a ((tab F n).map V.int) := (same_new hD).seq hS
    have lm : ((tab F n).map V.int).length = n := by rw [List.length_map, tab_len]
    refine ⟨_, rfl, a, _, rfl, .inl hS1, _, rfl, _, _, rfl, rfl, _, rfl, ?_, ?_, for_range (lo := 0) (fun i σ H' => ∃ v4, σ = [some (.ref a), some (.int l), some (.ref D), some (.int (wstep l.toNat F ((i : Int) - 1))), v4] ∧ Same H H' ∧
      H' D = some (.lst ((tab (wstep l.toNat F) i).map V.int))) ⟨none, ?_, same_new hD, upd_same⟩ ?_ ?_⟩
    · rw [lm]
      omega
    · rw [lm]
      omega
    · have e : wstep l.toNat F (((0 : Nat) : Int) - 1) = 0 := sm_nil _ _ fun j a b => f0 _ (by omega)
      rw [e]
      rfl
    · rintro i σ H1 hi ⟨v4, rfl, s1, h1⟩
      rw [lm] at hi
      have hi2 : i < n + l.toNat := by omega
      have hS2 := s1.seq hS
      refine ⟨fun σ' H' => H' = H1 ∧ σ' = [some (.ref a), some (.int l), some (.ref D), some (.int (wstep l.toNat F ((i : Int) - 1) + F i)), some (.int (0 + i))], ?_, ?_⟩
      · refine ⟨_, rfl, _, rfl, a, _, rfl, .inl hS2, _, _, rfl, rfl, _, rfl, ite2 (fun c => ?_) (fun c => ?_)⟩
        · have c' : (0 : Int) + i < (((tab F n).map V.int).length : Int) := of_decide_eq_true c
          rw [lm] at c'
          refine ⟨_, rfl, _, rfl, _, rfl, a, _, _, _, rfl, rfl, hS2, at_of (j := i) (by omega) (tab_ix (by omega)), _, _, rfl, rfl, rfl, rfl⟩
        · have c' : ¬ (0 : Int) + i < (((tab F n).map V.int).length : Int) := fun z => c (decide_eq_true z)
          rw [lm] at c'
          refine ⟨rfl, ?_⟩
          rw [f1 i (by omega), Int.add_zero]
          rfl
      · rintro σ' H' ⟨rfl, rfl⟩
        refine ⟨fun σ' H'' => H'' = H' ∧ σ' = [some (.ref a), some (.int l), some (.ref D), some (.int (wstep l.toNat F (i : Int))), some (.int (0 + i))], ?_, ?_⟩
        · refine ⟨_, rfl, _, rfl, _, _, rfl, rfl, _, rfl, ite2 (fun c => ?_) (fun c => ?_)⟩
          · have c' : l < (0 : Int) + i := of_decide_eq_true c
            refine ⟨_, rfl, _, rfl, _, rfl, _, rfl, _, _, rfl, rfl, _, _, rfl, rfl, a, _, _, _, rfl, rfl, hS2, at_of (j := i - l.toNat - 1) (by omega) (tab_ix (by omega)), _, _, rfl, rfl, rfl, ?_⟩
            rw [wstep_next l.toNat F i, show ((i - l.toNat - 1 : Nat) : Int) = (i : Int) - 1 - (l.toNat : Int) by omega]
            rfl
          · have c' : ¬ l < (0 : Int) + i := fun z => c (decide_eq_true z)
            refine ⟨rfl, ?_⟩
            rw [wstep_next l.toNat F i, f0 ((i : Int) - 1 - (l.toNat : Int)) (by omega), Int.sub_zero]
        · rintro σ' H'' ⟨rfl, rfl⟩
          refine ⟨_, rfl, .inl ⟨rfl, _, SqL.of h1⟩, _, rfl, D, _, _, rfl, rfl, h1, ?_, some (.int (0 + i)), ?_, same_mut s1 hD, ?_⟩
          · rw [List.length_map, tab_len]
            omega
          · rw [show ((i + 1 : Nat) : Int) - 1 = i by omega]
          · rw [upd_same, tab_snoc, List.map_append]
            rfl
    · rintro σ H1 ⟨v4, rfl, s1, h1⟩
      rw [lm, show ((n : Int) + l).toNat = n + l.toNat by omega] at h1
      exact ⟨_, rfl, k H1 D s1 h1⟩
theorem has_ways {cs : Nat → Addr} (T : Top K mg cs) (h__with_one_more : Has P w K mg base 1 "_with_one_more" ["many", "length"] (spOne K)) : Has P w K mg base 2 "ways" ["lens"] (spWays K) := by
  refine has_of T.d_ways sc_ways bd_ways (fun vs H Q E h => ?_) (fun f cdv A outer s H vs Q E hr h => ?_)
  · obtain ⟨a, xs, rfl, _⟩ := h
    rfl
  · have hu := hu_of hr
    have nd := sc_ways.nd
    obtain ⟨a, xs, rfl, hS, hl, k⟩ := h
    refine ⟨_, (pss_cons (ps_set (i := 1) nd rfl (.inl rfl) (pe_lst (pa_cons pe_int pa_nil)))
    (pss_cons (ps_for PassesOwn.never rfl (pi_list (pv 0)) (pg_name (i := 2) nd rfl (.inl rfl))
      (pss_one (ps_set (i := 1) nd rfl (.inl rfl) (pe_has h__with_one_more (hr.mono (by omega)) (by rfl) (pa_cons (pv 1) (pa_cons (pv 2) pa_nil))))))
    (pss_one (ps_ret (pv 1))))), ?_⟩
    refine ⟨by show 1 ≤ sizeLine; decide, fun D hD => ?_⟩
    refine ⟨_, rfl, a, rfl, ⟨_, (same_new hD).seq hS⟩, for_list (K := K) (a := a) (xs := xs.map V.int) (fun i σ H' => ∃ q v2, σ = [some (.ref a), some (.ref q), v2] ∧ Same H H' ∧ H' q = some (.lst ((tab (wAll (xs.take i)) ((xs.take i).sum.toNat + 1)).map V.int)))
      ⟨D, none, rfl, same_new hD, upd_same⟩ ?_ ?_ ?_⟩
    · rintro i σ H1 _ ⟨q, v2, _, s1, _⟩
      exact s1.seq hS
    · rintro i x σ H1 hi ⟨q, v2, rfl, s1, h1⟩
      obtain ⟨z, rfl, hz⟩ := int_at hi
      have tl := (hl.take i).tall
      have ts := (hl.take i).sum
      have bz := hl.b z (List.mem_of_getElem? hz)
      refine ⟨_, rfl, _, rfl, q, wAll (xs.take i), (xs.take i).sum.toNat + 1, z, rfl, SqL.of h1, tl.lo, fun t ht => tl.hi t (by omega), by omega, by omega, by omega, by omega, fun H2 q2 s2 h2 => ⟨q2, _, rfl, s1.trans s2, ?_⟩⟩
      rw [take_snoc hz, wAll_snoc, List.sum_append, List.sum_cons, List.sum_nil, show ((xs.take i).sum + (z + 0)).toNat + 1 = (xs.take i).sum.toNat + 1 + z.toNat by omega]
      exact h2
    · rintro σ H1 ⟨q, v2, rfl, s1, h1⟩
      rw [List.length_map, List.take_length] at h1
      exact ⟨_, rfl, k H1 q s1 h1⟩
theorem has_how {cs : Nat → Addr} (T : Top K mg cs) (h_ways : Has P w K mg base 2 "ways" ["lens"] (spWays K)) : Has P w K mg base 3 "how_many" ["lens", "total"] (spHow K) := by
  refine has_of T.d_how_many sc_how_many bd_how_many (fun vs H Q E h => ?_) (fun f cdv A outer s H vs Q E hr h => ?_)
  · obtain ⟨a, xs, t, rfl, _⟩ := h
    rfl
  · have hu := hu_of hr
    have nd := sc_how_many.nd
    obtain ⟨a, xs, t, rfl, hS, hl, k⟩ := h
    refine ⟨_, (pss_cons (ps_set (i := 2) nd rfl (.inl rfl) (pe_has h_ways (hr.mono (by omega)) (by rfl) (pa_cons (pv 0) pa_nil)))
    (pss_cons (ps_if (pt_chain op_le op_lt pe_int (pv 1) (pe_callB call_len_seq (by rfl) T.b_len (by decide +kernel) (pa_cons (pv 2) pa_nil))) (pss_one (ps_ret (pe_ix ix_list (pv 2) (pv 1) (fun _ _ => rfl)))) pss_nil)
    (pss_one (ps_ret pe_int)))), ?_⟩
    have tl := hl.tall
    have ts := hl.sum
    refine ⟨_, rfl, a, xs, rfl, hS, hl, fun H1 q s1 h1 => ?_⟩
    have lm : ((tab (wAll xs) (xs.sum.toNat + 1)).map V.int).length = xs.sum.toNat + 1 := by rw [List.length_map, tab_len]
    refine ⟨_, rfl, _, _, rfl, rfl, _, rfl, ite2 (fun c1 => ?_) (fun c1 => ?_)⟩
    · have c1' : 0 ≤ t := of_decide_eq_true c1
      refine ⟨_, rfl, q, _, rfl, .inl (SqL.of h1), _, _, rfl, rfl, _, rfl, ?_⟩
      rw [lm]
      refine ite2 (fun c2 => ?_) (fun c2 => ?_)
      · have c2' : t < ((xs.sum.toNat + 1 : Nat) : Int) := of_decide_eq_true c2
        refine ⟨_, rfl, _, rfl, q, _, _, _, rfl, rfl, SqL.of h1, at_of (j := t.toNat) (by omega) (tab_ix (by omega)), ?_⟩
        rw [show ((t.toNat : Nat) : Int) = t by omega]
        exact k H1 s1
      · have c2' : ¬ t < ((xs.sum.toNat + 1 : Nat) : Int) := fun z => c2 (decide_eq_true z)
        have e := tl.hi t (by omega)
        rw [e] at k
        exact k H1 s1
    · have c1' : ¬ 0 ≤ t := fun z => c1 (decide_eq_true z)
      have e := tl.lo t (by omega)
      rw [e] at k
      exact ⟨_, rfl, iteF (k H1 s1)⟩
end

/-! ### how many choices there are -/
def cntP (bs : List Pre) (r : Int) : Int := (((bs.filter fun p => decide (p.2 = r)).length : Nat) : Int)
theorem cntP_app (a b : List Pre) (r : Int) : cntP (a ++ b) r = cntP a r + cntP b r := by
  unfold cntP
  rw [List.filter_append, List.length_append]
  omega
theorem cntP_cons (p : Pre) (b : List Pre) (r : Int) : cntP (p :: b) r = (if p.2 = r then 1 else 0) + cntP b r := by
  unfold cntP
  rw [List.filter_cons]
  by_cases c : p.2 = r
  · rw [if_pos (decide_eq_true c), if_pos c, List.length_cons]
    omega
  · rw [if_neg (by rw [decide_eq_false c]; exact Bool.false_ne_true), if_neg c]
    omega
theorem sm_at (x r : Int) : ∀ n : Nat, sm (fun k => if x = r + k then 1 else 0) n = if r ≤ x ∧ x < r + n then 1 else 0
  | 0 => by
    rw [if_neg (by omega)]
    rfl
  | n + 1 => by
    show sm _ n + (if x = r + (n : Int) then 1 else 0) = _
    rw [sm_at x r n]
    by_cases c : x = r + (n : Int)
    · rw [if_pos c, if_neg (by omega), if_pos (by omega)]
      rfl
    · rw [if_neg c, Int.add_zero]
      by_cases c2 : r ≤ x ∧ x < r + (n : Int)
      · rw [if_pos c2, if_pos (by omega)]
      · rw [if_neg c2, if_neg (by omega)]
theorem rg_count (x r hi : Int) : ∀ (n : Nat) (lo : Int), (hi - lo).toNat = n → cntP ((rgI lo hi).map fun c => (([], x - c) : Pre)) r = if lo ≤ x - r ∧ x - r < hi then 1 else 0
  | 0, lo, h => by
    rw [rg_nil (by omega), if_neg (by omega)]
    rfl
  | n + 1, lo, h => by
    rw [rg_cons (by omega), List.map_cons, cntP_cons, rg_count x r hi n (lo + 1) (by omega)]
    by_cases c : x - lo = r
    · rw [if_pos c, if_neg (by omega), if_pos (by omega)]
      rfl
    · rw [if_neg c, Int.zero_add]
      by_cases c2 : lo + 1 ≤ x - r ∧ x - r < hi
      · rw [if_pos c2, if_pos (by omega)]
      · rw [if_neg c2, if_neg (by omega)]
theorem cntP_snd {bs cs : List Pre} (h : bs.map (·.2) = cs.map (·.2)) (r : Int) : cntP bs r = cntP cs r := by
  have e : ∀ l : List Pre, cntP l r = ((((l.map (·.2)).filter fun x => decide (x = r)).length : Nat) : Int) := fun l => by
    unfold cntP
    rw [List.filter_map, List.length_map]
    rfl
  rw [e, e, h]
theorem item_count {l : Int} (hl : 0 ≤ l) (p : Pre) (hp : 0 ≤ p.2) {r : Int} (hr : 0 ≤ r) : cntP (lItem l p) r = sm (fun k => if p.2 = r + k then 1 else 0) (l.toNat + 1) := by
  have e : cntP (lItem l p) r = cntP ((rgI 0 (mn2 l p.2 + 1)).map fun c => (([], p.2 - c) : Pre)) r := cntP_snd (by
    unfold lItem
    rw [List.map_map, List.map_map]
    rfl) r
  rw [e, rg_count _ _ _ _ _ rfl, sm_at]
  obtain ⟨a, b, c⟩ := mn2_b (l := l) (x := p.2)
  by_cases z : 0 ≤ p.2 - r ∧ p.2 - r < mn2 l p.2 + 1
  · rw [if_pos z, if_pos (by omega)]
  · rw [if_neg z, if_neg (by omega)]
theorem step_count {l : Int} (hl : 0 ≤ l) {r : Int} (hr : 0 ≤ r) : ∀ bs : List Pre, (∀ p ∈ bs, 0 ≤ p.2) → cntP (lStep l bs) r = sm (fun k => cntP bs (r + k)) (l.toNat + 1)
  | [], _ => by
    rw [sm_nil _ (fun k => cntP [] (r + k)) fun _ _ _ => rfl]
    rfl
  | p :: b, h => by
    have ih := step_count hl hr b fun q hq => h q (List.mem_cons_of_mem _ hq)
    have e : lStep l (p :: b) = lItem l p ++ lStep l b := rfl
    rw [e, cntP_app, item_count hl p (h p List.mem_cons_self) hr, ih, ← sm_add]
    exact sm_congr _ fun k _ _ => (cntP_cons p b _).symm
theorem all_count {t : Int} (ht : 0 ≤ t) : ∀ ls : List Int, (∀ l ∈ ls, 0 ≤ l) → ∀ r, 0 ≤ r → cntP (lAll ls t) r = wAll ls (t - r) := by
  intro ls
  refine rev_ind2 (P := fun ls => (∀ l ∈ ls, 0 ≤ l) → ∀ r, 0 ≤ r → cntP (lAll ls t) r = wAll ls (t - r)) (fun _ r hr => ?_) (fun xs x ih h r hr => ?_) ls
  · show cntP [(([], t) : Pre)] r = w0 (t - r)
    rw [cntP_cons]
    unfold w0
    by_cases c : t = r
    · rw [if_pos c, if_pos (by omega)]
      rfl
    · rw [if_neg c, if_neg (by omega)]
      rfl
  · rw [lAll_snoc, step_count (h x (List.mem_append_right _ List.mem_cons_self)) hr _ (all_left ht _), wAll_snoc]
    unfold wstep
    refine sm_congr _ fun k hk _ => ?_
    rw [ih (fun l hl => h l (List.mem_append_left _ hl)) (r + k) (by omega)]
    exact congrArg _ (by omega)
/-- as many as there are ways -/
theorem due_len {t : Int} (ht : 0 ≤ t) {ls : List Int} (h : ∀ l ∈ ls, 0 ≤ l) : (((due ls t).length : Nat) : Int) = wAll ls t := by
  have a := all_count ht ls h 0 (Int.le_refl _)
  unfold due
  rw [List.length_map]
  rw [show t - 0 = t by omega] at a
  exact a
/-- each has a count of each row, none of them too great -/
theorem due_fit {t : Int} (ht : 0 ≤ t) {ls : List Int} (h : ∀ l ∈ ls, 0 ≤ l) : ∀ c ∈ due ls t, c.length = ls.length ∧ ∀ (i : Nat) (z l : Int), c[i]? = some z → ls[i]? = some l → 0 ≤ z ∧ z ≤ l := by
  have all : ∀ (ls : List Int), (∀ l ∈ ls, 0 ≤ l) → ∀ p ∈ lAll ls t, ∀ (i : Nat) (z l : Int), p.1[i]? = some z → ls[i]? = some l → 0 ≤ z ∧ z ≤ l := by
    intro ls
    refine rev_ind2 (P := fun ls => (∀ l ∈ ls, 0 ≤ l) → ∀ p ∈ lAll ls t, ∀ (i : Nat) (z l : Int), p.1[i]? = some z → ls[i]? = some l → 0 ≤ z ∧ z ≤ l) (fun _ p hp i z l _ e => ?_) (fun xs x ih h p hp i z l ez el => ?_) ls
    · rw [List.getElem?_nil] at e
      cases e
    · rw [lAll_snoc] at hp
      unfold lStep at hp
      obtain ⟨q, hq, hpq⟩ := List.mem_flatten.mp hp
      obtain ⟨r, hr, rfl⟩ := List.mem_map.mp hq
      unfold lItem at hpq
      obtain ⟨c, hc, rfl⟩ := List.mem_map.mp hpq
      have hc := mem_rg.mp hc
      have lr := all_len t xs r hr
      have ez : (r.1 ++ [c])[i]? = some z := ez
      by_cases k : i < xs.length
      · rw [List.getElem?_append_left (by omega)] at ez el
        exact ih (fun l hl => h l (List.mem_append_left _ hl)) r hr i z l ez el
      · rw [List.getElem?_append_right (by omega)] at ez el
        have ei : i - xs.length = 0 := by
          have := (List.getElem?_eq_some_iff.mp el).1
          rw [List.length_singleton] at this
          omega
        rw [ei] at el
        rw [lr, ei] at ez
        cases el
        cases ez
        obtain ⟨a, b, _⟩ := mn2_b (l := x) (x := r.2)
        omega
  intro c hc
  unfold due at hc
  obtain ⟨p, hp, rfl⟩ := List.mem_map.mp hc
  have hp := (List.mem_filter.mp hp).1
  exact ⟨all_len t ls p hp, all ls h p hp⟩

/-! ### pieces of tuples -/
theorem cut_nat (xs : List V) (i j : Nat) : cutV xs (some (i : Int)) (some (j : Int)) = (xs.drop i).take (j - i) := by
  unfold cutV
  rw [HT.sIx_nat, HT.sIx_nat]
  by_cases h : i ≤ xs.length
  · rw [Nat.min_eq_left h]
    by_cases h2 : j ≤ xs.length
    · rw [Nat.min_eq_left h2]
    · rw [Nat.min_eq_right (by omega), List.take_of_length_le (by rw [List.length_drop]; omega), List.take_of_length_le (by rw [List.length_drop]; omega)]
  · rw [List.drop_eq_nil_of_le (by omega : xs.length ≤ min i xs.length), List.drop_eq_nil_of_le (by omega : xs.length ≤ i), List.take_nil, List.take_nil]
theorem cut_nat0 (xs : List V) (j : Nat) : cutV xs none (some (j : Int)) = xs.take j := by
  unfold cutV
  rw [HT.sIx_none, HT.sIx_nat, List.drop_zero, Nat.sub_zero]
  by_cases h2 : j ≤ xs.length
  · rw [Nat.min_eq_left h2]
  · rw [Nat.min_eq_right (by omega), List.take_of_length_le (Nat.le_refl _), List.take_of_length_le (by omega)]
section
variable {K : PySem.W.Frag} {H : Hp} {a b : Addr} {xs ys : List V} {Q : VK}
theorem tup_take {m : Nat} (ha : H a = some (.tup xs)) (k : ∀ H' r, Same H H' → H' r = some (.tup (xs.take m)) → Q (.ref r) H') : rSlA K (.ref a) none (some (m : Int)) H Q := by
  refine ⟨a, xs, rfl, SqT.of ha, fun h => ?_, fun _ p hp => ?_⟩
  · rw [HT.sIx_nat] at h
    refine k H a (Same.refl _) ?_
    rw [List.take_of_length_le (by omega)]
    exact ha
  · rw [cut_nat0]
    exact k _ p (same_new hp) upd_same
theorem tup_mid {i j : Nat} (ha : H a = some (.tup xs)) (k : ∀ H' r, Same H H' → H' r = some (.tup ((xs.drop i).take (j - i))) → Q (.ref r) H') : rSlA K (.ref a) (some (i : Int)) (some (j : Int)) H Q := by
  refine ⟨a, xs, rfl, SqT.of ha, fun h => ?_, fun _ p hp => ?_⟩
  · rw [HT.sIx_nat, HT.sIx_nat] at h
    refine k H a (Same.refl _) ?_
    have e : (xs.drop i).take (j - i) = xs := by
      rw [← cut_nat]
      unfold cutV
      rw [HT.sIx_nat, HT.sIx_nat, h.1, h.2, Nat.sub_zero, List.drop_zero, List.take_length]
    rw [e]
    exact ha
  · rw [cut_nat]
    exact k _ p (same_new hp) upd_same
theorem tup_cat (ha : H a = some (.tup xs)) (hb : H b = some (.tup ys)) (small : xs.length + ys.length ≤ sizeLine) (k : ∀ H' r, Same H H' → H' r = some (.tup (xs ++ ys)) → Q (.ref r) H') : rCatA K (.ref a) (.ref b) H Q := by
  refine ⟨a, b, xs, ys, rfl, rfl, SqT.of ha, SqT.of hb, small, fun e => ?_, fun _ e => ?_, fun _ _ p hp => k _ p (same_new hp) upd_same⟩
  · subst e
    exact k H b (Same.refl _) hb
  · subst e
    refine k H a (Same.refl _) ?_
    rw [List.append_nil]
    exact ha
end
section
variable {X : Cx}
theorem sl_tupAK {K : PySem.W.Frag} (h : X.K = K) : SlR X (rSlA K) := h ▸ sl_tupA
theorem op_catAK {K : PySem.W.Frag} (h : X.K = K) : OpR X (binaryOp .Add) (rCatA K) := h ▸ op_catA
end
theorem pg_tupK {X : Cx} {K : PySem.W.Frag} {pos : Pos} {es : List Expr} {k : Nat} {t : TGs} {n : Nat} (hK : X.K = K) (hc : X.calm = true) (h : PGs X es t)
    (hn : (assignEach es X.env).length = n := by rfl) (hst : (assignEach es X.env).findIdx? (·.1) = none := by rfl) : PG X (.Tuple es k pos) (gTup K n t) := hK ▸ pg_tup hc h hn hst
theorem iteFd {p : Prop} [Decidable p] {A B : Prop} (h : ¬ p) (b : B) : if decide p = true then A else B := by
  rw [if_neg fun z => h (of_decide_eq_true z)]
  exact b
theorem iteTd {p : Prop} [Decidable p] {A B : Prop} (h : p) (a : A) : if decide p = true then A else B := by
  rw [if_pos (decide_eq_true h)]
  exact a

/-! ### a comprehension of two fors: a list, then a range -/
section
variable {K : PySem.W.Frag} {a : Addr} {xs : List V} {g g1 : TG} {tt tt1 : TT} {te : TE} {wi1 : TI} {vs vs1 : List Nat} {σ σ2 : L2.St} {H1 H4 : Hp} {D : Addr} {Qd Nx : Hp → Prop}
theorem lc2_in {lo : Int} {n : Nat} (Pw : Nat → Hp → Prop) (h0 : Pw 0 H4)
    (hs : ∀ j H, j < n → Pw j H → g1 (.int (lo + (j : Nat))) (wipe σ2 vs1) H fun σ3 H5 => wipe σ3 vs1 = wipe σ2 vs1 ∧ tt1 σ3 H5 fun b H6 =>
      if b = true then te σ3 H6 fun y H7 => ∃ acc, H7 D = some (.lst acc) ∧ acc.length < sizeLine ∧ Pw (j + 1) (upd H7 D (.lst (acc ++ [y]))) else Pw (j + 1) H6) (hd : ∀ H, Pw n H → Nx H) :
    ∃ W1 : Nat → Nat → Hp → Prop, (∃ m, W1 0 m H4) ∧ ∀ j k H, W1 j k H → ((Itr lo n).stop j H ∧ Nx H) ∨ ((Itr lo n).go j H ∧ ∃ Nx1 : Hp → Prop, (∀ H', Nx1 H' → ∃ k', k' < k ∧ W1 (j + 1) k' H') ∧ ∀ x H', (Itr lo n).yld j H x H' → g1 x (wipe σ2 vs1) H' fun σ3 H5 => wipe σ3 vs1 = wipe σ2 vs1 ∧ tt1 σ3 H5 fun b H6 =>
      if b = true then te σ3 H6 fun y H7 => ∃ acc, H7 D = some (.lst acc) ∧ acc.length < sizeLine ∧ Nx1 (upd H7 D (.lst (acc ++ [y]))) else Nx1 H6) := by
  refine ⟨fun j m H => m = n - j ∧ j ≤ n ∧ Pw j H, ⟨n, by simp, Nat.zero_le _, h0⟩, ?_⟩
  rintro j m H ⟨rfl, hj, p⟩
  by_cases hlt : j < n
  · refine .inr ⟨hlt, Pw (j + 1), fun H' p' => ⟨n - (j + 1), by omega, rfl, hlt, p'⟩, fun x H' y => ?_⟩
    obtain ⟨e, y⟩ := y
    subst e y
    exact hs j _ hlt p
  · have e : j = n := by omega
    subst e
    exact .inl ⟨Nat.le_refl _, hd H p⟩
theorem lc2_list (Pv : Nat → Hp → Prop) (h0 : Pv 0 (upd H1 D (.lst []))) (hl : ∀ i H, i ≤ xs.length → Pv i H → SqL K H a xs)
    (hs : ∀ i x H, xs[i]? = some x → Pv i H → g x (wipe σ vs) H fun σ2 H2 => wipe σ2 vs = wipe σ vs ∧ tt σ2 H2 fun b H3 =>
      if b = true then wi1 σ2 H3 fun J1 H4 => ∃ W1 : Nat → Nat → Hp → Prop, (∃ m, W1 0 m H4) ∧ ∀ j k H, W1 j k H →
        (J1.stop j H ∧ Pv (i + 1) H) ∨ (J1.go j H ∧ ∃ Nx1 : Hp → Prop, (∀ H', Nx1 H' → ∃ k', k' < k ∧ W1 (j + 1) k' H') ∧ ∀ x H', J1.yld j H x H' → g1 x (wipe σ2 vs1) H' fun σ3 H5 => wipe σ3 vs1 = wipe σ2 vs1 ∧ tt1 σ3 H5 fun b H6 =>
          if b = true then te σ3 H6 fun y H7 => ∃ acc, H7 D = some (.lst acc) ∧ acc.length < sizeLine ∧ Nx1 (upd H7 D (.lst (acc ++ [y]))) else Nx1 H6)
      else Pv (i + 1) H3) (hd : ∀ H, Pv xs.length H → Qd H) :
    ∃ W : Nat → Nat → Hp → Prop, (∃ m, W 0 m (upd H1 D (.lst []))) ∧ ∀ i m H, W i m H →
      ((Itl K a).stop i H ∧ Qd H) ∨ ((Itl K a).go i H ∧ ∃ Nx : Hp → Prop, (∀ H', Nx H' → ∃ m', m' < m ∧ W (i + 1) m' H') ∧ ∀ x H', (Itl K a).yld i H x H' → g x (wipe σ vs) H' fun σ2 H2 => wipe σ2 vs = wipe σ vs ∧ tt σ2 H2 fun b H3 =>
        if b = true then wi1 σ2 H3 fun J1 H4 => ∃ W1 : Nat → Nat → Hp → Prop, (∃ m, W1 0 m H4) ∧ ∀ j k H, W1 j k H →
          (J1.stop j H ∧ Nx H) ∨ (J1.go j H ∧ ∃ Nx1 : Hp → Prop, (∀ H', Nx1 H' → ∃ k', k' < k ∧ W1 (j + 1) k' H') ∧ ∀ x H', J1.yld j H x H' → g1 x (wipe σ2 vs1) H' fun σ3 H5 => wipe σ3 vs1 = wipe σ2 vs1 ∧ tt1 σ3 H5 fun b H6 =>
            if b = true then te σ3 H6 fun y H7 => ∃ acc, H7 D = some (.lst acc) ∧ acc.length < sizeLine ∧ Nx1 (upd H7 D (.lst (acc ++ [y]))) else Nx1 H6)
        else Nx H3) := by
  refine ⟨fun i m H => m = xs.length - i ∧ i ≤ xs.length ∧ Pv i H, ⟨xs.length, by simp, Nat.zero_le _, h0⟩, ?_⟩
  rintro i m H ⟨rfl, hi, p⟩
  have q := hl i H hi p
  by_cases hlt : i < xs.length
  · refine .inr ⟨⟨xs, xs[i], q, by simp [hlt]⟩, Pv (i + 1), fun H' p' => ⟨xs.length - (i + 1), by omega, rfl, hlt, p'⟩, fun x H' y => ?_⟩
    obtain ⟨e, y⟩ := y
    subst e
    exact hs i x _ (y xs q) p
  · have e : i = xs.length := by omega
    subst e
    exact .inl ⟨⟨xs, q, Nat.le_refl _⟩, hd H p⟩
end
/-! ### the program's choices -/
def tI (l : List Int) : PyData := .tuple (l.map PyData.int)
def dPre (p : Pre) : PyData := .tuple [tI p.1, .int p.2]
theorem tpall_ints {H : Hp} : ∀ l : List Int, TpAll H (l.map V.int) (l.map PyData.int)
  | [] => .nil
  | x :: r => .cons (.int x) (tpall_ints r)
theorem tp_ints {H : Hp} {p : Addr} {l : List Int} (h : H p = some (.tup (l.map V.int))) : Tp H (.ref p) (tI l) := .tup h (tpall_ints l)
theorem tpall_inv {H : Hp} : ∀ {l : List Int} {xs : List V}, TpAll H xs (l.map PyData.int) → xs = l.map V.int
  | [], _, h => by
    cases h
    rfl
  | x :: r, _, h => by
    cases h with
    | cons a b =>
      cases a
      rw [tpall_inv b]
      rfl
theorem tp_pre {H : Hp} {v : V} {p : Pre} (h : Tp H v (dPre p)) : ∃ a b, v = .ref a ∧ H a = some (.tup [.ref b, .int p.2]) ∧ H b = some (.tup (p.1.map V.int)) := by
  unfold dPre at h
  cases h with
  | tup ha r =>
    cases r with
    | cons h1 r =>
      cases r with
      | cons h2 r =>
        cases r
        cases h2
        unfold tI at h1
        cases h1 with
        | tup hb rb => exact ⟨_, _, rfl, ha, by rw [hb, tpall_inv rb]⟩
def Fine (xs : List Int) (t : Int) : Prop := ∀ i, (lAll (xs.take i) t).length ≤ 1000000
theorem same_freeX {H H' : Hp} {p : Addr} (s : Same H H') (h : H' p = none) : H p = none := by
  cases e : H p with
  | none => rfl
  | some o =>
    rw [s _ _ e] at h
    cases h
/-- each that can be led to an end leads to one more at least -/
theorem pAt_up {ls : List Int} {t : Int} (h0 : ∀ l ∈ ls, 0 ≤ l) (ht : 0 ≤ t) {i : Nat} (hi : i < ls.length) : (pAt ls t i).length ≤ (pAt ls t (i + 1)).length := by
  have hl := h0 _ (List.getElem_mem hi)
  rw [pAt_next ht hl (List.getElem?_eq_getElem hi)]
  have bd : 0 ≤ (ls.drop (i + 1)).sum := by
    have : ∀ l : List Int, (∀ x ∈ l, 0 ≤ x) → 0 ≤ l.sum := fun l => by
      induction l with
      | nil => exact fun _ => Int.le_refl _
      | cons y l ih =>
        intro z
        rw [List.sum_cons]
        have a := ih fun x hx => z x (List.mem_cons_of_mem _ hx)
        have b := z y List.mem_cons_self
        omega
    exact this _ fun x hx => h0 x (List.mem_of_mem_drop hx)
  have ed : (ls.drop i).sum = ls[i] + (ls.drop (i + 1)).sum := by rw [List.drop_eq_getElem_cons hi, List.sum_cons]
  have key : ∀ bs : List Pre, (∀ p ∈ bs, 0 ≤ p.2 ∧ p.2 ≤ ls[i] + (ls.drop (i + 1)).sum) → bs.length ≤ (pStep (ls.drop (i + 1)).sum ls[i] bs).length := by
    generalize (ls.drop (i + 1)).sum = b at bd
    generalize ls[i] = l at hl
    intro bs
    induction bs with
    | nil => exact fun _ => Nat.zero_le _
    | cons p bs ih =>
      intro h
      obtain ⟨p0, p1⟩ := h p List.mem_cons_self
      have r := ih fun q hq => h q (List.mem_cons_of_mem _ hq)
      have one : 1 ≤ (pItem b l p).length := by
        unfold pItem
        rw [List.length_map, rg_len]
        have a := mx0_b (x := p.2 - b)
        have c := mn2_b (l := l) (x := p.2)
        have : mx0 (p.2 - b) ≤ mn2 l p.2 := by
          rcases c.2.2 with e | e <;> rw [e]
          · by_cases z : 0 ≤ p.2 - b
            · have := a.2.1 z
              omega
            · rw [a.2.2 (by omega)]
              exact hl
          · by_cases z : 0 ≤ p.2 - b
            · have := a.2.1 z
              omega
            · rw [a.2.2 (by omega)]
              exact p0
        omega
      unfold pStep at r ⊢
      rw [List.map_cons, List.flatten_cons, List.length_append, List.length_cons]
      omega
  refine key _ fun p hp => ?_
  unfold pAt at hp
  obtain ⟨h1, h2⟩ := List.mem_filter.mp hp
  have h2 := of_decide_eq_true h2
  exact ⟨all_left ht _ p h1, by omega⟩
theorem pAt_few {ls : List Int} {t : Int} (h0 : ∀ l ∈ ls, 0 ≤ l) (ht : 0 ≤ t) (few : wAll ls t ≤ 3003) : ∀ i, i ≤ ls.length → (pAt ls t i).length ≤ 1000000 := by
  have top : (pAt ls t ls.length).length ≤ 3003 := by
    have e := congrArg List.length (pAt_end (ls := ls) ht)
    rw [List.length_map] at e
    have := due_len ht h0
    omega
  have down : ∀ k i, i + k = ls.length → (pAt ls t i).length ≤ 3003 := fun k => by
    induction k with
    | zero =>
      intro i e
      rw [show i = ls.length by omega]
      exact top
    | succ k ih =>
      intro i e
      have := ih (i + 1) (by omega)
      have := pAt_up h0 ht (show i < ls.length by omega)
      omega
  intro i hi
  have := down (ls.length - i) i (by omega)
  omega
def spChs (C : Addr) (K : PySem.W.Frag) : Sp := fun vs H Q E => ∃ (a : Addr) (xs : List Int) (t : Int), vs = [.ref a, .int t] ∧ SqL K H a (xs.map V.int) ∧ Lens xs ∧ 0 ≤ t ∧ t ≤ 4000 ∧
  ((wAll xs t ≤ 3003 ∧ ∀ (H' : Hp) (q : Addr) (ys : List V), Same H H' → H q = none → H' q = some (.lst ys) → TpAll H' ys ((due xs t).map tI) → Q (.ref q) H') ∨
   (3003 < wAll xs t ∧ wAll xs t < 10 ^ 18 ∧ ∀ (H' : Hp) (d : Addr), Same H H' → H d = none → H' d = some (.xd [("many", .int (wAll xs t))]) → E (.ref C) (some d) H'))
section
variable {P : Program} {w : World} {K : PySem.W.Frag} {mg : Str → Option Value} {base : Heap}
theorem has_choices {C : Addr} {cs : Nat → Addr} (T : Top K mg cs) (h_TooMany : HasC P w K mg base C "TooMany" ["self", "many"] (spI1 C "many")) (h_how_many : Has P w K mg base 3 "how_many" ["lens", "total"] (spHow K)) : HasX P w K mg base 5 "choices" ["lens", "total"] (spChs C K) := by
  refine has_ofX T.d_choices sc_choices bd_choices (fun vs H Q E h => ?_) (fun f cdv A outer s H vs Q E hr h => ?_)
  · obtain ⟨a, xs, t, rfl, _⟩ := h
    rfl
  · have hu := hu_of hr
    have nd := sc_choices.nd
    obtain ⟨a, xs, t, rfl, ha, L, t0, t1, hcase⟩ := h
    refine ⟨_, (pss_cons (ps_set (i := 2) nd rfl (.inl rfl) (pe_has h_how_many (hr.mono (by omega)) (by rfl) (pa_cons (pv 0) (pa_cons (pv 1) pa_nil))))
    (pss_cons (ps_if (pt_cmpR op_gt (pv 2) (pe_const T.c_MOST_CHOICES (by rfl)) (nomark _)) (pss_one (ps_raise rfl (takes_of rfl rfl rfl rfl) (pmk_hasC h_TooMany (hr.mono (by omega)) (by rfl) (pa_cons (pv 2) pa_nil)))) pss_nil)
    (pss_cons (ps_set (i := 3) nd rfl (.inl rfl) (pe_lst pa_nil))
    (C8.pss_cut (ps_if (pt_cmpR op_gt (pv 2) pe_int (nomark _)) (pss_one (ps_set (i := 3) nd rfl (.inl rfl) (pe_lst (pa_cons (pe_tup (pa_cons (pe_tup pa_nil) (pa_cons (pv 1) pa_nil))) pa_nil)))) pss_nil)
    (pss_cons (ps_set (i := 4) nd rfl (.inr rfl) (pe_callB (cr_sum rfl) (by rfl) T.b_sum (by decide +kernel) (pa_cons (pv 0) pa_nil)))
    (pss_cons (ps_for (passes_of rfl) rfl (pi_list (pv 0)) (pg_name (i := 5) nd rfl (.inr rfl))
      (pss_cons (ps_aug (i := 4) nd rfl (.inr rfl) (pv 5) ip_sub)
    (pss_one (ps_setLc2 (i := 3) (own := [("counts", 6), ("left", 7), ("count", 8)]) (vs1 := [8]) (by rfl) nd rfl rfl (sw_true rfl rfl rfl (by decide +kernel)) (pi_list (pv 3)) (blkOk_by (own := [("counts", 6), ("left", 7), ("count", 8)]) (N := nm_choices) (sc := defScope s_choices) (by decide +kernel)) (by decide) (fun _ _ _ _ _ => pg_tupK (K := K) (n := 2) rfl (by rfl) (pgs_cons (pg_name (i := 6) nd rfl (.inl rfl)) (pgs_cons (pg_name (i := 7) nd rfl (.inl rfl)) pgs_nil))) (fun _ _ _ _ _ => pts_nil) (fun _ _ _ _ _ => (pi_range2 (by rfl) T.b_range (pa_cons (pe_callB (call_max2 rfl) (by rfl) T.b_max (by decide +kernel) (pa_cons pe_int (pa_cons (pe_op op_sub (pv 7) (pv 4)) pa_nil))) (pa_cons (pe_op op_add (pe_callB (call_min2 rfl) (by rfl) T.b_min (by decide +kernel) (pa_cons (pv 5) (pa_cons (pv 7) pa_nil))) pe_int) pa_nil)))) (fun _ _ _ _ _ => pg_name (i := 8) nd rfl (.inl rfl)) (fun _ _ _ _ _ => pts_nil) (fun _ _ _ _ _ => (pe_tup (pa_cons (pe_op (op_catAK (K := K) rfl) (pv 6) (pe_tup (pa_cons (pv 8) pa_nil))) (pa_cons (pe_op op_sub (pv 7) (pv 8)) pa_nil))))))))
    (pss_one (ps_ret (pe_lc (own := [("counts", 6), ("left", 7)]) (by rfl) nd (pi_list (pv 3)) (blkOk_by (own := [("counts", 6), ("left", 7)]) (N := nm_choices) (sc := defScope s_choices) (by decide +kernel)) (fun _ _ _ _ _ => pg_tupK (K := K) (n := 2) rfl (by rfl) (pgs_cons (pg_name (i := 6) nd rfl (.inl rfl)) (pgs_cons (pg_name (i := 7) nd rfl (.inl rfl)) pgs_nil))) (fun _ _ _ _ _ => pts_nil) (fun _ _ _ _ _ => (pv 6))))))))))), ?_⟩
    have line : (5000000 : Nat) < sizeLine := by decide
    have nn : ∀ l ∈ xs, 0 ≤ l := fun l hl => (L.b l hl).1
    refine ⟨_, rfl, _, rfl, a, xs, t, rfl, ha, L, fun H1 s1 => ?_⟩
    have ha1 := s1.seq ha
    rcases hcase with ⟨few, k⟩ | ⟨many, m18, kE⟩
    rotate_left
    · refine ⟨_, rfl, _, _, rfl, rfl, _, rfl, iteTd (by show (3003 : Int) < wAll xs t; exact many) ⟨_, rfl, by show 1 ≤ 1000; decide, fun b nb => ⟨b, _, rfl, ?_, upd_same, fun dx ndx ne => ⟨rfl, .inr ⟨dx, [("many", .int (wAll xs t))], upd_same, ?_, ?_, ?_⟩⟩⟩⟩⟩
      · exact .int _ (by omega)
      · rw [upd_ne ne, upd_same]
      · rwa [upd_ne ne] at ndx
      · rw [upd_ne ne] at ndx
        have nH : ∀ {c : Addr}, H1 c = none → H c = none := fun {c} e => by
          cases z : H c with
          | none => rfl
          | some o =>
            rw [s1 _ _ z] at e
            cases e
        refine kE _ dx (fun c o e => ?_) (nH ndx) upd_same
        have cd : c ≠ dx := ne_of_none e (nH ndx)
        have cb : c ≠ b := ne_of_none e (nH nb)
        rw [upd_ne cd, del_ne cb, upd_ne cb, upd_ne cd, upd_ne cb]
        exact s1 _ _ e
    refine ⟨_, rfl, _, _, rfl, rfl, _, rfl, iteFd (by show ¬ (3003 : Int) < wAll xs t; omega) ?_⟩
    refine ⟨by show 0 ≤ sizeLine; decide, fun l1 n1 => ?_⟩
    have s2 := s1.trans (same_new (o := .lst []) n1)
    have hl1 : (upd H1 l1 (.lst [])) l1 = some (.lst []) := upd_same
    generalize upd H1 l1 (.lst []) = H2 at s2 hl1
    refine ⟨fun σ' H' => ∃ (B : Addr) (vs : List V), σ' = [some (.ref a), some (.int t), some (.int (wAll xs t)), some (.ref B), none, none, none, none, none] ∧ Same H H' ∧ H' B = some (.lst vs) ∧ TpAll H' vs ((pAt xs t 0).map dPre), ?_, ?_⟩
    · rw [pAt_zero nn t0]
      refine ⟨_, rfl, _, _, rfl, rfl, _, rfl, ite2 (fun c => ?_) (fun c => ?_)⟩
      · have c := of_decide_eq_true c
        rw [if_pos c]
        refine ⟨by show 0 ≤ sizeLine; decide, fun p1 m1 => ⟨_, rfl, by show 2 ≤ sizeLine; decide, fun p2 m2 => ⟨by show 1 ≤ sizeLine; decide, fun p3 m3 => ⟨p3, [.ref p2], rfl, ((s2.trans (same_new m1)).trans (same_new m2)).trans (same_new m3), upd_same, ?_⟩⟩⟩⟩
        refine TpAll.kt (KT.new m3) (.cons ?_ .nil)
        exact .new m2 (.cons (.new m1 .nil) (.cons (.int t) .nil))
      · rw [if_neg (fun z => c (decide_eq_true z))]
        exact ⟨l1, [], rfl, s2, hl1, .nil⟩
    · rintro σ' H3 ⟨B, vs, rfl, s3, hB, tB⟩
      refine ⟨_, rfl, a, _, rfl, s3.seq ha, ?_⟩
      refine ⟨_, rfl, a, rfl, ⟨_, s3.seq ha⟩, for_list (K := K) (a := a) (xs := xs.map V.int) (fun i σ H' => ∃ (B : Addr) (vs : List V) (v5 : Option V), σ = [some (.ref a), some (.int t), some (.int (wAll xs t)), some (.ref B), some (.int (xs.drop i).sum), v5, none, none, none] ∧ Same H H' ∧ H' B = some (.lst vs) ∧ TpAll H' vs ((pAt xs t i).map dPre))
        ⟨B, vs, none, by rw [List.drop_zero]; rfl, s3, hB, tB⟩ ?_ ?_ ?_⟩
      · rintro i σ H' _ ⟨_, _, _, _, s', _⟩
        exact s'.seq ha
      · rintro i x σ H4 hi ⟨B, vs, v5, rfl, s4, hB, tB⟩
        obtain ⟨l, rfl, hl⟩ := int_at hi
        obtain ⟨li, el⟩ := List.getElem?_eq_some_iff.mp hl
        have lm := L.b l (List.mem_of_getElem? hl)
        have ed : (xs.drop i).sum - l = (xs.drop (i + 1)).sum := by
          rw [List.drop_eq_getElem_cons li, List.sum_cons, el]
          omega
        have bd : 0 ≤ (xs.drop (i + 1)).sum ∧ (xs.drop (i + 1)).sum ≤ 3600 := by
          have z := sum_le (xs.drop (i + 1)) fun y hy => L.b y (List.mem_of_mem_drop hy)
          have := L.n
          rw [List.length_drop] at z
          omega
        have full := pAt_next t0 lm.1 hl
        have lfull : (pAt xs t (i + 1)).length ≤ 1000000 := pAt_few (fun y hy => (L.b y hy).1) t0 few (i + 1) (by omega)
        rw [full] at lfull
        have left : ∀ p ∈ pAt xs t i, 0 ≤ p.2 ∧ p.2 ≤ 3660 ∧ p.1.length ≤ 60 := fun p hp => by
          unfold pAt at hp
          obtain ⟨h1, h2⟩ := List.mem_filter.mp hp
          have h2 := of_decide_eq_true h2
          refine ⟨all_left t0 _ p h1, by omega, ?_⟩
          rw [all_len t _ p h1, List.length_take]
          have := L.n
          omega
        generalize pAt xs t i = bs at tB full lfull left
        rw [← ed] at full lfull bd
        have lv := tB.len
        rw [List.length_map] at lv
        refine ⟨_, rfl, _, rfl, _, _, rfl, rfl, ?_⟩
        refine ⟨_, rfl, B, rfl, ⟨_, SqL.of hB⟩, fun D hD => lc2_list (xs := vs) (fun ii H5 => TpT H4 H5 D ((pStep ((xs.drop i).sum - l) l (bs.take ii)).map dPre)) (TpT.new hD) (fun ii H5 _ p => SqL.of (p.s _ _ hB)) (fun ii x H5 hx p => ?_) (fun H5 p => ?_)⟩
        · have hii : ii < bs.length := by
            rw [← lv]
            exact (List.getElem?_eq_some_iff.mp hx).1
          have hp0 : bs[ii]? = some bs[ii] := List.getElem?_eq_getElem hii
          have lp := left _ (List.getElem_mem hii)
          generalize bs[ii] = p0 at hp0 lp
          obtain ⟨v, hv, tv⟩ := tB.get (show (bs.map dPre)[ii]? = some (dPre p0) by rw [List.getElem?_map, hp0]; rfl)
          rw [hx] at hv
          cases hv
          obtain ⟨c, cb, rfl, hc4, hcb4⟩ := tp_pre tv
          have hc := p.s _ _ hc4
          have est : pStep ((xs.drop i).sum - l) l (bs.take (ii + 1)) = pStep ((xs.drop i).sum - l) l (bs.take ii) ++ pItem ((xs.drop i).sum - l) l p0 := by
            unfold pStep
            rw [List.take_add_one, hp0, List.map_append, List.flatten_append]
            show _ ++ ([p0].map (pItem ((xs.drop i).sum - l) l)).flatten = _
            rw [List.map_cons, List.map_nil, List.flatten_cons, List.flatten_nil, List.append_nil]
          have lst : (pStep ((xs.drop i).sum - l) l (bs.take ii)).length + (pItem ((xs.drop i).sum - l) l p0).length ≤ 1000000 := by
            have e : pStep ((xs.drop i).sum - l) l bs = pStep ((xs.drop i).sum - l) l (bs.take (ii + 1)) ++ pStep ((xs.drop i).sum - l) l (bs.drop (ii + 1)) := by
              unfold pStep
              rw [← List.flatten_append, ← List.map_append, List.take_append_drop]
            rw [e, est, List.length_append, List.length_append] at lfull
            omega
          have li : (pItem ((xs.drop i).sum - l) l p0).length = (mn2 l p0.2 + 1 - mx0 (p0.2 - ((xs.drop i).sum - l))).toNat := by
            unfold pItem
            rw [List.length_map, rg_len]
          refine ⟨c, _, rfl, SqT.of hc, rfl, _, _, rfl, _, _, rfl, rfl, rfl, yes_go ⟨_, rfl, _, rfl, _, _, rfl, rfl, _, _, rfl, _, rfl, _, rfl, _, _, rfl, _, _, rfl, rfl, _, _, rfl, ?_, ?_⟩⟩
          · show -(2 ^ 62) ≤ mx0 (p0.2 - ((xs.drop i).sum - l)) ∧ mx0 (p0.2 - ((xs.drop i).sum - l)) < 2 ^ 62 ∧ -(2 ^ 62) ≤ mn2 l p0.2 + 1 ∧ mn2 l p0.2 + 1 < 2 ^ 62
            obtain ⟨z1, z2, z3⟩ := mx0_b (x := p0.2 - ((xs.drop i).sum - l))
            obtain ⟨y1, y2, y3⟩ := mn2_b (l := l) (x := p0.2)
            have e62 : (2 : Int) ^ 62 = 4611686018427387904 := by decide
            rw [e62]
            by_cases c0 : 0 ≤ p0.2 - ((xs.drop i).sum - l)
            · have := z2 c0
              omega
            · have := z3 (by omega)
              omega
          · refine lc2_in (lo := mx0 (p0.2 - ((xs.drop i).sum - l))) (n := (mn2 l p0.2 + 1 - mx0 (p0.2 - ((xs.drop i).sum - l))).toNat) (fun j H6 => TpT H4 H6 D ((pStep ((xs.drop i).sum - l) l (bs.take ii) ++ (pItem ((xs.drop i).sum - l) l p0).take j).map dPre)) ?_ (fun j H6 hj p6 => ?_) (fun H6 p6 => ?_)
            · rw [List.take_zero, List.append_nil]
              exact p
            · have gj : (pItem ((xs.drop i).sum - l) l p0)[j]? = some (ext p0 (mx0 (p0.2 - ((xs.drop i).sum - l)) + ((j : Nat) : Int))) := by
                unfold pItem rgI
                rw [List.getElem?_map, List.getElem?_map, List.getElem?_range hj]
                rfl
              generalize mx0 (p0.2 - ((xs.drop i).sum - l)) + ((j : Nat) : Int) = ct at gj
              refine ⟨rfl, yes_go ⟨_, rfl, _, rfl, by show 1 ≤ sizeLine; decide, fun q1 m1 => tup_cat (same_new m1 _ _ (p6.s _ _ hcb4)) upd_same (by rw [List.length_map]; show p0.1.length + 1 ≤ _; omega) fun H7 r s7 h7 => ⟨_, rfl, _, rfl, _, _, rfl, rfl, by show 2 ≤ sizeLine; decide, fun q2 m2 => ?_⟩⟩⟩
              have h7' : H7 r = some (.tup ((p0.1 ++ [ct]).map V.int)) := by
                rw [h7, List.map_append]
                rfl
              rw [List.take_add_one, gj, ← List.append_assoc, List.map_append]
              refine p6.put hD (((same_new m1).trans s7).trans (same_new m2)) ?_ (.new m2 (.cons (tp_ints h7') (.cons (.int _) .nil)))
              have := List.length_take_le j (pItem ((xs.drop i).sum - l) l p0)
              rw [List.length_map, List.length_append]
              omega
            · rw [← li, List.take_length, ← est] at p6
              exact p6
        · rw [lv, List.take_length, ← full] at p
          obtain ⟨ys, hD5, tD⟩ := p.ex
          exact ⟨D, ys, some (.int l), by rw [← ed]; rfl, s4.trans p.s, hD5, tD⟩
      · rintro σ H4 ⟨B, vs, v5, rfl, s4, hB, tB⟩
        rw [List.length_map] at tB
        have lv := tB.len
        rw [List.length_map] at lv
        have e := pAt_end (ls := xs) t0
        have fn : (pAt xs t xs.length).length ≤ 1000000 := pAt_few (fun y hy => (L.b y hy).1) t0 few xs.length (Nat.le_refl _)
        generalize pAt xs t xs.length = bs at tB e lv fn
        refine ⟨_, rfl, B, rfl, ⟨_, SqL.of hB⟩, fun D hD => lc_list (xs := vs) (fun ii H5 => TpT H4 H5 D ((bs.take ii).map fun p => tI p.1)) (TpT.new hD) (fun ii H5 _ p => SqL.of (p.s _ _ hB)) (fun ii x H5 hx p => ?_) (fun H5 p => ?_)⟩
        · have hii : ii < bs.length := by
            rw [← lv]
            exact (List.getElem?_eq_some_iff.mp hx).1
          have hp0 : bs[ii]? = some bs[ii] := List.getElem?_eq_getElem hii
          generalize bs[ii] = p0 at hp0
          obtain ⟨v, hv, tv⟩ := tB.get (show (bs.map dPre)[ii]? = some (dPre p0) by rw [List.getElem?_map, hp0]; rfl)
          rw [hx] at hv
          cases hv
          obtain ⟨c, cb, rfl, hc, hcb⟩ := tp_pre (tv.kt (KT.same p.s))
          refine ⟨c, _, rfl, SqT.of hc, rfl, _, _, rfl, _, _, rfl, rfl, rfl, yes_go ⟨_, rfl, ?_⟩⟩
          rw [List.take_add_one, hp0, List.map_append]
          exact p.put hD (Same.refl _) (by rw [List.length_map]; have := List.length_take_le ii bs; omega) (tp_ints hcb)
        · rw [lv, List.take_length] at p
          obtain ⟨ys, hD5, tD⟩ := p.ex
          refine k H5 D ys (s4.trans p.s) (same_freeX s4 hD) hD5 ?_
          rw [← e, List.map_map]
          exact tD
end

/-! ### how many choices there are at most -/
structure Bnd (F : Int → Int) (T : Int) : Prop where
  b : ∀ (a : Int) (n : Nat), sm (fun k => F (a - k)) n ≤ T
theorem sm_mul (c : Int) (f : Int → Int) : ∀ n : Nat, (∀ i : Int, 0 ≤ i → i < n → f i ≤ c) → sm f n ≤ (n : Int) * c
  | 0, _ => by
    show (0 : Int) ≤ 0 * c
    omega
  | n + 1, h => by
    have a := sm_mul c f n fun i x y => h i x (by omega)
    have b := h n (by omega) (by omega)
    show sm f n + f n ≤ ((n + 1 : Nat) : Int) * c
    rw [show ((n + 1 : Nat) : Int) = (n : Int) + 1 from rfl, Int.add_mul, Int.one_mul]
    omega
theorem bnd0 : Bnd w0 1 := by
  refine ⟨fun a n => ?_⟩
  have z : ∀ n : Nat, sm (fun k => w0 (a - k)) n = if 0 ≤ a ∧ a < (n : Int) then 1 else 0 := by
    intro n
    induction n with
    | zero => exact (if_neg (by omega)).symm
    | succ n ih =>
      show sm (fun k => w0 (a - k)) n + w0 (a - n) = _
      rw [ih]
      unfold w0
      by_cases c : a = n
      · rw [if_neg (by omega), if_pos (by omega), if_pos (by omega)]
        rfl
      · rw [if_neg (by omega : ¬ a - (n : Int) = 0), Int.add_zero]
        by_cases c2 : 0 ≤ a ∧ a < (n : Int)
        · rw [if_pos c2, if_pos (by omega)]
        · rw [if_neg c2, if_neg (by omega)]
  rw [z]
  split <;> decide
theorem bnd_step {F : Int → Int} {T : Int} (h : Bnd F T) (l : Nat) : Bnd (wstep l F) (((l + 1 : Nat) : Int) * T) := by
  refine ⟨fun a n => ?_⟩
  have e : sm (fun k => wstep l F (a - k)) n = sm (fun j => sm (fun k => F (a - j - k)) n) (l + 1) := by
    show sm (fun k => sm (fun j => F (a - k - j)) (l + 1)) n = _
    rw [sm_swap]
    exact sm_congr _ fun j _ _ => sm_congr _ fun k _ _ => congrArg F (by omega)
  rw [e]
  exact sm_mul T _ _ fun j _ _ => h.b (a - j) n
theorem bnd_all {b : Nat} : ∀ ls : List Int, (∀ l ∈ ls, 0 ≤ l ∧ l + 1 ≤ (b : Int)) → ∃ T : Int, Bnd (wAll ls) T ∧ 0 ≤ T ∧ T ≤ ((b ^ ls.length : Nat) : Int) := by
  intro ls
  refine rev_ind2 (P := fun ls => (∀ l ∈ ls, 0 ≤ l ∧ l + 1 ≤ (b : Int)) → ∃ T : Int, Bnd (wAll ls) T ∧ 0 ≤ T ∧ T ≤ ((b ^ ls.length : Nat) : Int)) (fun _ => ⟨1, bnd0, by decide, Int.le_refl _⟩) (fun xs x ih h => ?_) ls
  obtain ⟨T, h1, h0, h2⟩ := ih fun l hl => h l (List.mem_append_left _ hl)
  have hx := h x (List.mem_append_right _ List.mem_cons_self)
  refine ⟨((x.toNat + 1 : Nat) : Int) * T, ?_, Int.mul_nonneg (by omega) h0, ?_⟩
  · rw [wAll_snoc]
    exact bnd_step h1 _
  · rw [List.length_append, List.length_singleton, Nat.pow_succ, Nat.mul_comm, Int.natCast_mul]
    exact Int.mul_le_mul (by omega) h2 h0 (by omega)
/-- one row less in the power -/
theorem wAll_le {b : Nat} (xs : List Int) (x t : Int) (h : ∀ l ∈ xs ++ [x], 0 ≤ l ∧ l + 1 ≤ (b : Int)) : wAll (xs ++ [x]) t ≤ ((b ^ xs.length : Nat) : Int) := by
  obtain ⟨T, h1, _, h2⟩ := bnd_all xs fun l hl => h l (List.mem_append_left _ hl)
  rw [wAll_snoc]
  exact Int.le_trans (h1.b t _) h2
/-! begun choices -/
theorem item_len (l : Int) (p : Pre) (h : 0 ≤ l) : ((lItem l p).length : Int) ≤ l + 1 := by
  unfold lItem
  rw [List.length_map, rg_len]
  have := (mn2_b (l := l) (x := p.2)).1
  omega
theorem step_len {b : Nat} (l : Int) (h : 0 ≤ l ∧ l + 1 ≤ (b : Int)) : ∀ bs : List Pre, (lStep l bs).length ≤ b * bs.length
  | [] => Nat.zero_le _
  | p :: r => by
    have ih := step_len l h r
    have a := item_len l p h.1
    unfold lStep at ih ⊢
    rw [List.map_cons, List.flatten_cons, List.length_append, List.length_cons, Nat.mul_succ]
    omega
theorem all_few {b : Nat} (t : Int) : ∀ ls : List Int, (∀ l ∈ ls, 0 ≤ l ∧ l + 1 ≤ (b : Int)) → (lAll ls t).length ≤ b ^ ls.length := by
  intro ls
  refine rev_ind2 (P := fun ls => (∀ l ∈ ls, 0 ≤ l ∧ l + 1 ≤ (b : Int)) → (lAll ls t).length ≤ b ^ ls.length) (fun _ => Nat.le_refl _) (fun xs x ih h => ?_) ls
  have a := ih fun l hl => h l (List.mem_append_left _ hl)
  have hx := h x (List.mem_append_right _ List.mem_cons_self)
  rw [lAll_snoc, List.length_append, List.length_singleton, Nat.pow_succ, Nat.mul_comm]
  exact Nat.le_trans (step_len x hx _) (Nat.mul_le_mul_left _ a)
theorem fine_few {b m : Nat} {ls : List Int} {t : Int} (hb : 1 ≤ b) (h : ∀ l ∈ ls, 0 ≤ l ∧ l + 1 ≤ (b : Int)) (hm : ls.length ≤ m) (small : b ^ m ≤ 1000000) : Fine ls t := fun i => by
  refine Nat.le_trans (all_few t (ls.take i) fun l hl => h l (List.mem_of_mem_take hl)) (Nat.le_trans (Nat.pow_le_pow_right hb ?_) small)
  rw [List.length_take]
  omega
/-! rows of one each -/
def wgt (m : Nat) (bs : List Pre) : Nat := (bs.map fun p => (m + 1) ^ p.2.toNat).sum
theorem wgt_app (m : Nat) (a b : List Pre) : wgt m (a ++ b) = wgt m a + wgt m b := by
  unfold wgt
  rw [List.map_append, List.sum_append]
theorem wgt_zero : ∀ bs : List Pre, wgt 0 bs = bs.length
  | [] => rfl
  | p :: r => by
    have ih := wgt_zero r
    unfold wgt at ih ⊢
    rw [List.map_cons, List.sum_cons, ih, List.length_cons, Nat.zero_add, Nat.one_pow]
    omega
theorem pow_two (m : Nat) : ∀ r : Nat, (m + 1) ^ (r + 1) + (m + 1) ^ r ≤ (m + 2) ^ (r + 1) := by
  intro r
  have h : (m + 1) ^ r ≤ (m + 2) ^ r := Nat.pow_le_pow_left (by omega) r
  rw [Nat.pow_succ, Nat.pow_succ, Nat.mul_succ]
  have e : (m + 1) ^ r * m + (m + 1) ^ r + (m + 1) ^ r = (m + 1) ^ r * (m + 2) := by
    rw [Nat.mul_add, Nat.mul_comm _ 2]
    omega
  rw [e]
  exact Nat.mul_le_mul_right _ h
theorem wgt_item (m : Nat) (p : Pre) (h : 0 ≤ p.2) : wgt m (lItem 1 p) ≤ (m + 2) ^ p.2.toNat := by
  unfold lItem mn2
  by_cases c : p.2 < 1
  · have e : p.2 = 0 := by omega
    rw [if_pos c, e, rg_cons (by decide), rg_nil (by decide)]
    show (m + 1) ^ (p.2 - 0).toNat + 0 ≤ _
    rw [e]
    show (m + 1) ^ 0 + 0 ≤ (m + 2) ^ 0
    rw [Nat.pow_zero, Nat.pow_zero]
    omega
  · rw [if_neg c, rg_cons (by decide), rg_cons (by decide), rg_nil (by decide)]
    show (m + 1) ^ (p.2 - 0).toNat + ((m + 1) ^ (p.2 - (0 + 1)).toNat + 0) ≤ _
    obtain ⟨r, er⟩ : ∃ r : Nat, p.2.toNat = r + 1 := ⟨p.2.toNat - 1, by omega⟩
    rw [show (p.2 - 0).toNat = r + 1 by omega, show (p.2 - (0 + 1)).toNat = r by omega, er, Nat.add_zero]
    exact pow_two m r
theorem wgt_step (m : Nat) : ∀ bs : List Pre, (∀ p ∈ bs, 0 ≤ p.2) → wgt m (lStep 1 bs) ≤ wgt (m + 1) bs
  | [], _ => Nat.le_refl _
  | p :: r, h => by
    have ih := wgt_step m r fun q hq => h q (List.mem_cons_of_mem _ hq)
    have a := wgt_item m p (h p List.mem_cons_self)
    unfold lStep at ih ⊢
    rw [List.map_cons, List.flatten_cons, wgt_app]
    have e : wgt (m + 1) (p :: r) = (m + 2) ^ p.2.toNat + wgt (m + 1) r := by
      unfold wgt
      rw [List.map_cons, List.sum_cons]
    rw [e]
    omega
theorem ones_len {t : Int} (ht : 0 ≤ t) (n : Nat) : (lAll (List.replicate n 1) t).length ≤ (n + 1) ^ t.toNat := by
  have z : ∀ k m : Nat, wgt m (lAll (List.replicate k 1) t) ≤ (m + k + 1) ^ t.toNat := by
    intro k
    induction k with
    | zero =>
      intro m
      show (m + 1) ^ t.toNat + 0 ≤ _
      exact Nat.le_refl _
    | succ k ih =>
      intro m
      rw [List.replicate_succ', lAll_snoc]
      refine Nat.le_trans (wgt_step m _ (all_left ht _)) ?_
      have := ih (m + 1)
      rwa [show m + 1 + k + 1 = m + (k + 1) + 1 by omega] at this
  have a := z n 0
  rw [wgt_zero] at a
  rwa [Nat.zero_add] at a
theorem fine_ones {n : Nat} {t : Int} (ht : 0 ≤ t) (h2 : t ≤ 2) (hn : n ≤ 60) : Fine (List.replicate n 1) t := fun i => by
  rw [List.take_replicate]
  refine Nat.le_trans (ones_len ht _) ?_
  have h : min i n + 1 ≤ 61 := by omega
  exact Nat.le_trans (Nat.pow_le_pow_left h _) (Nat.le_trans (Nat.pow_le_pow_right (by decide) (by omega : t.toNat ≤ 2)) (by decide))
theorem wones : ∀ n : Nat, wAll (List.replicate n 1) 0 ≤ 1 ∧ wAll (List.replicate n 1) 1 ≤ (n : Int) ∧ wAll (List.replicate n 1) 2 ≤ (n : Int) * n
  | 0 => ⟨by decide, by decide, by decide⟩
  | n + 1 => by
    obtain ⟨a, b, c⟩ := wones n
    have nn : ∀ l ∈ List.replicate n (1 : Int), 0 ≤ l := fun l hl => by
      rw [List.eq_of_mem_replicate hl]
      decide
    have z := (tall_all (List.replicate n 1) nn).lo (-1) (by decide)
    have st : ∀ t, wAll (List.replicate (n + 1) 1) t = wAll (List.replicate n 1) t + wAll (List.replicate n 1) (t - 1) := fun t => by
      rw [List.replicate_succ', wAll_snoc]
      show 0 + wAll (List.replicate n 1) (t - ((0 : Nat) : Int)) + wAll (List.replicate n 1) (t - ((1 : Nat) : Int)) = _
      rw [Int.zero_add, show t - ((0 : Nat) : Int) = t by omega]
      rfl
    rw [st 0, st 1, st 2]
    rw [show (0 : Int) - 1 = -1 from rfl, z, show (1 : Int) - 1 = 0 from rfl, show (2 : Int) - 1 = 1 from rfl]
    refine ⟨by omega, by omega, ?_⟩
    rw [show ((n + 1 : Nat) : Int) = (n : Int) + 1 from rfl, Int.add_mul, Int.mul_add]
    omega

/-! ### choices of counts by the first row -/
def preP (p : List Int) (q : Pre) : Pre := (p ++ q.1, q.2)
theorem item_pre (l : Int) (p : List Int) (q : Pre) : lItem l (preP p q) = (lItem l q).map (preP p) := by
  unfold lItem
  rw [List.map_map]
  show (rgI 0 (mn2 l q.2 + 1)).map (ext (p ++ q.1, q.2)) = _
  refine List.map_congr_left fun c _ => ?_
  show ((p ++ q.1) ++ [c], q.2 - c) = (p ++ (q.1 ++ [c]), q.2 - c)
  rw [List.append_assoc]
theorem step_flat (l : Int) (bs : List Pre) : lStep l bs = bs.flatMap (lItem l) := (List.flatMap_def ..).symm
theorem fold_from (bs : List Pre) : ∀ ls : List Int, ls.foldl (fun bs l => lStep l bs) bs = bs.flatMap fun p => (lAll ls p.2).map (preP p.1) := by
  intro ls
  refine rev_ind2 (P := fun ls => ls.foldl (fun bs l => lStep l bs) bs = bs.flatMap fun p => (lAll ls p.2).map (preP p.1)) ?_ (fun xs x ih => ?_) ls
  · show bs = bs.flatMap fun p => [((p.1 ++ [], p.2) : Pre)]
    induction bs with
    | nil => rfl
    | cons b r ih =>
      rw [List.flatMap_cons, List.append_nil, ← ih]
      rfl
  · rw [List.foldl_append, ih]
    show lStep x _ = _
    rw [step_flat, List.flatMap_assoc]
    congr 1
    funext p
    rw [lAll_snoc, step_flat, List.map_flatMap, List.flatMap_map]
    congr 1
    funext q
    exact item_pre x p.1 q
theorem due_cons (l : Int) (ls : List Int) (t : Int) : due (l :: ls) t = (rgI 0 (mn2 l t + 1)).flatMap fun c => (due ls (t - c)).map (c :: ·) := by
  have e : lAll (l :: ls) t = ((rgI 0 (mn2 l t + 1)).map fun c => (([c], t - c) : Pre)).flatMap fun p => (lAll ls p.2).map (preP p.1) := by
    show ls.foldl (fun bs l => lStep l bs) (lStep l [([], t)]) = _
    rw [fold_from]
    congr 1
    rw [step_flat, List.flatMap_cons, List.flatMap_nil, List.append_nil]
    rfl
  unfold due
  rw [e, List.filter_flatMap, List.map_flatMap, List.flatMap_map]
  congr 1
  funext c
  rw [List.filter_map, List.map_map, List.map_map]
  rfl
theorem due_nil (t : Int) : due [] t = if t = 0 then [[]] else [] := by
  show ((([([], t)] : List Pre).filter fun p => decide (p.2 = 0)).map (·.1)) = _
  rw [List.filter_cons]
  by_cases c : t = 0
  · rw [if_pos (decide_eq_true c), if_pos c]
    rfl
  · rw [if_neg (by rw [decide_eq_false c]; exact Bool.false_ne_true), if_neg c]
    rfl
theorem due_neg {t : Int} (h : t < 0) : ∀ ls : List Int, due ls t = []
  | [] => by rw [due_nil, if_neg (by omega)]
  | l :: r => by
    have := (mn2_b (l := l) (x := t)).2.1
    rw [due_cons, rg_nil (by omega)]
    rfl
theorem due_over {ls : List Int} {t : Int} (p : ∀ l ∈ ls, 0 ≤ l) (h : ls.sum < t) : due ls t = [] := by
  have s := (tall_all ls p)
  by_cases c : t < 0
  · exact due_neg c ls
  · have e := due_len (by omega) p (t := t)
    rw [s.hi t h] at e
    exact List.length_eq_zero_iff.mp (by omega)
theorem rg_flat {α : Type} (H : Int → List α) (a b hi : Int) (hb : b ≤ hi) (no : ∀ d, ¬ (a ≤ d ∧ d < b) → H d = []) : ∀ (n : Nat) (lo : Int), (hi - lo).toNat = n → (rgI lo hi).flatMap H = (rgI (if lo < a then a else lo) b).flatMap H
  | 0, lo, h => by
    rw [rg_nil (by omega), rg_nil (by split <;> omega)]
  | n + 1, lo, h => by
    rw [rg_cons (by omega), List.flatMap_cons, rg_flat H a b hi hb no n (lo + 1) (by omega)]
    by_cases c : lo < a
    · rw [if_pos c, no lo (by omega), List.nil_append]
      by_cases c2 : lo + 1 < a
      · rw [if_pos c2]
      · rw [if_neg c2, show lo + 1 = a by omega]
    · rw [if_neg c, if_neg (by omega : ¬ lo + 1 < a)]
      by_cases c2 : lo < b
      · rw [rg_cons c2, List.flatMap_cons]
      · rw [no lo (by omega), rg_nil (by omega), rg_nil (by omega)]
        rfl
/-- what is left of each row -/
def cmpl (ls c : List Int) : List Int := List.zipWith (fun a b => a - b) ls c
theorem rg_turn (l : Int) : ∀ (n : Nat) (k : Int), k.toNat = n → ((rgI 0 k).reverse.map fun c => l - c) = rgI (l - k + 1) (l + 1)
  | 0, k, h => by
    rw [rg_nil (by omega), rg_nil (by omega)]
    rfl
  | n + 1, k, h => by
    have e : rgI 0 k = rgI 0 (k - 1) ++ [k - 1] := by
      unfold rgI
      rw [show (k - 0).toNat = (k - 1 - 0).toNat + 1 by omega, List.range_succ, List.map_append]
      congr 1
      show [0 + (((k - 1 - 0).toNat : Nat) : Int)] = [k - 1]
      congr 1
      omega
    rw [e, List.reverse_append, List.map_append, rg_turn l n (k - 1) (by omega), rg_cons (by omega : l - k + 1 < l + 1)]
    show [l - (k - 1)] ++ _ = _
    rw [show l - (k - 1) = l - k + 1 by omega]
    rfl
theorem due_turn : ∀ (ls : List Int) (t : Int), 0 ≤ t → (∀ l ∈ ls, 0 ≤ l) → due ls (ls.sum - t) = ((due ls t).map (cmpl ls)).reverse
  | [], t, _, _ => by
    rw [due_nil, due_nil]
    show (if 0 - t = 0 then _ else _) = _
    by_cases c : t = 0
    · rw [if_pos (by omega), if_pos c]
      rfl
    · rw [if_neg (by omega), if_neg c]
      rfl
  | l :: r, t, ht, p => by
    have p0 := p l List.mem_cons_self
    have pr : ∀ x ∈ r, 0 ≤ x := fun x hx => p x (List.mem_cons_of_mem _ hx)
    have e1 : ((due (l :: r) t).map (cmpl (l :: r))).reverse = (rgI (l - mn2 l t) (l + 1)).flatMap fun d => (due r (r.sum + l - t - d)).map (d :: ·) := by
      rw [due_cons, List.map_flatMap, List.reverse_flatMap]
      rw [show l - mn2 l t = l - (mn2 l t + 1) + 1 by omega, ← rg_turn l _ (mn2 l t + 1) rfl, List.flatMap_map]
      rw [List.flatMap_def, List.flatMap_def]
      refine congrArg List.flatten (List.map_congr_left fun c hc => ?_)
      have hc := mem_rg.mp (List.mem_reverse.mp hc)
      have := (mn2_b (l := l) (x := t)).2.1
      show (((due r (t - c)).map (c :: ·)).map (cmpl (l :: r))).reverse = _
      rw [show r.sum + l - t - (l - c) = r.sum - (t - c) by omega, due_turn r (t - c) (by omega) pr, List.map_map, ← List.map_reverse, ← List.map_reverse, List.map_map]
      rfl
    rw [e1, due_cons, List.sum_cons]
    obtain ⟨m1, m2, m3⟩ := mn2_b (l := l) (x := t)
    obtain ⟨q1, q2, q3⟩ := mn2_b (l := l) (x := l + r.sum - t)
    have H : ∀ d : Int, (0 ≤ d → d < l - mn2 l t → (due r (r.sum + l - t - d)).map (d :: ·) = []) ∧ (mn2 l (l + r.sum - t) < d → d ≤ l → (due r (r.sum + l - t - d)).map (d :: ·) = []) := fun d => by
      refine ⟨fun h1 h2 => ?_, fun h1 h2 => ?_⟩
      · rw [due_over pr (by omega)]
        rfl
      · rw [due_neg (by omega)]
        rfl
    have a1 := rg_flat (fun d => if 0 ≤ d ∧ d ≤ l then (due r (r.sum + l - t - d)).map (d :: ·) else []) (l - mn2 l t) (l + 1) (l + 1) (Int.le_refl _) (fun d hd => by
      by_cases c : 0 ≤ d ∧ d ≤ l
      · rw [if_pos c]
        exact (H d).1 c.1 (by omega)
      · exact if_neg c) _ 0 rfl
    have a2 := rg_flat (fun d => if 0 ≤ d ∧ d ≤ l then (due r (r.sum + l - t - d)).map (d :: ·) else []) 0 (mn2 l (l + r.sum - t) + 1) (l + 1) (by omega) (fun d hd => by
      by_cases c : 0 ≤ d ∧ d ≤ l
      · rw [if_pos c]
        exact (H d).2 (by omega) c.2
      · exact if_neg c) _ 0 rfl
    have z1 : (if (0 : Int) < l - mn2 l t then l - mn2 l t else 0) = l - mn2 l t := by split <;> omega
    have z2 : (if (0 : Int) < 0 then (0 : Int) else 0) = 0 := rfl
    rw [z1] at a1
    rw [z2] at a2
    have same : ∀ lo hi : Int, 0 ≤ lo → hi ≤ l + 1 → (rgI lo hi).flatMap (fun d => if 0 ≤ d ∧ d ≤ l then (due r (r.sum + l - t - d)).map (d :: ·) else []) = (rgI lo hi).flatMap fun d => (due r (r.sum + l - t - d)).map (d :: ·) := fun lo hi h1 h2 => by
      rw [List.flatMap_def, List.flatMap_def]
      refine congrArg List.flatten (List.map_congr_left fun d hd => ?_)
      have hd := mem_rg.mp hd
      exact if_pos (by omega)
    have cm : (fun c : Int => (due r (l + r.sum - t - c)).map (c :: ·)) = fun d => (due r (r.sum + l - t - d)).map (d :: ·) := funext fun c => by rw [Int.add_comm l]
    rw [cm]
    exact (same 0 (mn2 l (l + r.sum - t) + 1) (Int.le_refl _) (by omega)).symm.trans (a2.symm.trans (a1.trans (same (l - mn2 l t) (l + 1) (by omega) (Int.le_refl _))))
/-! ### they rise, and have the total -/
def LexLt (c d : List Int) : Prop := ∃ j : Nat, (∀ i : Nat, i < j → c[i]? = d[i]?) ∧ ∃ x y, c[j]? = some x ∧ d[j]? = some y ∧ x < y
theorem rg_rises (lo hi : Int) : (rgI lo hi).Pairwise (· < ·) := by
  unfold rgI
  rw [List.pairwise_map]
  exact List.pairwise_lt_range.imp fun h => by omega
theorem due_rises : ∀ (ls : List Int) (t : Int), (due ls t).Pairwise LexLt
  | [], t => by
    rw [due_nil]
    split
    · exact List.pairwise_singleton _ _
    · exact List.Pairwise.nil
  | l :: r, t => by
    rw [due_cons, List.pairwise_flatMap]
    refine ⟨fun c _ => ?_, (rg_rises _ _).imp fun {a b} h x hx y hy => ?_⟩
    · rw [List.pairwise_map]
      refine (due_rises r (t - c)).imp fun {x y} ⟨j, e, u, v, eu, ev, lt⟩ => ⟨j + 1, fun i hi => ?_, u, v, eu, ev, lt⟩
      cases i with
      | zero => rfl
      | succ i => exact e i (by omega)
    · obtain ⟨x', _, rfl⟩ := List.mem_map.mp hx
      obtain ⟨y', _, rfl⟩ := List.mem_map.mp hy
      exact ⟨0, fun i hi => absurd hi (Nat.not_lt_zero _), a, b, rfl, rfl, h⟩
theorem due_sum : ∀ (ls : List Int) (t : Int), ∀ c ∈ due ls t, c.sum = t ∧ c.length = ls.length
  | [], t, c, hc => by
    rw [due_nil] at hc
    split at hc
    · rename_i e
      rw [List.mem_singleton.mp hc, e]
      exact ⟨rfl, rfl⟩
    · cases hc
  | l :: r, t, c, hc => by
    rw [due_cons] at hc
    obtain ⟨k, _, hc⟩ := List.mem_flatMap.mp hc
    obtain ⟨d, hd, rfl⟩ := List.mem_map.mp hc
    obtain ⟨e1, e2⟩ := due_sum r (t - k) d hd
    rw [List.sum_cons, e1, List.length_cons, List.length_cons, e2]
    exact ⟨by omega, rfl⟩
/-! ### the order of rows does not matter -/
theorem wFrom_perm {ls ks : List Int} (h : ls.Perm ks) : ∀ F, wFrom F ls = wFrom F ks := by
  induction h with
  | nil => exact fun _ => rfl
  | cons x _ ih => exact fun F => ih _
  | swap x y r =>
    intro F
    show wFrom (wstep x.toNat (wstep y.toNat F)) r = wFrom (wstep y.toNat (wstep x.toNat F)) r
    rw [wstep_comm]
  | trans _ _ a b => exact fun F => (a F).trans (b F)
theorem wAll_perm {ls ks : List Int} (h : ls.Perm ks) : wAll ls = wAll ks := wFrom_perm h w0
/-! ### how long the lists on the way are -/
def pr (ls : List Int) : Nat := ls.foldr (fun l a => (l.toNat + 1) * a) 1
theorem pr_append (a b : List Int) : pr (a ++ b) = pr a * pr b := by
  induction a with
  | nil => exact (Nat.one_mul _).symm
  | cons x r ih =>
    show (x.toNat + 1) * pr (r ++ b) = (x.toNat + 1) * pr r * pr b
    rw [ih, Nat.mul_assoc]
theorem pr_pos (ls : List Int) : 1 ≤ pr ls := by
  induction ls with
  | nil => exact Nat.le_refl _
  | cons x r ih => exact Nat.mul_pos (Nat.succ_pos _) ih
theorem pr_perm {ls ks : List Int} (h : ls.Perm ks) : pr ls = pr ks := by
  induction h with
  | nil => rfl
  | cons x _ ih =>
    show (x.toNat + 1) * _ = (x.toNat + 1) * _
    exact congrArg _ ih
  | swap x y r =>
    show (y.toNat + 1) * ((x.toNat + 1) * pr r) = (x.toNat + 1) * ((y.toNat + 1) * pr r)
    rw [← Nat.mul_assoc, ← Nat.mul_assoc, Nat.mul_comm (y.toNat + 1)]
  | trans _ _ a b => exact a.trans b
theorem all_pr (t : Int) : ∀ ls : List Int, (∀ l ∈ ls, 0 ≤ l) → (lAll ls t).length ≤ pr ls := by
  intro ls
  refine rev_ind2 (P := fun ls => (∀ l ∈ ls, 0 ≤ l) → (lAll ls t).length ≤ pr ls) (fun _ => Nat.le_refl _) (fun xs x ih h => ?_) ls
  have a := ih fun l hl => h l (List.mem_append_left _ hl)
  have hx := h x (List.mem_append_right _ List.mem_cons_self)
  have b := step_len (b := x.toNat + 1) x ⟨hx, by omega⟩ (lAll xs t)
  rw [lAll_snoc, pr_append]
  show _ ≤ pr xs * ((x.toNat + 1) * 1)
  rw [Nat.mul_one, Nat.mul_comm]
  exact Nat.le_trans b (Nat.mul_le_mul_left _ a)
theorem fine_pr {ls : List Int} {t : Int} (p : ∀ l ∈ ls, 0 ≤ l) (h : pr ls ≤ 1000000) : Fine ls t := fun i => by
  refine Nat.le_trans (all_pr t _ fun l hl => p l (List.mem_of_mem_take hl)) ?_
  have e : pr ls = pr (ls.take i) * pr (ls.drop i) := by rw [← pr_append, List.take_append_drop]
  have := Nat.mul_le_mul_left (pr (ls.take i)) (pr_pos (ls.drop i))
  omega
theorem wgt_range (m : Nat) (p : Pre) : ∀ (n : Nat) (lo hi : Int), (hi - lo).toNat = n → lo ≤ p.2 → hi ≤ p.2 + 1 → wgt m ((rgI lo hi).map (ext p)) ≤ (m + 2) ^ (p.2 - lo).toNat
  | 0, lo, hi, h, _, _ => by
    rw [rg_nil (by omega)]
    exact Nat.zero_le _
  | n + 1, lo, hi, h, h1, h2 => by
    rw [rg_cons (by omega), List.map_cons]
    have e : wgt m (ext p lo :: (rgI (lo + 1) hi).map (ext p)) = (m + 1) ^ (p.2 - lo).toNat + wgt m ((rgI (lo + 1) hi).map (ext p)) := by
      unfold wgt
      rw [List.map_cons, List.sum_cons]
      rfl
    rw [e]
    by_cases c : lo = p.2
    · rw [rg_nil (by omega), show (p.2 - lo).toNat = 0 by omega, Nat.pow_zero, Nat.pow_zero]
      exact Nat.le_refl _
    · have ih := wgt_range m p n (lo + 1) hi (by omega) (by omega) h2
      obtain ⟨s, es⟩ : ∃ s : Nat, (p.2 - lo).toNat = s + 1 := ⟨(p.2 - lo).toNat - 1, by omega⟩
      rw [show (p.2 - (lo + 1)).toNat = s by omega] at ih
      rw [es]
      have a : (m + 1) ^ s * (m + 1) ≤ (m + 2) ^ s * (m + 1) := Nat.mul_le_mul_right _ (Nat.pow_le_pow_left (by omega) s)
      rw [Nat.pow_succ, Nat.pow_succ]
      have b : (m + 2) ^ s * (m + 2) = (m + 2) ^ s * (m + 1) + (m + 2) ^ s := Nat.mul_succ _ _
      omega
theorem wgt_steps (m : Nat) (l : Int) : ∀ bs : List Pre, (∀ p ∈ bs, 0 ≤ p.2) → wgt m (lStep l bs) ≤ wgt (m + 1) bs
  | [], _ => Nat.le_refl _
  | p :: r, h => by
    have ih := wgt_steps m l r fun q hq => h q (List.mem_cons_of_mem _ hq)
    have p0 := h p List.mem_cons_self
    have q := mn2_b (l := l) (x := p.2)
    have a := wgt_range m p _ 0 (mn2 l p.2 + 1) rfl p0 (by omega)
    rw [show p.2 - 0 = p.2 by omega] at a
    have e0 : lStep l (p :: r) = lItem l p ++ lStep l r := rfl
    rw [e0, wgt_app]
    have e : wgt (m + 1) (p :: r) = (m + 2) ^ p.2.toNat + wgt (m + 1) r := by
      unfold wgt
      rw [List.map_cons, List.sum_cons]
    rw [e]
    have a : wgt m (lItem l p) ≤ (m + 2) ^ p.2.toNat := a
    omega
theorem all_pow {t : Int} (ht : 0 ≤ t) (ls : List Int) : (lAll ls t).length ≤ (ls.length + 1) ^ t.toNat := by
  have z : ∀ (ks : List Int) (m : Nat), wgt m (lAll ks t) ≤ (m + ks.length + 1) ^ t.toNat := by
    intro ks
    refine rev_ind2 (P := fun ks => ∀ m, wgt m (lAll ks t) ≤ (m + ks.length + 1) ^ t.toNat) (fun m => ?_) (fun xs x ih m => ?_) ks
    · show (m + 1) ^ t.toNat + 0 ≤ _
      exact Nat.le_refl _
    · rw [lAll_snoc]
      refine Nat.le_trans (wgt_steps m x _ (all_left ht _)) ?_
      have := ih (m + 1)
      rwa [show m + 1 + xs.length + 1 = m + (xs ++ [x]).length + 1 by rw [List.length_append, List.length_singleton]; omega] at this
  have a := z ls 0
  rw [wgt_zero] at a
  rwa [Nat.zero_add] at a
theorem fine_pow {ls : List Int} {t : Int} {n k : Nat} (ht : 0 ≤ t) (hk : t ≤ (k : Int)) (hn : ls.length ≤ n) (h : (n + 1) ^ k ≤ 1000000) : Fine ls t := fun i => by
  refine Nat.le_trans (all_pow ht _) (Nat.le_trans (Nat.le_trans (Nat.pow_le_pow_left (?_ : (ls.take i).length + 1 ≤ n + 1) _) (Nat.pow_le_pow_right (Nat.succ_pos _) (by omega : t.toNat ≤ k))) h)
  have := List.length_take_le' i ls
  omega
/-! ### few of small totals -/
theorem wst_two {F : Int → Int} (pos : ∀ t, 0 ≤ F t) (neg : ∀ t, t < 0 → F t = 0) (l : Nat) : wstep l F 0 ≤ F 0 ∧ wstep l F 1 ≤ F 1 + F 0 ∧ wstep l F 2 ≤ F 2 + F 1 + F 0 := by
  have p0 := pos 0
  have p1 := pos 1
  have p2 := pos 2
  have z : ∀ n : Nat, sm (fun k => F (0 - k)) (n + 1) ≤ F 0 ∧ (sm (fun k => F (1 - k)) (n + 1) ≤ F 1 + F 0 ∧ (n = 0 → sm (fun k => F (1 - k)) (n + 1) = F 1)) ∧ (sm (fun k => F (2 - k)) (n + 1) ≤ F 2 + F 1 + F 0 ∧ (n = 0 → sm (fun k => F (2 - k)) (n + 1) = F 2) ∧ (n = 1 → sm (fun k => F (2 - k)) (n + 1) = F 2 + F 1)) := by
    intro n
    induction n with
    | zero =>
      have a : sm (fun k => F (0 - k)) (0 + 1) = 0 + F (0 - ((0 : Nat) : Int)) := rfl
      have b : sm (fun k => F (1 - k)) (0 + 1) = 0 + F (1 - ((0 : Nat) : Int)) := rfl
      have c : sm (fun k => F (2 - k)) (0 + 1) = 0 + F (2 - ((0 : Nat) : Int)) := rfl
      rw [show (0 : Int) - ((0 : Nat) : Int) = 0 from rfl] at a
      rw [show (1 : Int) - ((0 : Nat) : Int) = 1 from rfl] at b
      rw [show (2 : Int) - ((0 : Nat) : Int) = 2 from rfl] at c
      exact ⟨by omega, ⟨by omega, fun _ => by omega⟩, by omega, fun _ => by omega, fun h => by cases h⟩
    | succ n ih =>
      obtain ⟨i0, ⟨i1, j1⟩, i2, j2, k2⟩ := ih
      have a : sm (fun k => F (0 - k)) (n + 1 + 1) = sm (fun k => F (0 - k)) (n + 1) + F (0 - ((n + 1 : Nat) : Int)) := rfl
      have b : sm (fun k => F (1 - k)) (n + 1 + 1) = sm (fun k => F (1 - k)) (n + 1) + F (1 - ((n + 1 : Nat) : Int)) := rfl
      have c : sm (fun k => F (2 - k)) (n + 1 + 1) = sm (fun k => F (2 - k)) (n + 1) + F (2 - ((n + 1 : Nat) : Int)) := rfl
      have n0 := neg (0 - ((n + 1 : Nat) : Int)) (by omega)
      refine ⟨by omega, ⟨?_, fun h => by omega⟩, ?_, fun h => by omega, fun h => ?_⟩
      · cases n with
        | zero =>
          rw [show (1 : Int) - ((0 + 1 : Nat) : Int) = 0 from rfl] at b
          have := j1 rfl
          omega
        | succ n =>
          have := neg (1 - ((n + 1 + 1 : Nat) : Int)) (by omega)
          omega
      · match n with
        | 0 =>
          rw [show (2 : Int) - ((0 + 1 : Nat) : Int) = 1 from rfl] at c
          have := j2 rfl
          omega
        | 1 =>
          rw [show (2 : Int) - ((1 + 1 : Nat) : Int) = 0 from rfl] at c
          have := k2 rfl
          omega
        | n + 2 =>
          have := neg (2 - ((n + 2 + 1 : Nat) : Int)) (by omega)
          omega
      · obtain rfl : n = 0 := by omega
        rw [show (2 : Int) - ((0 + 1 : Nat) : Int) = 1 from rfl] at c
        have := j2 rfl
        omega
  obtain ⟨a, ⟨b, _⟩, c, _, _⟩ := z l
  exact ⟨a, b, c⟩
theorem few_two : ∀ ls : List Int, (∀ l ∈ ls, 0 ≤ l) → wAll ls 0 ≤ 1 ∧ wAll ls 1 ≤ (ls.length : Int) ∧ 2 * wAll ls 2 ≤ (ls.length : Int) * (ls.length + 1) := by
  intro ls
  refine rev_ind2 (P := fun ls => (∀ l ∈ ls, 0 ≤ l) → wAll ls 0 ≤ 1 ∧ wAll ls 1 ≤ (ls.length : Int) ∧ 2 * wAll ls 2 ≤ (ls.length : Int) * (ls.length + 1)) (fun _ => ⟨by decide, by decide, by decide⟩) (fun xs x ih h => ?_) ls
  have hx : ∀ l ∈ xs, 0 ≤ l := fun l hl => h l (List.mem_append_left _ hl)
  obtain ⟨a, b, c⟩ := ih hx
  obtain ⟨u, v, w⟩ := wst_two (F := wAll xs) (wAll_pos xs hx).1 (fun t ht => (tall_all xs hx).lo t ht) x.toNat
  rw [wAll_snoc, List.length_append, List.length_singleton]
  refine ⟨by omega, by omega, ?_⟩
  rw [show ((xs.length + 1 : Nat) : Int) = (xs.length : Int) + 1 from rfl, Int.add_mul, Int.mul_add (xs.length : Int) ((xs.length : Int) + 1) 1]
  omega
/-! ### reckoned -/
def nxW (l : Nat) (v : List Nat) : List Nat := (List.range v.length).map fun i => ((List.range (min l i + 1)).map fun k => v.getD (i - k) 0).sum
def wtab (T : Nat) (ls : List Int) : List Nat := ls.foldl (fun v l => nxW l.toNat v) (1 :: List.replicate T 0)
theorem sm_cut (f : Int → Int) (i : Nat) (z : ∀ k : Nat, i < k → f k = 0) : ∀ l : Nat, sm f (l + 1) = sm f (min l i + 1)
  | 0 => by rw [Nat.zero_min]
  | l + 1 => by
    by_cases c : l + 1 ≤ i
    · rw [Nat.min_eq_left c]
    · have e : sm f (l + 1 + 1) = sm f (l + 1) + f ((l + 1 : Nat) : Int) := rfl
      rw [e, z (l + 1) (by omega), Int.add_zero, sm_cut f i z l, show min l i = i by omega, show min (l + 1) i = i by omega]
theorem sm_sum (f : Int → Int) (g : Nat → Nat) : ∀ n : Nat, (∀ k : Nat, k < n → f k = (g k : Int)) → sm f n = ((((List.range n).map g).sum : Nat) : Int)
  | 0, _ => rfl
  | n + 1, h => by
    rw [List.range_succ, List.map_append, List.sum_append]
    have a := sm_sum f g n fun k hk => h k (by omega)
    have b := h n (by omega)
    show sm f n + f n = _
    rw [a, b]
    show _ = (((_ + (g n + 0) : Nat)) : Int)
    omega
theorem wtab_at (T : Nat) : ∀ ls : List Int, (∀ l ∈ ls, 0 ≤ l) → (wtab T ls).length = T + 1 ∧ ∀ i, i ≤ T → (((wtab T ls).getD i 0 : Nat) : Int) = wAll ls i := by
  intro ls
  refine rev_ind2 (P := fun ls => (∀ l ∈ ls, 0 ≤ l) → (wtab T ls).length = T + 1 ∧ ∀ i, i ≤ T → (((wtab T ls).getD i 0 : Nat) : Int) = wAll ls i) (fun _ => ⟨by show (1 :: List.replicate T 0).length = _; rw [List.length_cons, List.length_replicate], fun i hi => ?_⟩) (fun xs x ih h => ?_) ls
  · show (((1 :: List.replicate T 0).getD i 0 : Nat) : Int) = w0 i
    cases i with
    | zero => rfl
    | succ i =>
      rw [List.getD_cons_succ, List.getD_eq_getElem?_getD, List.getElem?_replicate]
      show _ = if ((i + 1 : Nat) : Int) = 0 then (1 : Int) else 0
      rw [show (if ((i + 1 : Nat) : Int) = 0 then (1 : Int) else 0) = 0 from if_neg (by omega)]
      split <;> rfl
  · have hx : ∀ l ∈ xs, 0 ≤ l := fun l hl => h l (List.mem_append_left _ hl)
    obtain ⟨l1, l2⟩ := ih hx
    have e : wtab T (xs ++ [x]) = nxW x.toNat (wtab T xs) := List.foldl_append
    rw [e, wAll_snoc]
    have ln : (nxW x.toNat (wtab T xs)).length = T + 1 := by
      unfold nxW
      rw [List.length_map, List.length_range, l1]
    refine ⟨ln, fun i hi => ?_⟩
    unfold wstep
    rw [sm_cut (fun k => wAll xs ((i : Int) - k)) i (fun k hk => (tall_all xs hx).lo _ (by omega)), sm_sum (fun k => wAll xs ((i : Int) - k)) (fun k => (wtab T xs).getD (i - k) 0) _ fun k hk => ?_]
    · congr 1
      rw [List.getD_eq_getElem?_getD]
      unfold nxW
      rw [List.getElem?_map, List.getElem?_range (by omega)]
      rfl
    · show wAll xs ((i : Int) - k) = _
      rw [l2 (i - k) (by omega)]
      exact congrArg _ (by omega)
theorem w_ones (n T v : Nat) (h : (wtab T (List.replicate n 1)).getD T 0 = v) : wAll (List.replicate n 1) T = v := by
  rw [← (wtab_at T _ (fun l hl => by rw [List.eq_of_mem_replicate hl]; decide)).2 T (Nat.le_refl _), h]

/-! ### zip of two lists or tuples, in any mix -/
/-- what a side of it is -/
inductive Wy where
  | ls
  | tp
def Wy.sq : Wy → Heap → Addr → Array Value → Prop
  | .ls, h, a, xs => h.IsList a xs
  | .tp, h, a, xs => h.IsTuple a xs
def Wy.it : Wy → Heap → Addr → Addr → Nat → Prop
  | .ls, h, a, l, i => h.IsListIter a l i
  | .tp, h, a, l, i => h.IsTupleIter a l i
def Wy.of (K : PySem.W.Frag) : Wy → Hp → Addr → List V → Prop
  | .ls, H, a, xs => SqL K H a xs
  | .tp, H, a, xs => SqT K H a xs
def Wy.ob (k : Wy) (l : Addr) : Obj := { cls := .type (match k with | .ls => "list_iterator" | .tp => "tuple_iterator"), data := .fields #[.ref l, .int 0 0] }
theorem Wy.sq_at {k : Wy} {h h' : Heap} {a : Addr} {xs : Array Value} (x : k.sq h a xs) (e : ∀ o, h.get? a = some o → h'.get? a = some o) : k.sq h' a xs := by
  cases k <;> exact (let ⟨o, ho, r⟩ := x; ⟨o, e _ ho, r⟩)
theorem Wy.it_at {k : Wy} {h h' : Heap} {a l : Addr} {i : Nat} (x : k.it h a l i) (e : ∀ o, h.get? a = some o → h'.get? a = some o) : k.it h' a l i := by
  cases k <;> exact (let ⟨o, ho, r⟩ := x; ⟨o, e _ ho, r⟩)
theorem Wy.it_ob {k : Wy} {h : Heap} {a l : Addr} {i : Nat} (x : k.it h a l i) : ∃ o, h.get? a = some o ∧ o.data = .fields #[.ref l, .int i 0] := by
  cases k <;> exact (let ⟨o, ho, _, d⟩ := x; ⟨o, ho, d⟩)
theorem Wy.it_of {k : Wy} {h : Heap} {a l : Addr} (e : h.get? a = some (k.ob l)) : k.it h a l 0 := by
  cases k <;> exact ⟨_, e, rfl, rfl⟩
theorem Wy.same {k : Wy} {K : PySem.W.Frag} {H H' : Hp} {a : Addr} {xs : List V} (s : Same H H') (x : k.of K H a xs) : k.of K H' a xs := by
  cases k
  · exact Same.seq s x
  · exact Same.seqT s x
section
variable {prog : Program} {w : World} {A : Around} {E : Value → Shared → Prop} {s : Shared}
theorem Wy.iter {k : Wy} {l : Addr} {xs : Array Value} {Q : Value → Shared → Prop} (hl : k.sq s.heap l xs) (q : Q (.ref s.heap.objs.size) { s with heap := s.heap.push (k.ob l) }) : wpAny (model prog w) A (pyIter (.ref l)) Q E s := by
  cases k
  · exact wpAny_pyIter_list hl q
  · exact wpAny_pyIter_tuple hl q
theorem Wy.next {k : Wy} {b l : Addr} {i : Nat} {xs : Array Value} {x : Value} {Q : Value → Shared → Prop} (hit : k.it s.heap b l i) (hl : k.sq s.heap l xs) (hx : xs[i]? = some x)
    (q : ∀ h', k.it h' b l (i + 1) → Heap.SameBut b s.heap h' → Q x { s with heap := h' }) : wpAny (model prog w) A (Builtin.SmallTypes.nextOf (.ref b)) Q E s := by
  cases k
  · exact wpAny_nextOf_list_item hit hl hx q
  · exact RZ.nextOf_tuple_item hit hl hx q
theorem Wy.stop {k : Wy} {b l : Addr} {i : Nat} {xs : Array Value} {Q : Value → Shared → Prop} (hh : A.handled = none) (hit : k.it s.heap b l i) (hl : k.sq s.heap l xs) (hx : xs[i]? = none)
    (q : ∀ h' e, Heap.ExtBut b s.heap h' → (∃ o, h'.get? e = some o ∧ o.cls = .type "StopIteration") → E (.ref e) { s with heap := h' }) : wpAny (model prog w) A (Builtin.SmallTypes.nextOf (.ref b)) Q E s := by
  cases k
  · exact wpAny_nextOf_list_end hh hit hl hx q
  · exact RZ.nextOf_tuple_end hh hit hl hx q
/-- what stays where four objects change -/
def But4 (z t i j : Addr) (h h' : Heap) : Prop := ∀ c o, c ≠ z → c ≠ t → c ≠ i → c ≠ j → h.get? c = some o → h'.get? c = some o
variable {k k' : Wy} {z ti tu i j a b : Addr} {m n : Nat} {xs ys : Array Value} {x y p q : Value}
theorem zipw_item {Q : Value → Shared → Prop} (D : ZipApart z ti tu i j a b) (hz : IsZip s.heap z ti tu .none) (hti : IsPair s.heap ti (.ref i) (.ref j)) (htu : IsPair s.heap tu p q)
    (hi : k.it s.heap i a m) (hj : k'.it s.heap j b n) (ha : k.sq s.heap a xs) (hb : k'.sq s.heap b ys) (hx : xs[m]? = some x) (hy : ys[n]? = some y)
    (go : ∀ h', IsZip h' z ti tu (rawInt s.heap.objs.size) → IsPair h' tu x y → k.it h' i a (m + 1) → k'.it h' j b (n + 1) → IsPair h' s.heap.objs.size x y → h'.objs.size = s.heap.objs.size + 1 → But4 z tu i j s.heap h' → Q (.ref s.heap.objs.size) { s with heap := h' }) :
    wpAny (model prog w) A (Builtin.«zip.__next__» ⟨[.ref z], []⟩) (fun fin s' => ∃ v, fin = .done (.ret v) ∧ Q v s') E s := by
  show wpAny _ _ (field (.ref z) 2 >>= _) _ _ _
  refine wpAny_bind (wpAny_field hz rfl (x := .bool false) rfl ?_); show wpAny _ _ (field (.ref z) 3 >>= _) _ _ _
  refine wpAny_bind (wpAny_field hz rfl (x := .ref ti) rfl (wpAny_bind (wpAny_seqItems hti rfl ?_)))
  show wpAny _ _ (Builtin.SmallTypes.ownedTupleIsFree (.ref z) >>= _) _ _ _; refine wpAny_bind ?_
  unfold Builtin.SmallTypes.ownedTupleIsFree
  refine wpAny_bind (wpAny_field hz rfl (x := .none) rfl (wpAny_pure ?_)); simp only [if_true]
  refine wpAny_bind (wpAny_rule (wpAny_bind (wpAny_field hz rfl (x := .ref tu) rfl (wpAny_bind (wpAny_setField_rec hz (by simp) fun g1 z1 e1 => ?_)))))
  replace z1 : IsZip g1 z ti tu .ellipsis := z1
  refine wpAny_bind ?_; simp only [List.zipIdx_cons, List.zipIdx_nil, List.forIn_cons, List.forIn_nil]
  refine wpAny_bind (wpAny_bind (wpAny_onRaise ?_)); show wpAny _ _ (Builtin.SmallTypes.nextOf (.ref i) >>= _) _ _ _
  refine wpAny_bind (Wy.next (Wy.it_at hi fun o => e1.extBut _ _ D.i1z) (Wy.sq_at ha fun o => e1.extBut _ _ D.l1z) hx fun g2 i2 e2 => wpAny_pure ?_)
  have t2 : IsPair g2 tu p q := e2.extBut _ _ D.TOi1 (e1.extBut _ _ D.TOz htu)
  refine wpAny_bind (wpAny_seqItems t2 rfl (wpAny_bind (wpAny_updateSeq_pair t2 fun g3 t3 e3 => ?_)))
  replace t3 : IsPair g3 tu x q := t3
  refine wpAny_bind (wpAny_letGo (wpAny_pure (wpAny_bind (wpAny_bind (wpAny_onRaise ?_)))))
  show wpAny _ _ (Builtin.SmallTypes.nextOf (.ref j) >>= _) _ _ _
  refine wpAny_bind (Wy.next (Wy.it_at hj fun o g => e3.extBut _ _ D.TOi2.symm (e2.extBut _ _ D.i12.symm (e1.extBut _ _ D.i2z g)))
    (Wy.sq_at hb fun o g => e3.extBut _ _ D.l2TO (e2.extBut _ _ D.l2i1 (e1.extBut _ _ D.l2z g))) hy fun g4 j4 e4 => wpAny_pure ?_)
  have t4 : IsPair g4 tu x q := e4.extBut _ _ D.TOi2 t3
  refine wpAny_bind (wpAny_seqItems t4 rfl (wpAny_bind (wpAny_updateSeq_pair t4 fun g5 t5 e5 => ?_)))
  replace t5 : IsPair g5 tu x y := t5
  refine wpAny_bind (wpAny_letGo (wpAny_pure (wpAny_pure (wpAny_bind (wpAny_seqItems t5 rfl (wpAny_bind (wpAny_newTuple ?_)))))))
  have sz : g5.objs.size = s.heap.objs.size := by rw [e5.1, e4.1, e3.1, e2.1, e1.1]
  have z5 : IsZip g5 z ti tu .ellipsis := e5.extBut _ _ D.TOz.symm (e4.extBut _ _ D.i2z.symm (e3.extBut _ _ D.TOz.symm (e2.extBut _ _ D.i1z.symm z1)))
  have all5 : But4 z tu i j s.heap g5 := fun c o c1 c2 c3 c4 g => e5.extBut _ _ c2 (e4.extBut _ _ c4 (e3.extBut _ _ c2 (e2.extBut _ _ c3 (e1.extBut _ _ c1 g))))
  have i5 : k.it g5 i a (m + 1) := Wy.it_at i2 fun o g => e5.extBut _ _ D.TOi1.symm (e4.extBut _ _ D.i12 (e3.extBut _ _ D.TOi1.symm g))
  have j5 : k'.it g5 j b (n + 1) := Wy.it_at j4 fun o g => e5.extBut _ _ D.TOi2.symm g
  have zlt : z < g5.objs.size := Heap.lt_size z5
  show wpAny _ _ (Builtin.SmallTypes.ownedTupleHandOut (.ref z) (.ref g5.objs.size) >>= _) _ _ _; refine wpAny_bind ?_
  unfold Builtin.SmallTypes.ownedTupleHandOut
  have z6 : IsZip (g5.push { cls := .type "tuple", data := .seq #[x, y] }) z ti tu .ellipsis := Heap.get?_push_of_some _ z5
  refine wpAny_bind (wpAny_setField_rec z6 (by simp) fun g7 z7 e7 => ?_); replace z7 : IsZip g7 z ti tu (rawInt g5.objs.size) := z7
  refine wpAny_setField_rec z7 (by simp) fun g8 z8 e8 => ?_; replace z8 : IsZip g8 z ti tu (rawInt g5.objs.size) := z8
  have up : ∀ c o, c ≠ z → g5.get? c = some o → g8.get? c = some o := fun c o c1 g => e8.extBut _ _ c1 (e7.extBut _ _ c1 (Heap.get?_push_of_some _ g))
  have t8 : IsPair g8 g5.objs.size x y := e8.extBut _ _ (Nat.ne_of_gt zlt) (e7.extBut _ _ (Nat.ne_of_gt zlt) (Heap.get?_push_size _ rfl))
  have sz8 : g8.objs.size = g5.objs.size + 1 := by rw [e8.1, e7.1, Heap.size_push]
  rw [sz] at z8 t8 sz8
  refine wpAny_pure ⟨_, rfl, ?_⟩; show Q (.ref g5.objs.size) _; rw [sz]
  exact go g8 z8 (up _ _ D.TOz t5) (Wy.it_at i5 fun o g => up _ o D.i1z g) (Wy.it_at j5 fun o g => up _ o D.i2z g) t8 sz8 fun c o c1 c2 c3 c4 g => up c o c1 (all5 c o c1 c2 c3 c4 g)
theorem zipw_end {Q : Fin → Shared → Prop} (hh : A.handled = none) (D : ZipApart z ti tu i j a b) (hz : IsZip s.heap z ti tu .none) (hti : IsPair s.heap ti (.ref i) (.ref j)) (htu : IsPair s.heap tu p q)
    (hi : k.it s.heap i a m) (hj : k'.it s.heap j b n) (ha : k.sq s.heap a xs) (hb : k'.sq s.heap b ys) (no : xs[m]? = none ∨ ys[n]? = none)
    (go : ∀ h' e, But4 z tu i j s.heap h' → (∃ o, h'.get? e = some o ∧ o.cls = .type "StopIteration") → E (.ref e) { s with heap := h' }) : wpAny (model prog w) A (Builtin.«zip.__next__» ⟨[.ref z], []⟩) Q E s := by
  show wpAny _ _ (field (.ref z) 2 >>= _) _ _ _
  refine wpAny_bind (wpAny_field hz rfl (x := .bool false) rfl ?_); show wpAny _ _ (field (.ref z) 3 >>= _) _ _ _
  refine wpAny_bind (wpAny_field hz rfl (x := .ref ti) rfl (wpAny_bind (wpAny_seqItems hti rfl ?_)))
  show wpAny _ _ (Builtin.SmallTypes.ownedTupleIsFree (.ref z) >>= _) _ _ _; refine wpAny_bind ?_
  unfold Builtin.SmallTypes.ownedTupleIsFree
  refine wpAny_bind (wpAny_field hz rfl (x := .none) rfl (wpAny_pure ?_)); simp only [if_true]
  refine wpAny_bind (wpAny_rule (wpAny_bind (wpAny_field hz rfl (x := .ref tu) rfl (wpAny_bind (wpAny_setField_rec hz (by simp) fun g1 z1 e1 => ?_)))))
  replace z1 : IsZip g1 z ti tu .ellipsis := z1
  refine wpAny_bind ?_; simp only [List.zipIdx_cons, List.zipIdx_nil, List.forIn_cons, List.forIn_nil]
  refine wpAny_bind (wpAny_bind (wpAny_onRaise ?_)); show wpAny _ _ (Builtin.SmallTypes.nextOf (.ref i) >>= _) _ _ _
  cases hx : xs[m]? with
  | none =>
    refine wpAny_bind (Wy.stop hh (Wy.it_at hi fun o => e1.extBut _ _ D.i1z) (Wy.sq_at ha fun o => e1.extBut _ _ D.l1z) hx fun g2 e e2 ⟨oe, he, ce⟩ => ?_)
    have z2 : IsZip g2 z ti tu .ellipsis := e2 _ _ D.i1z.symm z1
    have ez : e ≠ z := fun u => by subst u; rw [z2] at he; cases he; simp at ce
    exact wpAny_setField_rec z2 (by simp) fun g3 _ e3 => go g3 e (fun c o c1 _ c3 _ u => e3.extBut _ _ c1 (e2 _ _ c3 (e1.extBut _ _ c1 u))) ⟨oe, e3.extBut _ _ ez he, ce⟩
  | some x =>
    have hy : ys[n]? = none := by
      rcases no with h | h
      · rw [hx] at h
        cases h
      · exact h
    refine wpAny_bind (Wy.next (Wy.it_at hi fun o => e1.extBut _ _ D.i1z) (Wy.sq_at ha fun o => e1.extBut _ _ D.l1z) hx fun g2 i2 e2 => wpAny_pure ?_)
    have t2 : IsPair g2 tu p q := e2.extBut _ _ D.TOi1 (e1.extBut _ _ D.TOz htu)
    refine wpAny_bind (wpAny_seqItems t2 rfl (wpAny_bind (wpAny_updateSeq_pair t2 fun g3 t3 e3 => ?_)))
    refine wpAny_bind (wpAny_letGo (wpAny_pure (wpAny_bind (wpAny_bind (wpAny_onRaise ?_)))))
    show wpAny _ _ (Builtin.SmallTypes.nextOf (.ref j) >>= _) _ _ _
    refine wpAny_bind (Wy.stop hh (Wy.it_at hj fun o g => e3.extBut _ _ D.TOi2.symm (e2.extBut _ _ D.i12.symm (e1.extBut _ _ D.i2z g)))
      (Wy.sq_at hb fun o g => e3.extBut _ _ D.l2TO (e2.extBut _ _ D.l2i1 (e1.extBut _ _ D.l2z g))) hy fun g4 e e4 ⟨oe, he, ce⟩ => ?_)
    have z4 : IsZip g4 z ti tu .ellipsis := e4 _ _ D.i2z.symm (e3.extBut _ _ D.TOz.symm (e2.extBut _ _ D.i1z.symm z1))
    have ez : e ≠ z := fun u => by subst u; rw [z4] at he; cases he; simp at ce
    exact wpAny_setField_rec z4 (by simp) fun g5 _ e5 => go g5 e (fun c o c1 c2 c3 c4 u => e5.extBut _ _ c1 (e4 _ _ c4 (e3.extBut _ _ c2 (e2.extBut _ _ c3 (e1.extBut _ _ c1 u))))) ⟨oe, e5.extBut _ _ ez he, ce⟩
theorem zipw_next {Q : Option Value → Shared → Prop} (D : ZipApart z ti tu i j a b) (hz : IsZip s.heap z ti tu .none) (hti : IsPair s.heap ti (.ref i) (.ref j)) (htu : IsPair s.heap tu p q)
    (hi : k.it s.heap i a m) (hj : k'.it s.heap j b n) (ha : k.sq s.heap a xs) (hb : k'.sq s.heap b ys) (hx : xs[m]? = some x) (hy : ys[n]? = some y)
    (go : ∀ h', IsZip h' z ti tu (rawInt s.heap.objs.size) → IsPair h' tu x y → k.it h' i a (m + 1) → k'.it h' j b (n + 1) → IsPair h' s.heap.objs.size x y → h'.objs.size = s.heap.objs.size + 1 → But4 z tu i j s.heap h' → Q (some (.ref s.heap.objs.size)) { s with heap := h' }) :
    wpAny (model prog w) A (pyNext (.ref z)) Q E s := by
  have hT : s.TypeIs (.ref z) "zip" := ⟨_, hz, rfl⟩
  unfold pyNext
  refine wpAny_bind (wpAny_attempt (wpAny_callSpecial?_slot (name := Str.ofString "__next__") hT F.slot_zip_next (wpAny_call_entry F.slot_zip_next hT F.entry_zip_next (zipw_item D hz hti htu hi hj ha hb hx hy fun h' a1 a2 a3 a4 a5 a6 a7 => ?_) (F.args_zip_next_1 _))))
  exact wpAny_pure (go h' a1 a2 a3 a4 a5 a6 a7)
theorem zipw_done {Q : Option Value → Shared → Prop} (hh : A.handled = none) (D : ZipApart z ti tu i j a b) (hz : IsZip s.heap z ti tu .none) (hti : IsPair s.heap ti (.ref i) (.ref j)) (htu : IsPair s.heap tu p q)
    (hi : k.it s.heap i a m) (hj : k'.it s.heap j b n) (ha : k.sq s.heap a xs) (hb : k'.sq s.heap b ys) (no : xs[m]? = none ∨ ys[n]? = none)
    (go : ∀ h', But4 z tu i j s.heap h' → Q none { s with heap := h' }) : wpAny (model prog w) A (pyNext (.ref z)) Q E s := by
  have hT : s.TypeIs (.ref z) "zip" := ⟨_, hz, rfl⟩
  unfold pyNext
  refine wpAny_bind (wpAny_attempt (wpAny_callSpecial?_slot (name := Str.ofString "__next__") hT F.slot_zip_next (wpAny_call_entry F.slot_zip_next hT F.entry_zip_next (zipw_end hh D hz hti htu hi hj ha hb no fun h' e hk ⟨o, ho, hc⟩ => ?_) (F.args_zip_next_1 _))))
  exact wpAny_bind (wpAny_isInstance (T := "StopIteration") (b := true) ⟨o, ho, hc⟩ isSubtype_stop (wpAny_pure (go _ hk)))
end
def zw1 (h : Heap) (k : Wy) (a : Addr) : Heap := h.push (k.ob a)
def zw2 (h : Heap) (k k' : Wy) (a b : Addr) : Heap := (zw1 h k a).push (k'.ob b)
def zw3 (h : Heap) (k k' : Wy) (a b : Addr) : Heap := (zw2 h k k' a b).push { cls := .type "tuple", data := .seq #[.ref h.objs.size, .ref (zw1 h k a).objs.size] }
def zw4 (h : Heap) (k k' : Wy) (a b : Addr) : Heap := (zw3 h k k' a b).push { cls := .type "tuple", data := .seq #[.none, .none] }
def zw5 (h : Heap) (k k' : Wy) (a b : Addr) : Heap := (zw4 h k k' a b).push { cls := .type "zip", data := .fields #[.none, .bool false, .bool false, .ref (zw2 h k k' a b).objs.size, .ref (zw3 h k k' a b).objs.size] }
theorem meets_zipw (k k' : Wy) (a b : Addr) (xs ys : Array Value) :
    Meets (Builtin.«zip.__new__» ⟨[.type "zip", .ref a, .ref b], []⟩) (fun _ R s => k.sq s.heap a xs ∧ k'.sq s.heap b ys ∧ R (.ok (.ret (.ref (zw4 s.heap k k' a b).objs.size))) { s with heap := zw5 s.heap k k' a b }) :=
  .of_wp fun prog w A R s h => by
    obtain ⟨hp, g, d, tk, os⟩ := s
    obtain ⟨ha, hb, h⟩ := h
    have hsub := sub_zip
    have sa : k.sq (Shared.heap ⟨hp, g, d, tk, os⟩) a xs := ha
    have sb : k'.sq (Shared.heap ⟨hp.push (k.ob a), g, d, tk, os⟩) b ys := Wy.sq_at hb fun o e => Heap.get?_push_of_some _ e
    wp_walk using Wy.iter sa, Wy.iter sb
    exact ⟨_, rfl, h⟩
theorem call_zipw {prog : Program} {w : World} {A : Around} {E : Value → Shared → Prop} {s : Shared} {k k' : Wy} {a b : Addr} {xs ys : Array Value} {Q : Value → Shared → Prop} (ha : k.sq s.heap a xs) (hb : k'.sq s.heap b ys)
    (go : ∀ h', IsZip h' (s.heap.objs.size + 4) (s.heap.objs.size + 2) (s.heap.objs.size + 3) .none → IsPair h' (s.heap.objs.size + 2) (.ref s.heap.objs.size) (.ref (s.heap.objs.size + 1)) → IsPair h' (s.heap.objs.size + 3) .none .none →
      k.it h' s.heap.objs.size a 0 → k'.it h' (s.heap.objs.size + 1) b 0 → (∀ c o, s.heap.get? c = some o → h'.get? c = some o) → Q (.ref (s.heap.objs.size + 4)) { s with heap := h' }) :
    wpAny (model prog w) A (call (.type "zip") [.ref a, .ref b]) Q E s := by
  refine callType_new F.called_zip (by decide) (F.typeCall_zip_2 _ _) (F.newCall_zip_2 _ _) (fun obj => F.args_object_init_3 obj _ _) F.entry_zip_new (meets_zipw k k' a b xs ys) ⟨ha, hb, ?_⟩
  have n1 : (zw1 s.heap k a).objs.size = s.heap.objs.size + 1 := Heap.size_push ..
  have n2 : (zw2 s.heap k k' a b).objs.size = s.heap.objs.size + 2 := by rw [zw2, Heap.size_push, n1]
  have n3 : (zw3 s.heap k k' a b).objs.size = s.heap.objs.size + 3 := by rw [zw3, Heap.size_push, n2]
  have n4 : (zw4 s.heap k k' a b).objs.size = s.heap.objs.size + 4 := by rw [zw4, Heap.size_push, n3]
  have u1 : ∀ c o, s.heap.get? c = some o → (zw1 s.heap k a).get? c = some o := fun c o e => Heap.get?_push_of_some _ e
  have u2 : ∀ c o, (zw1 s.heap k a).get? c = some o → (zw2 s.heap k k' a b).get? c = some o := fun c o e => Heap.get?_push_of_some _ e
  have u3 : ∀ c o, (zw2 s.heap k k' a b).get? c = some o → (zw3 s.heap k k' a b).get? c = some o := fun c o e => Heap.get?_push_of_some _ e
  have u4 : ∀ c o, (zw3 s.heap k k' a b).get? c = some o → (zw4 s.heap k k' a b).get? c = some o := fun c o e => Heap.get?_push_of_some _ e
  have u5 : ∀ c o, (zw4 s.heap k k' a b).get? c = some o → (zw5 s.heap k k' a b).get? c = some o := fun c o e => Heap.get?_push_of_some _ e
  have o5 : (zw5 s.heap k k' a b).get? (zw4 s.heap k k' a b).objs.size = some _ := Heap.get?_push_size _ rfl
  have o4 : (zw4 s.heap k k' a b).get? (zw3 s.heap k k' a b).objs.size = some _ := Heap.get?_push_size _ rfl
  have o3 : (zw3 s.heap k k' a b).get? (zw2 s.heap k k' a b).objs.size = some _ := Heap.get?_push_size _ rfl
  have o2 : (zw2 s.heap k k' a b).get? (zw1 s.heap k a).objs.size = some (k'.ob b) := Heap.get?_push_size _ (by cases k' <;> rfl)
  have o1 : (zw1 s.heap k a).get? s.heap.objs.size = some (k.ob a) := Heap.get?_push_size _ (by cases k <;> rfl)
  rw [n2, n3, n4] at o5
  rw [n3] at o4
  rw [n1, n2] at o3
  rw [n1] at o2
  show _ ∧ _
  rw [n4]
  exact ⟨⟨_, o5, rfl⟩, go _ o5 (u5 _ _ (u4 _ _ o3)) (u5 _ _ o4) (Wy.it_of (u5 _ _ (u4 _ _ (u3 _ _ (u2 _ _ o1))))) (Wy.it_of (u5 _ _ (u4 _ _ (u3 _ _ o2)))) fun c o e => u5 _ _ (u4 _ _ (u3 _ _ (u2 _ _ (u1 _ _ e))))⟩
theorem Wy.inv {k : Wy} {X : Cx} {pins : List (Addr × Obj)} {σ : L2.St} {H : Hp} {s : Shared} {a : Addr} {xs : List V} (I : Inv X pins σ H s) (h : k.of X.K H a xs) : ∃ its : List Value, Vals xs its ∧ k.sq s.heap a its.toArray := by
  cases k
  · obtain ⟨its, r, p, _⟩ := I.list h
    exact ⟨its, r, p.isList⟩
  · obtain ⟨its, r, p, _⟩ := I.tuple h
    exact ⟨its, r, p⟩
theorem Wy.inj {k : Wy} {X : Cx} {pins : List (Addr × Obj)} {σ : L2.St} {H : Hp} {s : Shared} {a : Addr} {xs ys : List V} (I : Inv X pins σ H s) (h : k.of X.K H a xs) (h' : k.of X.K H a ys) : xs = ys := by
  cases k
  · exact I.list_inj h h'
  · exact I.tuple_inj h h'
/-- what stands at a and b at each turn, the items in new pairs -/
def Itw (K : PySem.W.Frag) (k k' : Wy) (a b : Addr) : It :=
  ⟨fun n H => ∃ (xs ys : List V) (x y : V), k.of K H a xs ∧ k'.of K H b ys ∧ xs[n]? = some x ∧ ys[n]? = some y,
    fun n H v H' => ∃ p x y, v = .ref p ∧ H p = none ∧ H' = upd H p (.tup [x, y]) ∧ (∀ xs, k.of K H a xs → xs[n]? = some x) ∧ ∀ ys, k'.of K H b ys → ys[n]? = some y,
    fun n H => ∃ xs ys : List V, k.of K H a xs ∧ k'.of K H b ys ∧ (xs.length ≤ n ∨ ys.length ≤ n)⟩
theorem five {c z ti tu i j : Addr} (h : c ∈ [z, ti, tu, i, j]) : c = z ∨ c = ti ∨ c = tu ∨ c = i ∨ c = j := by simpa using h
theorem turn_zipw {P : Program} {w : World} {K : PySem.W.Frag} {elts : List Expr} {kk : Nat} {tpos : Pos} {k k' : Wy} {a b z ti tu i j : Addr} (D : ZipApart z ti tu i j a b) :
    Turn P w K (.Tuple elts kk tpos) (Itw K k k' a b) [z, ti, tu, i, j] z (fun n h => IsZip h z ti tu .none ∧ IsPair h ti (.ref i) (.ref j) ∧ (∃ x y, IsPair h tu x y) ∧ k.it h i a n ∧ k'.it h j b n) where
  mem := List.mem_cons_self ..
  obj := fun n h ⟨hz, hti, ⟨x, y, htu⟩, hi, hj⟩ c hc => by
    obtain ⟨o1, e1, d1⟩ := Wy.it_ob hi
    obtain ⟨o2, e2, d2⟩ := Wy.it_ob hj
    rcases five hc with rfl | rfl | rfl | rfl | rfl
    · exact ⟨_, hz, fun v q => nomatch q⟩
    · exact ⟨_, hti, fun v q => nomatch q⟩
    · exact ⟨_, htu, fun v q => nomatch q⟩
    · exact ⟨o1, e1, fun v q => by rw [d1] at q; cases q⟩
    · exact ⟨o2, e2, fun v q => by rw [d2] at q; cases q⟩
  keep := fun n h h' ⟨hz, hti, ⟨x, y, htu⟩, hi, hj⟩ kp => ⟨kp z (by simp) _ hz, kp ti (by simp) _ hti, ⟨x, y, kp tu (by simp) _ htu⟩, Wy.it_at hi (kp i (by simp)), Wy.it_at hj (kp j (by simp))⟩
  item := by
    intro X hP hw hK hc n pins s σ H E I hf st hg
    subst hP hw hK
    obtain ⟨hz, hti, ⟨x0, y0, htu⟩, hi, hj⟩ := st
    obtain ⟨xs, ys, x, y, hqx, hqy, hx, hy⟩ := hg
    obtain ⟨its, rv, pa⟩ := Wy.inv I hqx
    obtain ⟨its2, rv2, pb⟩ := Wy.inv I hqy
    obtain ⟨u, hu, ru⟩ := rv.get hx
    obtain ⟨u2, hu2, ru2⟩ := rv2.get hy
    have zlt : z < s.heap.objs.size := Heap.lt_size hz
    refine zipw_next D hz hti htu hi hj pa pb (x := u) (y := u2) (by simpa using hu) (by simpa using hu2) fun h' z' tu' i' j' hT hsz hk => ⟨_, rfl, wpAny_letOwnedTupleGo_zip (s := { s with heap := h' }) z' fun h2 z2 sb => ?_⟩
    have hT2 : h2.get? s.heap.objs.size = some { cls := .type "tuple", data := .seq #[u, u2] } := (sb.2 _ (Nat.ne_of_gt zlt)).trans hT
    have hk2 : ∀ c o, c ∉ [z, ti, tu, i, j] → s.heap.get? c = some o → h2.get? c = some o := fun c o hb q =>
      (sb.2 c fun q' => hb (by simp [q'])).trans (hk c o (fun q' => hb (by simp [q'])) (fun q' => hb (by simp [q'])) (fun q' => hb (by simp [q'])) (fun q' => hb (by simp [q'])) q)
    have I1 : Inv X pins σ (upd H s.heap.objs.size (.tup [x, y])) { s with heap := h2 } :=
      I.turnedNew (t' := s.toks) (ch := [z, ti, tu, i, j]) hk2 hf (Nat.le_refl _) ⟨by show 2 ≤ sizeLine; decide, [u, u2], .cons ru (.cons ru2 .nil), ⟨_, hT2, rfl, _, rfl⟩⟩
    refine ⟨.ref s.heap.objs.size, _, I1, rfl, ⟨_, x, y, rfl, I.hok.fresh (Nat.le_refl _), rfl, fun l hl => by rw [Wy.inj I hl hqx]; exact hx, fun l hl => by rw [Wy.inj I hl hqy]; exact hy⟩,
      ⟨z2, (sb.2 _ D.TIz).trans (hk _ _ D.TIz D.TITO D.TIi1 D.TIi2 hti), ⟨u, u2, (sb.2 _ D.TOz).trans tu'⟩, Wy.it_at i' fun o q => (sb.2 _ D.i1z).trans q, Wy.it_at j' fun o q => (sb.2 _ D.i2z).trans q⟩, fun c hcm => ?_⟩
    obtain ⟨o1, e1, _⟩ := Wy.it_ob hi
    obtain ⟨o2, e2, _⟩ := Wy.it_ob hj
    have clt : c < s.heap.objs.size := by
      rcases five hcm with rfl | rfl | rfl | rfl | rfl
      · exact zlt
      · exact Heap.lt_size hti
      · exact Heap.lt_size htu
      · exact Heap.lt_size e1
      · exact Heap.lt_size e2
    rw [upd_ne (Nat.ne_of_lt clt)]
    exact (hf c hcm).1
  done := by
    intro X hP hw hK hc n pins s σ H E I hf st hg
    subst hP hw hK
    obtain ⟨hz, hti, ⟨x0, y0, htu⟩, hi, hj⟩ := st
    obtain ⟨xs, ys, hqx, hqy, fin⟩ := hg
    obtain ⟨its, rv, pa⟩ := Wy.inv I hqx
    obtain ⟨its2, rv2, pb⟩ := Wy.inv I hqy
    have l1 := rv.length
    have l2 := rv2.length
    have no : its.toArray[n]? = none ∨ its2.toArray[n]? = none := by
      rcases fin with q | q
      · exact .inl (by rw [List.getElem?_toArray]; exact List.getElem?_eq_none (by omega))
      · exact .inr (by rw [List.getElem?_toArray]; exact List.getElem?_eq_none (by omega))
    refine zipw_done (I.ok.hd hc) D hz hti htu hi hj pa pb no fun h' hk => ⟨rfl, I.turnedL (t' := s.toks) (ch := [z, ti, tu, i, j]) (fun c o hb q => ?_) hf⟩
    exact hk c o (fun q' => hb (by simp [q'])) (fun q' => hb (by simp [q'])) (fun q' => hb (by simp [q'])) (fun q' => hb (by simp [q'])) q
  self := fun A i s Q E st h => wpAny_pyIter_zip st.1 h
def iZipW (K : PySem.W.Frag) (ta : TA) : TI := fun σ H R => ta σ H fun vs H1 => ∃ k k' a b xs ys, vs = [.ref a, .ref b] ∧ Wy.of K k H1 a xs ∧ Wy.of K k' H1 b ys ∧ R (Itw K k k' a b) H1
theorem pi_zipW {X : Cx} {K : PySem.W.Frag} (hK : X.K = K) {e e2 : Expr} {ta : TA} {p pos tpos : Pos} {elts : List Expr} {kk : Nat} (hg : Gl X "zip") (hm : X.mg "zip" = none) (ha : PA X [e, e2] ta)
    (hs : starEach [e, e2] X.env = (false, eval e X.env) :: starEach [e2] X.env := by rfl) (hpl : (backTo pos (starEach [e2] X.env)).any (·.1) = false := by rfl) :
    PI X (.Tuple elts kk tpos) (.Call (.Name "zip" p) [e, e2] [] pos) (iZipW K ta) := by
  subst hK
  refine ⟨fun pins s σ H R I h => Call_ (ld_blt I hg hm PyProof.Rows.boot_zip (PyProof.Rows.callWith_type1 (thn (ha.run pos pins s σ H _ I h) fun us s1 ⟨vs, H1, I1, r1, q1⟩ => ?_) hs hpl))⟩
  obtain ⟨k, k', a, b, xs, ys, ex, hqx, hqy, q⟩ := q1
  subst ex
  cases r1 with
  | cons r rr =>
    cases rr with
    | cons r' rr =>
      cases rr
      cases r
      cases r'
      obtain ⟨its, rv, pa⟩ := Wy.inv I1 hqx
      obtain ⟨its2, rv2, pb⟩ := Wy.inv I1 hqy
      have la : a < s1.heap.objs.size := by
        cases k <;> exact let ⟨o, e, _⟩ := pa; Heap.lt_size e
      have lb : b < s1.heap.objs.size := by
        cases k' <;> exact let ⟨o, e, _⟩ := pb; Heap.lt_size e
      refine call_zipw pa pb fun h' hz hti htu hi hj hk => wpAny_pyIter_zip hz ?_
      have I2 : Inv X pins σ H1 { s1 with heap := h' } := I1.kept (t' := s1.toks) hk
      refine ⟨s1.heap.objs.size + 4, [s1.heap.objs.size + 4, s1.heap.objs.size + 2, s1.heap.objs.size + 3, s1.heap.objs.size, s1.heap.objs.size + 1], _, _, H1, rfl, I2, turn_zipw (PySem.W.ktu_apart s1.heap.objs.size a b la lb), ⟨hz, hti, ⟨_, _, htu⟩, hi, hj⟩, fun c hcm => ?_, q⟩
      have hle : s1.heap.objs.size ≤ c := by
        rcases five hcm with rfl | rfl | rfl | rfl | rfl
        · exact Nat.le_add_right _ _
        · exact Nat.le_add_right _ _
        · exact Nat.le_add_right _ _
        · exact Nat.le_refl _
        · exact Nat.le_add_right _ _
      exact I1.fpOk hle (I1.hok.fresh hle)
/-- over pairs of two of one length that the block leaves as they are -/
theorem lc_zipw {K : PySem.W.Frag} {k k' : Wy} {a b : Addr} {xs ys : List V} {g : TG} {tt : TT} {te : TE} {vs : List Nat} {σ : L2.St} {H1 : Hp} {D : Addr} {Qd : Hp → Prop} (hl : xs.length = ys.length) (Pv : Nat → Hp → Prop) (h0 : Pv 0 (upd H1 D (.lst [])))
    (hq : ∀ n H, Pv n H → k.of K H a xs ∧ k'.of K H b ys)
    (hs : ∀ n x y p H, xs[n]? = some x → ys[n]? = some y → Pv n H → H p = none → g (.ref p) (wipe σ vs) (upd H p (.tup [x, y])) fun σ2 H2 => wipe σ2 vs = wipe σ vs ∧ tt σ2 H2 fun c H3 =>
      if c = true then te σ2 H3 fun y H4 => ∃ acc, H4 D = some (.lst acc) ∧ acc.length < sizeLine ∧ Pv (n + 1) (upd H4 D (.lst (acc ++ [y]))) else Pv (n + 1) H3) (hd : ∀ H, Pv xs.length H → Qd H) :
    ∃ W : Nat → Nat → Hp → Prop, (∃ m, W 0 m (upd H1 D (.lst []))) ∧ ∀ n m H, W n m H →
      ((Itw K k k' a b).stop n H ∧ Qd H) ∨ ((Itw K k k' a b).go n H ∧ ∃ Nx : Hp → Prop, (∀ H', Nx H' → ∃ m', m' < m ∧ W (n + 1) m' H') ∧ ∀ x H', (Itw K k k' a b).yld n H x H' → g x (wipe σ vs) H' fun σ2 H2 => wipe σ2 vs = wipe σ vs ∧ tt σ2 H2 fun c H3 =>
        if c = true then te σ2 H3 fun y H4 => ∃ acc, H4 D = some (.lst acc) ∧ acc.length < sizeLine ∧ Nx (upd H4 D (.lst (acc ++ [y]))) else Nx H3) := by
  refine ⟨fun n m H => m = xs.length - n ∧ n ≤ xs.length ∧ Pv n H, ⟨xs.length, rfl, Nat.zero_le _, h0⟩, ?_⟩
  rintro n m H ⟨rfl, hn, pv⟩
  obtain ⟨qx, qy⟩ := hq n H pv
  by_cases lt : n < xs.length
  · refine .inr ⟨⟨xs, ys, _, _, qx, qy, List.getElem?_eq_getElem lt, List.getElem?_eq_getElem (by omega)⟩, Pv (n + 1), fun H' p' => ⟨xs.length - (n + 1), by omega, rfl, lt, p'⟩, fun v H' yv => ?_⟩
    obtain ⟨p, x, y, rfl, np, rfl, f1, f2⟩ := yv
    exact hs n x y p H (f1 xs qx) (f2 ys qy) pv np
  · have e : n = xs.length := by omega
    subst e
    exact .inl ⟨⟨xs, ys, qx, qy, .inl (Nat.le_refl _)⟩, hd H pv⟩

/-! ### zip of two, the second one shorter -/
theorem lc_zipw2 {K : PySem.W.Frag} {k k' : Wy} {a b : Addr} {xs ys : List V} {g : TG} {tt : TT} {te : TE} {vs : List Nat} {σ : L2.St} {H1 : Hp} {D : Addr} {Qd : Hp → Prop} (hl : ys.length < xs.length) (Pv : Nat → Hp → Prop) (h0 : Pv 0 (upd H1 D (.lst [])))
    (hq : ∀ n H, Pv n H → k.of K H a xs ∧ k'.of K H b ys)
    (hs : ∀ n x y p H, xs[n]? = some x → ys[n]? = some y → Pv n H → H p = none → g (.ref p) (wipe σ vs) (upd H p (.tup [x, y])) fun σ2 H2 => wipe σ2 vs = wipe σ vs ∧ tt σ2 H2 fun c H3 =>
      if c = true then te σ2 H3 fun y H4 => ∃ acc, H4 D = some (.lst acc) ∧ acc.length < sizeLine ∧ Pv (n + 1) (upd H4 D (.lst (acc ++ [y]))) else Pv (n + 1) H3) (hd : ∀ H, Pv ys.length H → Qd H) :
    ∃ W : Nat → Nat → Hp → Prop, (∃ m, W 0 m (upd H1 D (.lst []))) ∧ ∀ n m H, W n m H →
      ((Itw K k k' a b).stop n H ∧ Qd H) ∨ ((Itw K k k' a b).go n H ∧ ∃ Nx : Hp → Prop, (∀ H', Nx H' → ∃ m', m' < m ∧ W (n + 1) m' H') ∧ ∀ x H', (Itw K k k' a b).yld n H x H' → g x (wipe σ vs) H' fun σ2 H2 => wipe σ2 vs = wipe σ vs ∧ tt σ2 H2 fun c H3 =>
        if c = true then te σ2 H3 fun y H4 => ∃ acc, H4 D = some (.lst acc) ∧ acc.length < sizeLine ∧ Nx (upd H4 D (.lst (acc ++ [y]))) else Nx H3) := by
  refine ⟨fun n m H => m = ys.length - n ∧ n ≤ ys.length ∧ Pv n H, ⟨ys.length, rfl, Nat.zero_le _, h0⟩, ?_⟩
  rintro n m H ⟨rfl, hn, pv⟩
  obtain ⟨qx, qy⟩ := hq n H pv
  by_cases lt : n < ys.length
  · refine .inr ⟨⟨xs, ys, _, _, qx, qy, List.getElem?_eq_getElem (by omega), List.getElem?_eq_getElem lt⟩, Pv (n + 1), fun H' p' => ⟨ys.length - (n + 1), by omega, rfl, lt, p'⟩, fun v H' yv => ?_⟩
    obtain ⟨p, x, y, rfl, np, rfl, f1, f2⟩ := yv
    exact hs n x y p H (f1 xs qx) (f2 ys qy) pv np
  · have e : n = ys.length := by omega
    subst e
    refine .inl ⟨⟨xs, ys, qx, qy, ?_⟩, hd H pv⟩
    first
      | exact .inr ⟨hl, Nat.le_refl _⟩
      | exact .inr ⟨Nat.le_refl _, hl⟩
      | exact .inr (Nat.le_refl _)
theorem for_zipw {K : PySem.W.Frag} {k k' : Wy} {a b : Addr} {xs ys : List V} {g : TG} {tb : TS} {D : Ends} {σ : L2.St} {H : Hp} (hl : xs.length = ys.length) (Pv : Nat → L2.St → Hp → Prop) (h0 : Pv 0 σ H) (hq : ∀ n σ H, Pv n σ H → k.of K H a xs ∧ k'.of K H b ys)
    (hs : ∀ n x y p σ H, xs[n]? = some x → ys[n]? = some y → Pv n σ H → H p = none → g (.ref p) σ (upd H p (.tup [x, y])) fun σ2 H2 => tb { D with nx := Pv (n + 1), ct := Pv (n + 1), bk := D.nx } σ2 H2) (hd : ∀ σ H, Pv xs.length σ H → D.nx σ H) :
    ∃ W : Nat → Nat → L2.St → Hp → Prop, (∃ m, W 0 m σ H) ∧ ∀ i m σ H, W i m σ H →
      ((Itw K k k' a b).stop i H ∧ D.nx σ H) ∨ ((Itw K k k' a b).go i H ∧ ∃ N : L2.St → Hp → Prop, (∀ σ' H', N σ' H' → ∃ m', m' < m ∧ W (i + 1) m' σ' H') ∧ ∀ x H', (Itw K k k' a b).yld i H x H' → g x σ H' fun σ2 H2 => tb { D with nx := N, ct := N, bk := D.nx } σ2 H2) := by
  refine ⟨fun n m σ H => m = xs.length - n ∧ n ≤ xs.length ∧ Pv n σ H, ⟨xs.length, rfl, Nat.zero_le _, h0⟩, ?_⟩
  rintro n m σ H ⟨rfl, hn, pv⟩
  obtain ⟨qx, qy⟩ := hq n σ H pv
  by_cases lt : n < xs.length
  · refine .inr ⟨⟨xs, ys, _, _, qx, qy, List.getElem?_eq_getElem lt, List.getElem?_eq_getElem (by omega)⟩, Pv (n + 1), fun σ' H' p' => ⟨xs.length - (n + 1), by omega, rfl, lt, p'⟩, fun v H' yv => ?_⟩
    obtain ⟨p, x, y, rfl, np, rfl, f1, f2⟩ := yv
    exact hs n x y p σ H (f1 xs qx) (f2 ys qy) pv np
  · have e : n = xs.length := by omega
    subst e
    exact .inl ⟨⟨xs, ys, qx, qy, .inl (Nat.le_refl _)⟩, hd σ H pv⟩

/-! ### pieces of lists and tuples -/
theorem cut_ij (xs : List V) (i j : Nat) : cutV xs (some (i : Int)) (some (j : Int)) = (xs.drop i).take (j - i) := by
  unfold cutV
  rw [HT.sIx_nat, HT.sIx_nat]
  by_cases h : i ≤ xs.length
  · rw [Nat.min_eq_left h]
    by_cases h2 : j ≤ xs.length
    · rw [Nat.min_eq_left h2]
    · rw [Nat.min_eq_right (by omega), List.take_of_length_le (by rw [List.length_drop]; omega), List.take_of_length_le (by rw [List.length_drop]; omega)]
  · rw [List.drop_eq_nil_of_le (by omega : xs.length ≤ min i xs.length), List.drop_eq_nil_of_le (by omega : xs.length ≤ i), List.take_nil, List.take_nil]
theorem cut_0j (xs : List V) (j : Nat) : cutV xs none (some (j : Int)) = xs.take j := by
  unfold cutV
  rw [HT.sIx_none, HT.sIx_nat, List.drop_zero, Nat.sub_zero]
  by_cases h2 : j ≤ xs.length
  · rw [Nat.min_eq_left h2]
  · rw [Nat.min_eq_right (by omega), List.take_of_length_le (Nat.le_refl _), List.take_of_length_le (by omega)]
theorem cut_iE (xs : List V) (i : Nat) : cutV xs (some (i : Int)) none = xs.drop i := by
  unfold cutV
  rw [HT.sIx_none, HT.sIx_nat]
  by_cases h : i ≤ xs.length
  · rw [Nat.min_eq_left h, List.take_of_length_le (by rw [List.length_drop]; omega)]
  · rw [List.drop_eq_nil_of_le (by omega : xs.length ≤ min i xs.length), List.drop_eq_nil_of_le (by omega : xs.length ≤ i), List.take_nil]
section
variable {K : PySem.W.Frag} {H : Hp} {a : Addr} {xs : List V} {Q : VK}
theorem piece_take {m : Int} {n : Nat} (e : m = (n : Int)) (ha : H a = some (.tup xs)) (k : ∀ H' r, Same H H' → H' r = some (.tup (xs.take n)) → Q (.ref r) H') : rSlA K (.ref a) none (some m) H Q := by
  subst e
  refine ⟨a, xs, rfl, SqT.of ha, fun h => ?_, fun _ p hp => ?_⟩
  · rw [HT.sIx_nat] at h
    refine k H a (Same.refl _) ?_
    rw [List.take_of_length_le (by omega)]
    exact ha
  · rw [cut_0j]
    exact k _ p (same_new hp) upd_same
theorem piece_mid {m l : Int} {i j : Nat} (e1 : m = (i : Int)) (e2 : l = (j : Int)) (ha : H a = some (.tup xs)) (k : ∀ H' r, Same H H' → H' r = some (.tup ((xs.drop i).take (j - i))) → Q (.ref r) H') : rSlA K (.ref a) (some m) (some l) H Q := by
  subst e1 e2
  refine ⟨a, xs, rfl, SqT.of ha, fun h => ?_, fun _ p hp => ?_⟩
  · rw [HT.sIx_nat, HT.sIx_nat] at h
    refine k H a (Same.refl _) ?_
    have e : (xs.drop i).take (j - i) = xs := by
      rw [← cut_ij]
      unfold cutV
      rw [HT.sIx_nat, HT.sIx_nat, h.1, h.2, Nat.sub_zero, List.drop_zero, List.take_length]
    rw [e]
    exact ha
  · rw [cut_ij]
    exact k _ p (same_new hp) upd_same
theorem piece_drop {m : Int} {i : Nat} (e1 : m = (i : Int)) (ha : H a = some (.tup xs)) (k : ∀ H' r, Same H H' → H' r = some (.tup (xs.drop i)) → Q (.ref r) H') : rSlA K (.ref a) (some m) none H Q := by
  subst e1
  refine ⟨a, xs, rfl, SqT.of ha, fun h => ?_, fun _ p hp => ?_⟩
  · rw [HT.sIx_nat, HT.sIx_none] at h
    refine k H a (Same.refl _) ?_
    have e : xs.drop i = xs := by
      rw [← cut_iE]
      unfold cutV
      rw [HT.sIx_nat, HT.sIx_none, h.1, Nat.sub_zero, List.drop_zero, List.take_length]
    rw [e]
    exact ha
  · rw [cut_iE]
    exact k _ p (same_new hp) upd_same
end
theorem piece_dropC {K : PySem.W.Frag} {σ : L2.St} {H : Hp} {a : Addr} {xs : List V} {Q : VK} {m : Int} {i : Nat} (e1 : m = (i : Int)) (ha : H a = some (.tup xs)) (k : ∀ H' r, Same H H' → H' r = some (.tup (xs.drop i)) → Q (.ref r) H') :
    tNoPart σ H fun u H3 => rSlA K (.ref a) (some m) u H3 Q := piece_drop e1 ha k
theorem cut_one1 (l : List Int) (a : Nat) : cutV (l.map V.int) (some (a : Int)) (some ((a : Int) + 1)) = ((l.drop a).take 1).map V.int := by
  rw [show (a : Int) + 1 = ((a + 1 : Nat) : Int) from rfl, cut_ij, show a + 1 - a = 1 by omega, List.map_take, List.map_drop]
theorem flat_l (l : List Int) : (l.map V.int).all flatV = true := by
  rw [List.all_eq_true]
  intro v hv
  obtain ⟨i, _, rfl⟩ := List.mem_map.mp hv
  rfl
theorem inV_l (x : Int) (l : List Int) : inV (.int x) (l.map V.int) = decide (x ∈ l) := by
  unfold inV
  rw [List.any_map]
  by_cases h : x ∈ l
  · rw [decide_eq_true h, List.any_eq_true]
    exact ⟨x, h, decide_eq_true rfl⟩
  · rw [decide_eq_false h, List.any_eq_false]
    intro y hy z
    have z : decide (y = x) = true := z
    exact h (of_decide_eq_true z ▸ hy)
theorem iteFq {p : Prop} [Decidable p] {A B : Prop} (h : ¬ p) (b : B) : if decide p = true then A else B := by
  rw [if_neg fun z => h (of_decide_eq_true z)]
  exact b
theorem none_left {xs : List V} : (xs.filter fun _ => false).map (fun x => x) = [] := by
  rw [List.filter_eq_nil_iff.mpr fun _ _ => Bool.false_ne_true]
  rfl

/-! ### comprehensions whose items are told by a relation that stays -/
section
variable {K : PySem.W.Frag} {a : Addr} {xs : List V} {te : TE} {vs : List Nat} {σ : L2.St} {H : Hp} {D : Addr} {Qd : Hp → Prop} {j : Nat}
/-- what is told of the items so far -/
structure RelAt (Rel : Nat → V → Hp → Prop) (D : Addr) (i : Nat) (H H' : Hp) : Prop where
  sm : Same H H'
  ys : ∃ ys, H' D = some (.lst ys) ∧ ys.length = i ∧ ∀ (k : Nat) y, ys[k]? = some y → Rel k y H'
theorem rel_turn {Rel : Nat → V → Hp → Prop} {i : Nat} {x : V} {H' : Hp} {P : Hp → Prop} (keep : ∀ i y H1 H2, Rel i y H1 → Same H1 H2 → Rel i y H2) (mu : ∀ i y H1 l o, H1 D = some (.lst l) → Rel i y H1 → Rel i y (upd H1 D o)) (hD : H D = none)
    (wip : wipe ((wipe σ vs).set j (some x)) vs = wipe σ vs) (r : RelAt Rel D i H H') (small : i < 1000000) (he : ∀ R : VK, (∀ y H'', Same H' H'' → Rel i y H'' → R y H'') → te ((wipe σ vs).set j (some x)) H' R) (k : ∀ H'', RelAt Rel D (i + 1) H H'' → P H'') :
    gName j x (wipe σ vs) H' fun σ2 H2 => wipe σ2 vs = wipe σ vs ∧ tYes σ2 H2 fun b H3 => if b = true then te σ2 H3 fun y H4 => ∃ acc, H4 D = some (.lst acc) ∧ acc.length < sizeLine ∧ P (upd H4 D (.lst (acc ++ [y]))) else P H3 := by
  have line : 1000000 < sizeLine := by decide
  obtain ⟨sm, ys, hd, hl, hr⟩ := r
  refine ⟨wip, yes_go (he _ fun y H4 s4 ry => ⟨ys, s4 _ _ hd, by omega, k _ ⟨fun b o e => ?_, ys ++ [y], upd_same, by rw [List.length_append, hl]; rfl, fun m z hz => ?_⟩⟩)⟩
  · rw [upd_ne (ne_of_none e hD)]
    exact s4 _ _ (sm _ _ e)
  · refine mu _ _ _ _ _ (s4 _ _ hd) ?_
    by_cases c : m < ys.length
    · rw [List.getElem?_append_left c] at hz
      exact keep _ _ _ _ (hr m z hz) s4
    · rw [List.getElem?_append_right (by omega)] at hz
      have l := (List.getElem?_eq_some_iff.mp hz).1
      simp only [List.length_cons, List.length_nil] at l
      have e0 : m - ys.length = 0 := by omega
      rw [e0] at hz
      cases hz
      have em : m = i := by omega
      rw [em]
      exact ry
theorem rel_zero {Rel : Nat → V → Hp → Prop} (hD : H D = none) : RelAt Rel D 0 H (upd H D (.lst [])) := ⟨same_new hD, [], upd_same, rfl, fun k y e => by simp at e⟩
theorem lc_relL (Rel : Nat → V → Hp → Prop) (keep : ∀ i y H1 H2, Rel i y H1 → Same H1 H2 → Rel i y H2) (mu : ∀ i y H1 l o, H1 D = some (.lst l) → Rel i y H1 → Rel i y (upd H1 D o)) (hx : SqL K H a xs) (hD : H D = none) (hz : xs.length ≤ 1000000)
    (wip : ∀ x, wipe ((wipe σ vs).set j (some x)) vs = wipe σ vs) (he : ∀ (i : Nat) x, xs[i]? = some x → ∀ H', Same H H' → ∀ R : VK, (∀ y H'', Same H' H'' → Rel i y H'' → R y H'') → te ((wipe σ vs).set j (some x)) H' R)
    (k : ∀ H' ys, Same H H' → H' D = some (.lst ys) → ys.length = xs.length → (∀ (i : Nat) y, ys[i]? = some y → Rel i y H') → Qd H') :
    ∃ W : Nat → Nat → Hp → Prop, (∃ m, W 0 m (upd H D (.lst []))) ∧ ∀ i m H, W i m H →
      ((Itl K a).stop i H ∧ Qd H) ∨ ((Itl K a).go i H ∧ ∃ Nx : Hp → Prop, (∀ H', Nx H' → ∃ m', m' < m ∧ W (i + 1) m' H') ∧ ∀ x H', (Itl K a).yld i H x H' → gName j x (wipe σ vs) H' fun σ2 H2 => wipe σ2 vs = wipe σ vs ∧ tYes σ2 H2 fun b H3 =>
        if b = true then te σ2 H3 fun y H4 => ∃ acc, H4 D = some (.lst acc) ∧ acc.length < sizeLine ∧ Nx (upd H4 D (.lst (acc ++ [y]))) else Nx H3) := by
  refine lc_list (xs := xs) (RelAt Rel D · H) (rel_zero hD) (fun i H' _ p => p.sm.seq hx) (fun i x H' hi p => ?_) fun H' p => ?_
  · have li := (List.getElem?_eq_some_iff.mp hi).1
    exact rel_turn keep mu hD (wip x) p (by omega) (he i x hi H' p.sm) fun H'' q => q
  · obtain ⟨sm, ys, hd, hl, hr⟩ := p
    exact k H' ys sm hd hl hr
theorem lc_relT (Rel : Nat → V → Hp → Prop) (keep : ∀ i y H1 H2, Rel i y H1 → Same H1 H2 → Rel i y H2) (mu : ∀ i y H1 l o, H1 D = some (.lst l) → Rel i y H1 → Rel i y (upd H1 D o)) (hx : SqT K H a xs) (hD : H D = none) (hz : xs.length ≤ 1000000)
    (wip : ∀ x, wipe ((wipe σ vs).set j (some x)) vs = wipe σ vs) (he : ∀ (i : Nat) x, xs[i]? = some x → ∀ H', Same H H' → ∀ R : VK, (∀ y H'', Same H' H'' → Rel i y H'' → R y H'') → te ((wipe σ vs).set j (some x)) H' R)
    (k : ∀ H' ys, Same H H' → H' D = some (.lst ys) → ys.length = xs.length → (∀ (i : Nat) y, ys[i]? = some y → Rel i y H') → Qd H') :
    ∃ W : Nat → Nat → Hp → Prop, (∃ m, W 0 m (upd H D (.lst []))) ∧ ∀ i m H, W i m H →
      ((Itt K a).stop i H ∧ Qd H) ∨ ((Itt K a).go i H ∧ ∃ Nx : Hp → Prop, (∀ H', Nx H' → ∃ m', m' < m ∧ W (i + 1) m' H') ∧ ∀ x H', (Itt K a).yld i H x H' → gName j x (wipe σ vs) H' fun σ2 H2 => wipe σ2 vs = wipe σ vs ∧ tYes σ2 H2 fun b H3 =>
        if b = true then te σ2 H3 fun y H4 => ∃ acc, H4 D = some (.lst acc) ∧ acc.length < sizeLine ∧ Nx (upd H4 D (.lst (acc ++ [y]))) else Nx H3) := by
  refine lc_tup (xs := xs) (RelAt Rel D · H) (rel_zero hD) (fun i H' _ p => Same.seqT p.sm hx) (fun i x H' hi p => ?_) fun H' p => ?_
  · have li := (List.getElem?_eq_some_iff.mp hi).1
    exact rel_turn keep mu hD (wip x) p (by omega) (he i x hi H' p.sm) fun H'' q => q
  · obtain ⟨sm, ys, hd, hl, hr⟩ := p
    exact k H' ys sm hd hl hr
theorem eq_of_get {α : Type} {xs ys : List α} (hl : ys.length = xs.length) (h : ∀ (i : Nat) y, ys[i]? = some y → xs[i]? = some y) : ys = xs := by
  refine List.ext_getElem? fun i => ?_
  by_cases c : i < ys.length
  · rw [List.getElem?_eq_getElem c, h i _ (List.getElem?_eq_getElem c)]
  · rw [List.getElem?_eq_none (by omega), List.getElem?_eq_none (by omega)]
/-- the items are known ahead -/
theorem lc_mapL (zs : List V) (hn : zs.length = xs.length) (hx : SqL K H a xs) (hD : H D = none) (hz : xs.length ≤ 1000000)
    (wip : ∀ x, wipe ((wipe σ vs).set j (some x)) vs = wipe σ vs) (he : ∀ (i : Nat) x z, xs[i]? = some x → zs[i]? = some z → ∀ H', Same H H' → ∀ R : VK, (∀ H'', Same H' H'' → R z H'') → te ((wipe σ vs).set j (some x)) H' R)
    (k : ∀ H', Same H H' → H' D = some (.lst zs) → Qd H') :
    ∃ W : Nat → Nat → Hp → Prop, (∃ m, W 0 m (upd H D (.lst []))) ∧ ∀ i m H, W i m H →
      ((Itl K a).stop i H ∧ Qd H) ∨ ((Itl K a).go i H ∧ ∃ Nx : Hp → Prop, (∀ H', Nx H' → ∃ m', m' < m ∧ W (i + 1) m' H') ∧ ∀ x H', (Itl K a).yld i H x H' → gName j x (wipe σ vs) H' fun σ2 H2 => wipe σ2 vs = wipe σ vs ∧ tYes σ2 H2 fun b H3 =>
        if b = true then te σ2 H3 fun y H4 => ∃ acc, H4 D = some (.lst acc) ∧ acc.length < sizeLine ∧ Nx (upd H4 D (.lst (acc ++ [y]))) else Nx H3) := by
  refine lc_relL (fun i y _ => zs[i]? = some y) (fun _ _ _ _ r _ => r) (fun _ _ _ _ _ _ r => r) hx hD hz wip (fun i x hi H' s' R g => ?_) fun H' ys s' hd hl hr => k H' s' (by rw [hd, eq_of_get (by omega) hr])
  have li := (List.getElem?_eq_some_iff.mp hi).1
  exact he i x _ hi (List.getElem?_eq_getElem (by omega)) H' s' R fun H'' s'' => g _ H'' s'' (List.getElem?_eq_getElem (by omega))
end

/-! ### lists of lists of whole numbers; addresses out of values -/
theorem refs_of {R : Nat → Addr → Prop} : ∀ {ys : List V} {k : Nat}, (∀ (i : Nat) y, ys[i]? = some y → ∃ p, y = .ref p ∧ R (k + i) p) → ∃ ps : List Addr, ys = ps.map V.ref ∧ ∀ (i : Nat) p, ps[i]? = some p → R (k + i) p
  | [], k, h => ⟨[], rfl, fun i p hp => by simp at hp⟩
  | y :: ys, k, h => by
    obtain ⟨p, rfl, r⟩ := h 0 y rfl
    obtain ⟨ps, rfl, rs⟩ := refs_of (R := R) (ys := ys) (k := k + 1) fun i y hy => by
      obtain ⟨q, e, r'⟩ := h (i + 1) y hy
      exact ⟨q, e, by rw [show k + 1 + i = k + (i + 1) by omega]; exact r'⟩
    refine ⟨p :: ps, rfl, fun i q hq => ?_⟩
    cases i with
    | zero =>
      cases hq
      exact r
    | succ i =>
      rw [show k + (i + 1) = k + 1 + i by omega]
      exact rs i q hq
/-- a list of lists of whole numbers -/
structure Ls (H : Hp) (a : Addr) (qs : List Addr) (ls : List (List Int)) : Prop where
  l : H a = some (.lst (qs.map V.ref))
  n : qs.length = ls.length
  t : ∀ (i : Nat) q l, qs[i]? = some q → ls[i]? = some l → H q = some (.lst (l.map V.int))
theorem Ls.same {H H' : Hp} {a : Addr} {qs : List Addr} {ls : List (List Int)} (h : Ls H a qs ls) (s : Same H H') : Ls H' a qs ls := ⟨s _ _ h.l, h.n, fun i q c hq hc => s _ _ (h.t i q c hq hc)⟩
theorem Ls.at {H : Hp} {a : Addr} {qs : List Addr} {ls : List (List Int)} (h : Ls H a qs ls) {i : Nat} {v : V} (hv : (qs.map V.ref)[i]? = some v) : ∃ q l, v = .ref q ∧ qs[i]? = some q ∧ ls[i]? = some l ∧ H q = some (.lst (l.map V.int)) := by
  rw [List.getElem?_map] at hv
  cases eq : qs[i]? with
  | none => rw [eq] at hv; cases hv
  | some q =>
    rw [eq] at hv
    cases hv
    have li : i < ls.length := by
      rw [← h.n]
      exact (List.getElem?_eq_some_iff.mp eq).1
    exact ⟨q, _, rfl, rfl, List.getElem?_eq_getElem li, h.t i q _ eq (List.getElem?_eq_getElem li)⟩
section
variable {K : PySem.W.Frag} {a : Addr} {xs : List V} {te : TE} {vs : List Nat} {σ : L2.St} {H : Hp} {D : Addr} {Qd : Hp → Prop} {j : Nat}
/-- lc_relL where the items are new lists -/
theorem lc_relD (Rel : Nat → V → Hp → Prop) (keep : ∀ i y H1 H2, Rel i y H1 → Same H1 H2 → Rel i y H2) (mu : ∀ i y H1 l o, H1 D = some (.lst l) → Rel i y H1 → Rel i y (upd H1 D o)) (hx : SqL K H a xs) (hD : H D = none) (hz : xs.length ≤ 1000000)
    (wip : ∀ x, wipe ((wipe σ vs).set j (some x)) vs = wipe σ vs) (he : ∀ (i : Nat) x, xs[i]? = some x → ∀ H', Same H H' → (∃ l, H' D = some (.lst l)) → ∀ R : VK, (∀ y H'', Same H' H'' → Rel i y H'' → R y H'') → te ((wipe σ vs).set j (some x)) H' R)
    (k : ∀ H' ys, Same H H' → H' D = some (.lst ys) → ys.length = xs.length → (∀ (i : Nat) y, ys[i]? = some y → Rel i y H') → Qd H') :
    ∃ W : Nat → Nat → Hp → Prop, (∃ m, W 0 m (upd H D (.lst []))) ∧ ∀ i m H, W i m H →
      ((Itl K a).stop i H ∧ Qd H) ∨ ((Itl K a).go i H ∧ ∃ Nx : Hp → Prop, (∀ H', Nx H' → ∃ m', m' < m ∧ W (i + 1) m' H') ∧ ∀ x H', (Itl K a).yld i H x H' → gName j x (wipe σ vs) H' fun σ2 H2 => wipe σ2 vs = wipe σ vs ∧ tYes σ2 H2 fun b H3 =>
        if b = true then te σ2 H3 fun y H4 => ∃ acc, H4 D = some (.lst acc) ∧ acc.length < sizeLine ∧ Nx (upd H4 D (.lst (acc ++ [y]))) else Nx H3) := by
  refine lc_list (xs := xs) (RelAt Rel D · H) (rel_zero hD) (fun i H' _ p => p.sm.seq hx) (fun i x H' hi p => ?_) fun H' p => ?_
  · have li := (List.getElem?_eq_some_iff.mp hi).1
    obtain ⟨ys, hy, _⟩ := p.ys
    exact rel_turn keep mu hD (wip x) p (by omega) (he i x hi H' p.sm ⟨ys, hy⟩) fun H'' q => q
  · obtain ⟨sm, ys, hd, hl, hr⟩ := p
    exact k H' ys sm hd hl hr
end

theorem mem_fold {x : Int} : ∀ (b a : List Int), x ∈ b.foldl ins a ↔ x ∈ a ∨ x ∈ b
  | [], a => by simp
  | y :: r, a => by
    show x ∈ r.foldl ins (ins a y) ↔ _
    rw [mem_fold r]
    have : x ∈ ins a y ↔ x ∈ a ∨ x = y := by
      unfold ins
      by_cases h : y ∈ a
      · rw [if_pos h]
        exact ⟨.inl, fun z => z.elim id fun e => e ▸ h⟩
      · rw [if_neg h, List.mem_append, List.mem_singleton]
    rw [this, List.mem_cons, or_assoc]

/-! ### name = {k: v for ..} on one line, the name a local -/
section
variable {X : Cx}
theorem sw_dict {kx vx : Expr} {gs : List Comprehension} {scope : Scope} {pos py : Pos} {y : PySem.Str} {l : Nat} {env : Env} (hk : env.scope.kind = .function) (hy : env.scope.names.lookup y = some .local) (hl : (py.line == pos.line) = true)
    (no : (scope.names.any fun (n, k) => n == y && (k == .local || k == .cell)) = false) : swapsWith (.DictComp kx vx gs scope pos) (some (.Name y py)) l env = pure true := by
  have e1 : env.kindOf y = some .local := hy
  have e2 : env.blockKind = .function := by
    unfold Env.blockKind
    rw [hk]
    rfl
  unfold swapsWith
  simp only [e1, e2, no, hl, Expr.pos]
  rfl
theorem ps_setDc {i : Nat} {y : PySem.Str} {py : Pos} {kx vx tg iter : Expr} {ifs : List Expr} {scope : Scope} {own : List (PySem.Str × Nat)} {pos spos : Pos} {wi : TI} {g : TG} {tt : TT} {tk tv : TE} (hc : X.calm = true) (hN : X.N.Nodup) (hy : X.N[i]? = some y)
    (hl : X.env.scope.names.lookup y = some .local) (hsw : swapsWith (.DictComp kx vx [⟨tg, iter, ifs, 0⟩] scope pos) (some (.Name y py)) spos.line X.env = pure true) (hi : PI X tg iter wi) (ok : BlkOk X.N X.env.scope scope own)
    (hg : ∀ (s : Shared) (H : Hp) (C : Addr) (cl : List (PySem.Str × Addr)) (fp : List Addr), PG (X.blk s H scope (compEnvC scope cl C X.env) fp) tg g)
    (ht : ∀ (s : Shared) (H : Hp) (C : Addr) (cl : List (PySem.Str × Addr)) (fp : List Addr), PTs (X.blk s H scope (compEnvC scope cl C X.env) fp) ifs tt)
    (hk : ∀ (s : Shared) (H : Hp) (C : Addr) (cl : List (PySem.Str × Addr)) (fp : List Addr), PE (X.blk s H scope (compEnvC scope cl C X.env) fp) kx tk)
    (he : ∀ (s : Shared) (H : Hp) (C : Addr) (cl : List (PySem.Str × Addr)) (fp : List Addr), PE (X.blk s H scope (compEnvC scope cl C X.env) fp) vx tv) (hs : ∀ x, foldedSetIterable iter X.env x = pure x := by intro _; rfl) :
    PS X (.Assign [.Name y py] (.DictComp kx vx [⟨tg, iter, ifs, 0⟩] scope pos) spos) (tAsg (tDc wi g tt tk tv (own.map (·.2))) (gName i)) := by
  refine ⟨fun pins s σ H D I rd => ?_⟩
  have rd : tDc wi g tt tk tv (own.map (·.2)) σ H (fun x Ha => gName i x σ Ha D.nx) := rd
  rw [exec_Assign_Name_used _ _ _ _ hsw]
  refine wpAny_bind (wpAny_standAt (wpAny_bind ?_))
  rw [arm_evalThenUse_DictComp]
  refine wpAny_bind (thn (dc_core (Qf := fun _ sz => SP X pins D .next sz) hc hN I hi ok hg ht hk he hs rd fun Z C sa m Ha Ia q ns free => ?_) fun _ sz hz => wpAny_pure (wpAny_pure hz))
  refine wpAny_assign_Name (store_ok2 (v := V.ref Z) Ia hN hy (.inl hl) rfl (fun sb Ib ⟨a, same, where_⟩ => ?_) (.inr hl))
  have away : C ≠ a := where_.elim (fun z => z ▸ free.2.1) fun z e => free.2.2.2.2.1 y a z e.symm
  refine ⟨m, ns.sameBut same away, fun h3 same3 => ⟨_, Ha, Ib.turned (t' := sb.toks) (fun b o hb e => (same3.2 b hb).trans e) free.1 free.2.1 free.2.2.2.1 free.2.2.2.2.1 free.2.2.2.2.2, q⟩⟩
end
/-- over a list that stays: {x: True for x in xs}, xs whole numbers -/
theorem dc_list {K : PySem.W.Frag} {a : Addr} {ns : List Int} {te tv : TE} {vs : List Nat} {σ : L2.St} {H : Hp} {D : Addr} {Qd : Hp → Prop} {j : Nat} (hx : SqL K H a (ns.map V.int)) (hD : H D = none) (hz : ns.length ≤ 1000000)
    (wip : ∀ n, wipe ((wipe σ vs).set j (some (.int n))) vs = wipe σ vs) (hk : ∀ n H' R, R (.int n) H' → te ((wipe σ vs).set j (some (.int n))) H' R) (hv : ∀ n H' R, R (.bl true) H' → tv ((wipe σ vs).set j (some (.int n))) H' R)
    (k : ∀ H', Same H H' → H' D = some (.dK (tru (ns.foldl ins []))) → Qd H') :
    ∃ W : Nat → Nat → Hp → Prop, (∃ m, W 0 m (upd H D (.dK []))) ∧ ∀ i m Hc, W i m Hc →
      ((Itl K a).stop i Hc ∧ Qd Hc) ∨ ((Itl K a).go i Hc ∧ ∃ Nx : Hp → Prop, (∀ H', Nx H' → ∃ m', m' < m ∧ W (i + 1) m' H') ∧ ∀ x H', (Itl K a).yld i Hc x H' → gName j x (wipe σ vs) H' fun σ2 H2 => wipe σ2 vs = wipe σ vs ∧ tYes σ2 H2 fun b H3 =>
        if b = true then te σ2 H3 fun y H4 => tv σ2 H4 fun z H5 => ∃ kvs k, y = kV k ∧ H5 D = some (.dK kvs) ∧ kvs.length < sizeLine ∧ Nx (upd H5 D (.dK (putK kvs k z))) else Nx H3) := by
  have line : 1000000 < sizeLine := by decide
  refine ⟨fun i m Hc => m = ns.length - i ∧ i ≤ ns.length ∧ Same H Hc ∧ Hc D = some (.dK (tru ((ns.take i).foldl ins []))), ⟨ns.length, rfl, Nat.zero_le _, same_new hD, upd_same⟩, ?_⟩
  rintro i m Hc ⟨rfl, hi, sm, hd⟩
  have at_a := sm.seq hx
  by_cases lt : i < ns.length
  · have g : (ns.map V.int)[i]? = some (.int ns[i]) := by
      rw [List.getElem?_map, List.getElem?_eq_getElem lt]
      rfl
    refine .inr ⟨⟨_, _, at_a, g⟩, fun Hd => Same H Hd ∧ Hd D = some (.dK (tru ((ns.take (i + 1)).foldl ins []))), fun Hd h => ⟨ns.length - (i + 1), by omega, rfl, lt, h⟩, ?_⟩
    rintro x Hd ⟨rfl, hy⟩
    have ex := Option.some.inj (g.symm.trans (hy _ at_a))
    subst ex
    refine ⟨wip _, yes_go (hk _ _ _ (hv _ _ _ ⟨_, Sum.inl ns[i], rfl, hd, ?_, ?_, ?_⟩))⟩
    · have l := fold_len (ns.take i) []
      have l2 : (ns.take i).length ≤ ns.length := by rw [List.length_take]; omega
      unfold tru
      rw [List.length_map]
      simp only [List.length_nil, Nat.zero_add] at l
      omega
    · intro b o e
      rw [upd_ne (ne_of_none e hD)]
      exact sm b o e
    · rw [upd_same, tru_put, List.take_add_one, List.getElem?_eq_getElem lt, List.foldl_append]
      rfl
  · have e : i = ns.length := by omega
    subst e
    rw [List.take_length] at hd
    exact .inl ⟨⟨_, at_a, by rw [List.length_map]; exact Nat.le_refl _⟩, k Hc sm hd⟩

/-! ### walks over d.items() and enumerate(xs) within comprehensions -/
theorem dc_items {d : Addr} {o : Obj} {kvs : List (Key × V)} {g : TG} {tt : TT} {tk tv : TE} {vs : List Nat} {σ : L2.St} {H1 : Hp} {D : Addr} {Qd : Hp → Prop} (Pv : Nat → Hp → Prop) (h0 : Pv 0 (upd H1 D (.dK [])))
    (hq : ∀ n H, Pv n H → H d = some (.frz o (.dK kvs)))
    (hs : ∀ n k v T H, kvs[n]? = some (k, v) → Pv n H → H T = none → g (.ref T) (wipe σ vs) (upd H T (.tup [kV k, v])) fun σ2 H2 => wipe σ2 vs = wipe σ vs ∧ tt σ2 H2 fun c H3 =>
      if c = true then tk σ2 H3 fun y H4 => tv σ2 H4 fun z H5 => ∃ kvs2 k2, y = kV k2 ∧ H5 D = some (.dK kvs2) ∧ kvs2.length < sizeLine ∧ Pv (n + 1) (upd H5 D (.dK (putK kvs2 k2 z))) else Pv (n + 1) H3) (hd : ∀ H, Pv kvs.length H → Qd H) :
    ∃ W : Nat → Nat → Hp → Prop, (∃ m, W 0 m (upd H1 D (.dK []))) ∧ ∀ n m H, W n m H →
      ((Iti d o kvs).stop n H ∧ Qd H) ∨ ((Iti d o kvs).go n H ∧ ∃ Nx : Hp → Prop, (∀ H', Nx H' → ∃ m', m' < m ∧ W (n + 1) m' H') ∧ ∀ x H', (Iti d o kvs).yld n H x H' → g x (wipe σ vs) H' fun σ2 H2 => wipe σ2 vs = wipe σ vs ∧ tt σ2 H2 fun c H3 =>
        if c = true then tk σ2 H3 fun y H4 => tv σ2 H4 fun z H5 => ∃ kvs2 k2, y = kV k2 ∧ H5 D = some (.dK kvs2) ∧ kvs2.length < sizeLine ∧ Nx (upd H5 D (.dK (putK kvs2 k2 z))) else Nx H3) := by
  refine ⟨fun n m H => m = kvs.length - n ∧ n ≤ kvs.length ∧ Pv n H, ⟨kvs.length, rfl, Nat.zero_le _, h0⟩, ?_⟩
  rintro n m H ⟨rfl, hn, pv⟩
  have qd := hq n H pv
  by_cases lt : n < kvs.length
  · refine .inr ⟨⟨qd, lt⟩, Pv (n + 1), fun H' p' => ⟨kvs.length - (n + 1), by omega, rfl, lt, p'⟩, fun x H' y => ?_⟩
    obtain ⟨T, k, v, hk, rfl, nT, rfl⟩ := y
    exact hs n k v T H hk pv nT
  · have e : n = kvs.length := by omega
    subst e
    exact .inl ⟨⟨qd, Nat.le_refl _⟩, hd H pv⟩
theorem lc_enum {K : PySem.W.Frag} {a : Addr} {xs : List V} {g : TG} {tt : TT} {te : TE} {vs : List Nat} {σ : L2.St} {H1 : Hp} {D : Addr} {Qd : Hp → Prop} (Pv : Nat → Hp → Prop) (h0 : Pv 0 (upd H1 D (.lst [])))
    (hq : ∀ n H, Pv n H → SqL K H a xs)
    (hs : ∀ (n : Nat) x T H, xs[n]? = some x → Pv n H → H T = none → g (.ref T) (wipe σ vs) (upd H T (.tup [.int (n : Nat), x])) fun σ2 H2 => wipe σ2 vs = wipe σ vs ∧ tt σ2 H2 fun c H3 =>
      if c = true then te σ2 H3 fun y H4 => ∃ acc, H4 D = some (.lst acc) ∧ acc.length < sizeLine ∧ Pv (n + 1) (upd H4 D (.lst (acc ++ [y]))) else Pv (n + 1) H3) (hd : ∀ H, Pv xs.length H → Qd H) :
    ∃ W : Nat → Nat → Hp → Prop, (∃ m, W 0 m (upd H1 D (.lst []))) ∧ ∀ n m H, W n m H →
      ((Ite K a).stop n H ∧ Qd H) ∨ ((Ite K a).go n H ∧ ∃ Nx : Hp → Prop, (∀ H', Nx H' → ∃ m', m' < m ∧ W (n + 1) m' H') ∧ ∀ x H', (Ite K a).yld n H x H' → g x (wipe σ vs) H' fun σ2 H2 => wipe σ2 vs = wipe σ vs ∧ tt σ2 H2 fun c H3 =>
        if c = true then te σ2 H3 fun y H4 => ∃ acc, H4 D = some (.lst acc) ∧ acc.length < sizeLine ∧ Nx (upd H4 D (.lst (acc ++ [y]))) else Nx H3) := by
  refine ⟨fun n m H => m = xs.length - n ∧ n ≤ xs.length ∧ Pv n H, ⟨xs.length, rfl, Nat.zero_le _, h0⟩, ?_⟩
  rintro n m H ⟨rfl, hn, pv⟩
  have qx := hq n H pv
  by_cases lt : n < xs.length
  · refine .inr ⟨⟨xs, _, qx, List.getElem?_eq_getElem lt⟩, Pv (n + 1), fun H' p' => ⟨xs.length - (n + 1), by omega, rfl, lt, p'⟩, fun v H' y => ?_⟩
    obtain ⟨T, x, rfl, nT, rfl, f⟩ := y
    exact hs n x T H (f xs qx) pv nT
  · have e : n = xs.length := by omega
    subst e
    exact .inl ⟨⟨xs, qx, Nat.le_refl _⟩, hd H pv⟩

/-! ### for over enumerate(xs); {x: .. for x in xs} -/
theorem for_enum {K : PySem.W.Frag} {a : Addr} {xs : List V} {g : TG} {tb : TS} {D : Ends} {σ : L2.St} {H : Hp} (Pv : Nat → L2.St → Hp → Prop) (h0 : Pv 0 σ H) (hl : ∀ i σ H, i ≤ xs.length → Pv i σ H → SqL K H a xs)
    (hs : ∀ (i : Nat) x T σ H, xs[i]? = some x → Pv i σ H → H T = none → g (.ref T) σ (upd H T (.tup [.int (i : Nat), x])) fun σ2 H2 => tb { D with nx := Pv (i + 1), ct := Pv (i + 1), bk := D.nx } σ2 H2) (hd : ∀ σ H, Pv xs.length σ H → D.nx σ H) :
    ∃ W : Nat → Nat → L2.St → Hp → Prop, (∃ m, W 0 m σ H) ∧ ∀ i m σ H, W i m σ H →
      ((Ite K a).stop i H ∧ D.nx σ H) ∨ ((Ite K a).go i H ∧ ∃ N : L2.St → Hp → Prop, (∀ σ' H', N σ' H' → ∃ m', m' < m ∧ W (i + 1) m' σ' H') ∧ ∀ x H', (Ite K a).yld i H x H' → g x σ H' fun σ2 H2 => tb { D with nx := N, ct := N, bk := D.nx } σ2 H2) := by
  refine ⟨fun i m σ H => m = xs.length - i ∧ i ≤ xs.length ∧ Pv i σ H, ⟨xs.length, by simp, Nat.zero_le _, h0⟩, ?_⟩
  rintro i m σ H ⟨rfl, hi, p⟩
  have q := hl i σ H hi p
  by_cases hlt : i < xs.length
  · refine .inr ⟨⟨xs, xs[i], q, by simp [hlt]⟩, Pv (i + 1), fun σ' H' p' => ⟨xs.length - (i + 1), by omega, rfl, hlt, p'⟩, fun x H' y => ?_⟩
    obtain ⟨T, x, rfl, nT, rfl, f⟩ := y
    exact hs i x T σ _ (f xs q) p nT
  · have e : i = xs.length := by omega
    subst e
    exact .inl ⟨⟨xs, q, Nat.le_refl _⟩, hd σ H p⟩
theorem dc_lst {K : PySem.W.Frag} {a : Addr} {xs : List V} {tt : TT} {tk tv : TE} {vs : List Nat} {σ : L2.St} {H1 : Hp} {D : Addr} {Qd : Hp → Prop} {j : Nat} (Pv : Nat → Hp → Prop) (h0 : Pv 0 (upd H1 D (.dK [])))
    (hq : ∀ n H, Pv n H → SqL K H a xs)
    (hs : ∀ (n : Nat) x H, xs[n]? = some x → Pv n H → wipe ((wipe σ vs).set j (some x)) vs = wipe σ vs ∧ tt ((wipe σ vs).set j (some x)) H fun c H3 =>
      if c = true then tk ((wipe σ vs).set j (some x)) H3 fun y H4 => tv ((wipe σ vs).set j (some x)) H4 fun z H5 => ∃ kvs2 k2, y = kV k2 ∧ H5 D = some (.dK kvs2) ∧ kvs2.length < sizeLine ∧ Pv (n + 1) (upd H5 D (.dK (putK kvs2 k2 z))) else Pv (n + 1) H3) (hd : ∀ H, Pv xs.length H → Qd H) :
    ∃ W : Nat → Nat → Hp → Prop, (∃ m, W 0 m (upd H1 D (.dK []))) ∧ ∀ n m H, W n m H →
      ((Itl K a).stop n H ∧ Qd H) ∨ ((Itl K a).go n H ∧ ∃ Nx : Hp → Prop, (∀ H', Nx H' → ∃ m', m' < m ∧ W (n + 1) m' H') ∧ ∀ x H', (Itl K a).yld n H x H' → gName j x (wipe σ vs) H' fun σ2 H2 => wipe σ2 vs = wipe σ vs ∧ tt σ2 H2 fun c H3 =>
        if c = true then tk σ2 H3 fun y H4 => tv σ2 H4 fun z H5 => ∃ kvs2 k2, y = kV k2 ∧ H5 D = some (.dK kvs2) ∧ kvs2.length < sizeLine ∧ Nx (upd H5 D (.dK (putK kvs2 k2 z))) else Nx H3) := by
  refine ⟨fun n m H => m = xs.length - n ∧ n ≤ xs.length ∧ Pv n H, ⟨xs.length, rfl, Nat.zero_le _, h0⟩, ?_⟩
  rintro n m H ⟨rfl, hn, pv⟩
  have q := hq n H pv
  by_cases lt : n < xs.length
  · refine .inr ⟨⟨xs, xs[n], q, by simp [lt]⟩, Pv (n + 1), fun H' p' => ⟨xs.length - (n + 1), by omega, rfl, lt, p'⟩, fun x H' y => ?_⟩
    obtain ⟨rfl, y⟩ := y
    exact hs n x _ (y xs q) pv
  · have e : n = xs.length := by omega
    subst e
    exact .inl ⟨⟨xs, q, Nat.le_refl _⟩, hd H pv⟩
theorem nats_of {R : Nat → Nat → Prop} : ∀ {ys : List V} {k : Nat}, (∀ (i : Nat) y, ys[i]? = some y → ∃ x : Nat, y = .int (x : Int) ∧ R (k + i) x) → ∃ os : List Nat, ys = os.map (fun x : Nat => V.int (x : Int)) ∧ ∀ (i : Nat) o, os[i]? = some o → R (k + i) o
  | [], k, h => ⟨[], rfl, fun i p hp => by simp at hp⟩
  | y :: ys, k, h => by
    obtain ⟨p, rfl, r⟩ := h 0 y rfl
    obtain ⟨ps, rfl, rs⟩ := nats_of (R := R) (ys := ys) (k := k + 1) fun i y hy => by
      obtain ⟨q, e, r'⟩ := h (i + 1) y hy
      exact ⟨q, e, by rw [show k + 1 + i = k + (i + 1) by omega]; exact r'⟩
    refine ⟨p :: ps, rfl, fun i q hq => ?_⟩
    cases i with
    | zero =>
      cases hq
      exact r
    | succ i =>
      rw [show k + (i + 1) = k + 1 + i by omega]
      exact rs i q hq
theorem putK_len (kvs : List (Key × V)) (k : Key) (v : V) : (putK kvs k v).length ≤ kvs.length + 1 := by
  unfold putK
  split
  · rw [List.length_map]
    omega
  · rw [List.length_append]
    exact Nat.le_refl _

/-! ### {e for x in ..} whose items are whole numbers -/
/-- the reading: the new set stands at Z; a turn adds one whole number -/
def tScI (w : World) (wi : TI) (g : TG) (te : TE) (own : List Nat) : TE := fun σ H0 Q => wi σ H0 fun J Hb => ∀ Z, Hb Z = none →
  ∃ W : Nat → Nat → Hp → Prop, (∃ m, W 0 m (upd Hb Z (SetO w Z (fun _ => false) 0))) ∧ ∀ i m Hc, W i m Hc →
    (J.stop i Hc ∧ Q (.ref Z) Hc) ∨ (J.go i Hc ∧ ∃ Next : Hp → Prop, (∀ Hd, Next Hd → ∃ m', m' < m ∧ W (i + 1) m' Hd) ∧
      ∀ x Hd, J.yld i Hc x Hd → g x (wipe σ own) Hd fun σ' He => wipe σ' own = wipe σ own ∧ te σ' He fun y Hf =>
        ∃ (k : Int) (S : Int → Bool) (n : Nat), y = .int k ∧ Hf Z = some (SetO w Z S n) ∧ n + 1 < scanBound ∧ Next (upd Hf Z (SetO w Z (fun j => S j || decide (j = k)) (if S k = true then n else n + 1))))
section
variable {X : Cx}
theorem add_at_set {pins : List (Addr × Obj)} {σ : L2.St} {H : Hp} {s : Shared} {E : Value → Shared → Prop} {Z : Addr} {S : Int → Bool} {n : Nat} {k : Int} {u : Value} {Q : Value → Shared → Prop} (I : Inv X pins σ H s)
    (hZ : H Z = some (SetO X.w Z S n)) (few : n + 1 < scanBound) (ru : RelV (.int k) u) (q : ∀ s', Inv X pins σ (upd H Z (SetO X.w Z (fun j => S j || decide (j = k)) (if S k = true then n else n + 1))) s' → Q .none s') :
    wpAny (model X.prog X.w) X.A (call (.builtin "set.add") [.ref Z, u]) Q E s := by
  obtain ⟨t, rfl⟩ := ru
  refine setR_add (setO_get I hZ) few fun h2 same now => ?_
  have there : ∃ o, h2.get? Z = some o := by
    obtain ⟨o, _, _, _, ho, _⟩ := id now
    exact ⟨o, ho⟩
  exact q { s with heap := h2, toks := s.toks + 1 } (I.write (t' := s.toks + 1) (by rw [hZ]; trivial) (.inl rfl) (fun b o hb e => (same.2 b hb).trans e) there (setO_new now))
theorem pe_scI {elt tg iter : Expr} {scope : Scope} {own : List (PySem.Str × Nat)} {pos : Pos} {wi : TI} {g : TG} {te : TE} (hc : X.calm = true) (hN : X.N.Nodup) (hi : PI X tg iter wi) (ok : BlkOk X.N X.env.scope scope own)
    (hg : ∀ (s : Shared) (H : Hp) (C : Addr) (cl : List (PySem.Str × Addr)) (fp : List Addr), PG (X.blk s H scope (compEnvC scope cl C X.env) fp) tg g)
    (he : ∀ (s : Shared) (H : Hp) (C : Addr) (cl : List (PySem.Str × Addr)) (fp : List Addr), PE (X.blk s H scope (compEnvC scope cl C X.env) fp) elt te) (hs : ∀ x, foldedSetIterable iter X.env x = pure x := by intro _; rfl) :
    PE X (.SetComp elt [⟨tg, iter, [], 0⟩] scope pos) (tScI X.w wi g te (own.map (·.2))) := by
  refine ⟨fun pins s σ H Q I rd => ?_⟩
  have caught : ∀ p ∈ scope.names, p.2 = .free → ∃ c, X.env.cells.lookup p.1 = some c := by
    intro p hp e
    exact I.ok.has _ ((ok.free p hp e).elim .inl .inr)
  rw [PpSet.eval_SetComp]
  refine wpAny_comprehension_free (use := none) rfl hs (closure_ok caught) ok.kind (fun p hp e => (ok.uniq p hp).trans (congrArg some e)) ?_
  refine thn (hi.run pins s σ H _ I rd) fun xv sa ha => thn ha fun iv sb hb => ?_
  obtain ⟨it, fp, tn, J, Hb, rfl, Ib, T, tn0, free, q⟩ := hb
  refine PpSet.newSet_ok (newEnv_comp ?_)
  -- the new set's place
  generalize eZ : sb.heap.objs.size = Z
  have noZ : Hb Z = none := Ib.hok.fresh (Nat.le_of_eq eZ)
  obtain ⟨W, ⟨m0, W0⟩, turn⟩ := q Z noZ
  generalize eB : upd Hb Z (SetO X.w Z (fun _ => false) 0) = Hs at W0
  generalize ec : ({ sb with heap := sb.heap.push { cls := .type "set", dict := none, data := .set #[] 0 (.fresh 0 0 (!X.w.params.followText "set-order")) } } : Shared) = sc
  have hsc : sc.heap = sb.heap.push { cls := .type "set", dict := none, data := .set #[] 0 (.fresh 0 0 (!X.w.params.followText "set-order")) } := by
    rw [← ec]
  have Ic : Inv X pins σ Hs sc := by
    rw [← ec, ← eB]
    refine Ib.laid (t' := sb.toks) (fun _ _ e => Heap.get?_push_of_some _ e) (Nat.le_of_eq eZ) ?_
    rw [← eZ]
    exact setO_new (setR_fresh X.w)
  have older : ∀ b ∈ fp, b < Z := by
    intro b hb
    obtain ⟨o, e, _⟩ := T.obj 0 _ tn0 b hb
    exact eZ ▸ Heap.lt_size e
  have free2 : ∀ b ∈ fp, FpOk X pins Hs b ∧ b < sc.heap.objs.size := by
    intro b hb
    have l := older b hb
    refine ⟨⟨?_, (free b hb).2⟩, ?_⟩
    · rw [← eB, upd_ne (Nat.ne_of_lt l)]
      exact (free b hb).1
    · rw [hsc, Heap.size_push, eZ]
      exact Nat.lt_succ_of_lt l
  have tnc : tn 0 sc.heap := T.keep 0 _ _ tn0 fun b _ o e => by
    rw [hsc]
    exact Heap.get?_push_of_some _ e
  have Ie := block_start Ic ok hN free2
  show codeAny _ _ (.compStart (.SetComp elt [⟨tg, iter, [], 0⟩] scope pos) 0 (.ref it) (.ref Z) (compEnvC scope (cellsFrom (sc.heap.objs.size + 1) scope.names (cloFrom X.env.cells scope.names [])) sc.heap.objs.size X.env)) (compPost (model X.prog X.w) X.A X.xe none (EP X pins σ Q) (.ref Z) sc.heap.objs.size) _
  generalize ecl : cellsFrom (sc.heap.objs.size + 1) scope.names (cloFrom X.env.cells scope.names []) = cl at Ie
  have rg := hg sc Hs sc.heap.objs.size cl fp
  have re := he sc Hs sc.heap.objs.size cl fp
  generalize eE : compEnvC scope cl sc.heap.objs.size X.env = env at Ie rg re
  generalize ef : ({ sc with heap := pushCells (sc.heap.push { cls := .type "dict", data := .dict #[] }) scope.names } : Shared) = sf at Ie
  have tnf : tn 0 sf.heap := T.keep 0 _ _ tnc fun b _ o e => by
    rw [← ef]
    exact pushCells_keeps _ _ _ _ (Heap.get?_push_of_some _ e)
  have locE : env.locals = sc.heap.objs.size := by
    rw [← eE]
    rfl
  have held : ∀ {τ : L2.St} {G : Hp} {s' : Shared}, Inv (X.blk sc Hs scope env fp) [] τ G s' → (∀ b ∈ fp, G b = none) → ∀ b ∈ fp, FpOk (X.blk sc Hs scope env fp) [] G b := by
    intro τ G s' J' no b hb
    have x := J'.ok.exf b hb
    exact ⟨no b hb, x.1, J'.ok.exfs b hb, .inl hb, x.2, fun p hp => by cases hp⟩
  refine PpSet.codeAny_compStart_set ?_ (T.self X.A 0 _ _ _ tnf ?_)
  all_goals
    refine PpSet.compLoopS_any (fun m s' => ∃ i G, Inv (X.blk sc Hs scope env fp) [] (wipe σ (own.map (·.2))) G s' ∧ tn i s'.heap ∧ (∀ b ∈ fp, G b = none) ∧ W i m G) ?_ m0 ⟨0, Hs, Ie, tnf, fun b hb => (free2 b hb).1.1, W0⟩
    rintro m s1 ⟨i, G, I1, tn1, no1, w1⟩
    rcases turn i m G w1 with ⟨stop, fin⟩ | ⟨go, Next, less, step⟩
    · refine thnF (T.done (X.blk sc Hs scope env fp) rfl rfl rfl hc i [] s1 _ G (fun _ _ => False) I1 (held I1 no1) tn1 stop) fun r s2 ⟨er, I2⟩ => ?_
      subst er
      have out : Inv X pins σ G s2 := Ic.call' (ch := fp) I2.os I2.base I2.hok I2.bare fun b hb => by
        have z := (free2 b hb).1
        exact ⟨z.2.2.2.1, z.2.1, z.2.2.2.2.1, z.2.2.2.2.2⟩
      have nl : G env.locals = none := I2.free
      obtain ⟨mp, ns, _⟩ := I2.loc
      have ns : s2.heap.Ns env.locals mp := ns
      rw [locE] at nl ns
      have fo := Ic.fpOk (Nat.le_refl _) nl
      exact ⟨mp, ns, fun h3 sb3 => ⟨.ref Z, G, out.turned (t' := s2.toks) (fun b o hb e => (sb3.2 b hb).trans e) fo.1 fo.2.1 fo.2.2.2.1 fo.2.2.2.2.1 fo.2.2.2.2.2, rfl, fin⟩⟩
    · refine thnF (T.item (X.blk sc Hs scope env fp) rfl rfl rfl hc i [] s1 _ G (fun _ _ => False) I1 (held I1 no1) tn1 go) fun r s2 ⟨u, er, h2⟩ => ?_
      subst er
      refine thnF h2 fun _ s3 ⟨x, G3, I3, rx, y3, tn3, no3⟩ => ?_
      refine thnF (rg.run _ s3 _ G3 x u _ (I3.pinned (held I3 no3) (T.obj _ _ tn3)) rx (step x G3 y3)) fun _ s4 ⟨τ, G4, I4, ew, r4⟩ => ?_
      show wpAny _ _ (pure true) _ _ _
      refine wpAny_pure ?_
      show (if true = true then _ else _)
      rw [if_pos rfl]
      refine thnF (re.run _ s4 τ G4 _ I4 r4) fun z s5 ⟨y, G5, I5, rz, k, S, n, ey, hZ, few, nx⟩ => ?_
      subst ey
      refine add_at_set (X := X.blk sc Hs scope env fp) I5 hZ few rz fun s6 I6 => ?_
      obtain ⟨m', lt, w'⟩ := less _ nx
      have kept : ∀ b ∈ fp, ∀ o, s3.heap.get? b = some o → s6.heap.get? b = some o ∧ (upd G5 Z (SetO X.w Z (fun j => S j || decide (j = k)) (if S k = true then n else n + 1))) b = none := by
        intro b hb o e
        have p := I6.pin (b, o) (List.mem_append_right _ (List.mem_append_right _ (mem_pinsAt hb e)))
        exact ⟨p.1, p.2.1⟩
      refine ⟨m', lt, i + 1, _, (I6.unpinned (pins := [])).weak (by rw [← ew, wipe_length]) (fun j v e => ?_), T.keep _ _ _ tn3 fun b hb o e => (kept b hb o e).1, fun b hb => ?_, w'⟩
      · rw [← ew] at e
        exact (wipe_some e).1
      · obtain ⟨o, e, _⟩ := T.obj _ _ tn3 b hb
        exact (kept b hb o e).2
end
/-! ### how many there are in a set -/
theorem call_lenS {X : Cx} : CallR X (.builtin "len") (fun xs H Q => ∃ a S n, xs = [.ref a] ∧ H a = some (SetO X.w a S n) ∧ Q (.int (n : Nat)) H) := by
  intro pins s σ H xs us Q I r h
  obtain ⟨a, S, n, rfl, ha, q⟩ := h
  obtain ⟨u, rfl, ru⟩ := vals1 r
  cases ru
  obtain ⟨o, es, ep, t, ho, hex, hd, _, _, _, hb, hf, hn, _⟩ := setO_get I ha
  have line : scanBound = 4096 := rfl
  exact call_len_set ho hex hd hf (by omega) ⟨.int (n : Nat), H, I.tok _, ⟨_, by rw [hn]⟩, q⟩
def dist (acc : List Int) : List Int → List Int := List.foldl step_dedup acc
theorem dist_le : ∀ (ns acc : List Int), (dist acc ns).length ≤ acc.length + ns.length
  | [], acc => Nat.le_refl _
  | n :: r, acc => by
    show (dist (step_dedup acc n) r).length ≤ acc.length + (r.length + 1)
    have h := dist_le r (step_dedup acc n)
    have h2 : (step_dedup acc n).length ≤ acc.length + 1 := by
      unfold step_dedup
      split
      · omega
      · rw [List.length_append]
        exact Nat.le_refl _
    omega
theorem dist_nodup : ∀ (ns acc : List Int), (dist acc ns).length = acc.length + ns.length ↔ ns.Nodup ∧ ∀ k ∈ ns, k ∉ acc
  | [], acc => by
    constructor
    · intro _
      exact ⟨List.nodup_nil, fun k h => by cases h⟩
    · intro _
      rfl
  | n :: r, acc => by
    show (dist (step_dedup acc n) r).length = acc.length + (r.length + 1) ↔ _
    by_cases hm : n ∈ acc
    · have e : step_dedup acc n = acc := by
        unfold step_dedup
        rw [if_pos (List.any_eq_true.mpr ⟨n, hm, by simp⟩)]
      rw [e]
      have l := dist_le r acc
      constructor
      · intro z
        omega
      · intro z
        exact absurd hm (z.2 n List.mem_cons_self)
    · have e : step_dedup acc n = acc ++ [n] := by
        unfold step_dedup
        rw [if_neg]
        intro z
        obtain ⟨y, hy, ey⟩ := List.any_eq_true.mp z
        exact hm ((beq_iff_eq.mp ey) ▸ hy)
      rw [e]
      have ih := dist_nodup r (acc ++ [n])
      rw [List.length_append] at ih
      have e2 : acc.length + (r.length + 1) = acc.length + [n].length + r.length := by
        show _ = acc.length + 1 + r.length
        omega
      rw [e2, ih, List.nodup_cons]
      constructor
      · rintro ⟨nd, no⟩
        refine ⟨⟨fun z => no n z (List.mem_append_right _ (List.mem_singleton.mpr rfl)), nd⟩, fun k hk => ?_⟩
        rcases List.mem_cons.mp hk with rfl | hk
        · exact hm
        · exact fun z => no k hk (List.mem_append_left _ z)
      · rintro ⟨⟨nm, nd⟩, no⟩
        refine ⟨nd, fun k hk z => ?_⟩
        rcases List.mem_append.mp z with z | z
        · exact no k (List.mem_cons_of_mem _ hk) z
        · exact nm ((List.mem_singleton.mp z) ▸ hk)
/-- how many unlike ones there are -/
def many (ns : List Int) : Nat := (dist [] ns).length
theorem many_nodup (ns : List Int) : many ns = ns.length ↔ ns.Nodup := by
  have h := dist_nodup ns []
  simp only [List.length_nil, Nat.zero_add, List.not_mem_nil, not_false_eq_true, implies_true, and_true] at h
  exact h
theorem first_dist (ns : List Int) : firstMet (fun i => ns.getD i 0) ns.length = dist [] ns := by
  unfold firstMet
  have e : (List.range ns.length).map (fun i => ns.getD i 0) = ns := by
    apply List.ext_getElem?
    intro i
    rw [List.getElem?_map]
    by_cases h : i < ns.length
    · rw [List.getElem?_range h, List.getElem?_eq_getElem h]
      show some (ns.getD i 0) = _
      rw [List.getD_eq_getElem?_getD, List.getElem?_eq_getElem h]
      rfl
    · rw [List.getElem?_eq_none (by rw [List.length_range]; omega), List.getElem?_eq_none (by omega)]
      rfl
  rw [e]
  rfl
theorem ints_are : ∀ {ns : List Int} {us : List Value}, Vals (ns.map V.int) us → IntsAre us ns
  | [], us, h => by
    cases h
    exact .nil
  | n :: r, us, h => by
    cases h with
    | cons a b =>
      obtain ⟨t, rfl⟩ := a
      exact .cons _ _ (ints_are b)
/-- len(set(xs)), xs a list of whole numbers -/
def tLenOf (K : PySem.W.Frag) (ta : TE) : TE := fun σ H Q => ta σ H fun x H1 => ∃ (l : Addr) (ns : List Int), x = .ref l ∧ SqL K H1 l (ns.map V.int) ∧ ns.length ≤ 4000 ∧ Q (.int (many ns : Nat)) H1
theorem pe_lenOf {X : Cx} {a : Expr} {ta : TE} {p p2 q pos : Pos} (hg : Gl X "len") (hm : X.mg "len" = none) (hg2 : Gl X "set") (hm2 : X.mg "set" = none) (ha : PE X a ta) (hc : X.calm = true := by rfl)
    (na : starEach [a] X.env = (false, eval a X.env) :: starEach [] X.env := by rfl) : PE X (.Call (.Name "len" p) [.Call (.Name "set" p2) [a] [] q] [] pos) (tLenOf X.K ta) := by
  refine ⟨fun pins s σ H Q I rd => Call_ (ld_blt I hg hm boot_len (callWith_builtin1 (args_cons ?_ rfl) rfl rfl))⟩
  refine Call_ (ld_blt I hg2 hm2 boot_set (callWith_type1 (args_cons (thn (ha.run pins s σ H _ I rd) fun v sa ⟨x, Ha, Ia, rx, rest⟩ => args_nil ?_) na) na rfl))
  obtain ⟨l, ns, rfl, at_l, few, rest⟩ := rest
  cases rx
  obtain ⟨its, vs, pl, _⟩ := Ia.list at_l
  have size : its.toArray.size = ns.length := by
    rw [List.size_toArray, ← vs.length, List.length_map]
  have line : scanBound = 4096 := rfl
  refine call_set_list (Ia.ok.hd hc) pl.isList (by simpa using ints_are vs) (by omega) fun h2 tk made kept => args_nil ?_
  rw [size, first_dist] at made
  obtain ⟨o, es, ep, t, ho, hex, hd, _, _, _, hf, hn⟩ := made
  have Ib : Inv X pins σ Ha { sa with heap := h2, toks := tk } := Ia.kept fun b o e => kept b o (Heap.lt_size e) e
  have le := dist_le ns []
  exact call_len_set ho hex hd hf (by rw [hn]; simp only [List.length_nil] at le; omega) ⟨.int (many ns : Nat), Ha, Ib.tok _, ⟨_, by rw [hn]; rfl⟩, rest⟩
/-- the set of f's numbers over a tuple: how many there are is told, whether as many as items -/
theorem scI_tup {w : World} {K : PySem.W.Frag} {a : Addr} {xs : List V} {te : TE} {vs : List Nat} {σ : L2.St} {H : Hp} {Z : Addr} {Qd : Hp → Prop} {j : Nat} (f : V → Int) (hx : SqT K H a xs) (hZ : H Z = none) (hz : xs.length ≤ 4000)
    (hs : ∀ x ∈ xs, SelT H σ vs j tYes te x true (.int (f x))) (k : ∀ H' S n, Same H H' → H' Z = some (SetO w Z S n) → (n = xs.length ↔ (xs.map f).Nodup) → (∀ i, S i = true ↔ i ∈ xs.map f) → Qd H') :
    ∃ W : Nat → Nat → Hp → Prop, (∃ m, W 0 m (upd H Z (SetO w Z (fun _ => false) 0))) ∧ ∀ i m Hc, W i m Hc →
    ((Itt K a).stop i Hc ∧ Qd Hc) ∨ ((Itt K a).go i Hc ∧ ∃ Next : Hp → Prop, (∀ Hd, Next Hd → ∃ m', m' < m ∧ W (i + 1) m' Hd) ∧
      ∀ x Hd, (Itt K a).yld i Hc x Hd → gName j x (wipe σ vs) Hd fun σ' He => wipe σ' vs = wipe σ vs ∧ te σ' He fun y Hf =>
        ∃ (k : Int) (S : Int → Bool) (n : Nat), y = .int k ∧ Hf Z = some (SetO w Z S n) ∧ n + 1 < scanBound ∧ Next (upd Hf Z (SetO w Z (fun j => S j || decide (j = k)) (if S k = true then n else n + 1)))) := by
  have line : scanBound = 4096 := rfl
  refine ⟨fun i m Hc => m = xs.length - i ∧ i ≤ xs.length ∧ Same H Hc ∧ ∃ S n, Hc Z = some (SetO w Z S n) ∧ n ≤ i ∧ (n = i ↔ ((xs.take i).map f).Nodup) ∧ ∀ v, S v = true ↔ v ∈ (xs.take i).map f,
    ⟨xs.length, rfl, Nat.zero_le _, same_new hZ, _, 0, upd_same, Nat.le_refl _, by simp, by simp⟩, ?_⟩
  rintro i m Hc ⟨rfl, hi, sm, S, n, hS, le, iff, mem⟩
  have at_a := Same.seqT sm hx
  by_cases lt : i < xs.length
  · refine .inr ⟨⟨xs, xs[i], at_a, List.getElem?_eq_getElem lt⟩, fun Hd => Same H Hd ∧ ∃ S n, Hd Z = some (SetO w Z S n) ∧ n ≤ i + 1 ∧ (n = i + 1 ↔ ((xs.take (i + 1)).map f).Nodup) ∧ ∀ v, S v = true ↔ v ∈ (xs.take (i + 1)).map f,
      fun Hd h => ⟨xs.length - (i + 1), by omega, rfl, lt, h⟩, ?_⟩
    rintro x Hd ⟨rfl, hy⟩
    have gx := hy xs at_a
    have ex := Option.some.inj ((List.getElem?_eq_getElem lt).symm.trans gx)
    have s := hs x (List.mem_of_getElem? gx)
    refine ⟨s.wip, s.elt rfl Hd sm _ fun He se => ⟨f x, S, n, rfl, se Z _ hS, by omega, fun b o e => ?_, _, _, upd_same, ?_, ?_, fun v => ?_⟩⟩
    · rw [upd_ne (ne_of_none e hZ)]
      exact se b o (sm b o e)
    · split <;> omega
    · have et : xs.take (i + 1) = xs.take i ++ [x] := by
        rw [List.take_add_one, gx]
        rfl
      rw [et, List.map_append, List.nodup_append]
      have hm := mem (f x)
      constructor
      · intro h
        by_cases c : S (f x) = true
        · rw [if_pos c] at h
          omega
        · rw [if_neg c] at h
          refine ⟨iff.mp (by omega), by simp, fun p hp q hq => ?_⟩
          have eq : q = f x := by simpa using hq
          rw [eq]
          intro e
          rw [e] at hp
          exact c (hm.mpr hp)
      · rintro ⟨h1, _, h3⟩
        have c : ¬ S (f x) = true := fun c => h3 _ (hm.mp c) _ (by simp) rfl
        rw [if_neg c, iff.mpr h1]
    · have et : xs.take (i + 1) = xs.take i ++ [x] := by
        rw [List.take_add_one, gx]
        rfl
      rw [et, List.map_append, List.mem_append, Bool.or_eq_true, decide_eq_true_eq, mem v]
      simp
  · have e : i = xs.length := by omega
    subst e
    rw [List.take_length] at iff mem
    exact .inl ⟨⟨xs, at_a, Nat.le_refl _⟩, k Hc S n sm hS iff mem⟩

/-! ### a comprehension that picks some of a list -/
section
variable {K : PySem.W.Frag} {a : Addr} {xs : List V} {tt : TT} {te : TE} {vs : List Nat} {σ : L2.St} {H : Hp} {D : Addr} {Qd : Hp → Prop} {j : Nat}
theorem lc_subL (hx : SqL K H a xs) (hD : H D = none) (hz : xs.length ≤ 1000000) (wip : ∀ x, wipe ((wipe σ vs).set j (some x)) vs = wipe σ vs)
    (ht : ∀ (i : Nat) x, xs[i]? = some x → ∀ H', Same H H' → ∀ R : Bool → Hp → Prop, (∀ b, R b H') → tt ((wipe σ vs).set j (some x)) H' R) (he : ∀ x H' (R : VK), R x H' → te ((wipe σ vs).set j (some x)) H' R)
    (k : ∀ H' ys, Same H H' → H' D = some (.lst ys) → (∀ y ∈ ys, y ∈ xs) → ys.length ≤ xs.length → Qd H') :
    ∃ W : Nat → Nat → Hp → Prop, (∃ m, W 0 m (upd H D (.lst []))) ∧ ∀ i m H, W i m H →
      ((Itl K a).stop i H ∧ Qd H) ∨ ((Itl K a).go i H ∧ ∃ Nx : Hp → Prop, (∀ H', Nx H' → ∃ m', m' < m ∧ W (i + 1) m' H') ∧ ∀ x H', (Itl K a).yld i H x H' → gName j x (wipe σ vs) H' fun σ2 H2 => wipe σ2 vs = wipe σ vs ∧ tt σ2 H2 fun b H3 =>
        if b = true then te σ2 H3 fun y H4 => ∃ acc, H4 D = some (.lst acc) ∧ acc.length < sizeLine ∧ Nx (upd H4 D (.lst (acc ++ [y]))) else Nx H3) := by
  have line : 1000000 < sizeLine := by decide
  refine lc_list (xs := xs) (fun i H' => Same H H' ∧ ∃ ys, H' D = some (.lst ys) ∧ (∀ y ∈ ys, y ∈ xs) ∧ ys.length ≤ i) ⟨same_new hD, [], upd_same, fun y hy => (by cases hy), Nat.le_refl _⟩ (fun i H' _ p => p.1.seq hx) (fun i x H' hi p => ?_) fun H' p => ?_
  · obtain ⟨sm, ys, hd, hin, hl⟩ := p
    have li := (List.getElem?_eq_some_iff.mp hi).1
    refine ⟨wip x, ht i x hi H' sm _ fun b => ?_⟩
    cases b with
    | true =>
      refine iteT (he _ _ _ ⟨ys, hd, by omega, same_mut sm hD, _, upd_same, fun y hy => ?_, by rw [List.length_append]; show _ + 1 ≤ _; omega⟩)
      rcases List.mem_append.mp hy with z | z
      · exact hin y z
      · rw [List.mem_singleton.mp z]
        exact List.mem_of_getElem? hi
    | false => exact iteF ⟨sm, ys, hd, hin, by omega⟩
  · obtain ⟨sm, ys, hd, hin, hl⟩ := p
    exact k H' ys sm hd hin hl
/-- over a range, items by a relation -/
theorem lc_relR {lo : Int} {n : Nat} (Rel : Nat → V → Hp → Prop) (keep : ∀ i y H1 H2, Rel i y H1 → Same H1 H2 → Rel i y H2) (mu : ∀ i y H1 l o, H1 D = some (.lst l) → Rel i y H1 → Rel i y (upd H1 D o)) (hD : H D = none) (hz : n ≤ 1000000)
    (wip : ∀ x, wipe ((wipe σ vs).set j (some x)) vs = wipe σ vs) (he : ∀ i, i < n → ∀ H', Same H H' → ∀ R : VK, (∀ y H'', Same H' H'' → Rel i y H'' → R y H'') → te ((wipe σ vs).set j (some (.int (lo + (i : Nat))))) H' R)
    (k : ∀ H' ys, Same H H' → H' D = some (.lst ys) → ys.length = n → (∀ (i : Nat) y, ys[i]? = some y → Rel i y H') → Qd H') :
    ∃ W : Nat → Nat → Hp → Prop, (∃ m, W 0 m (upd H D (.lst []))) ∧ ∀ i m H, W i m H →
      ((Itr lo n).stop i H ∧ Qd H) ∨ ((Itr lo n).go i H ∧ ∃ Nx : Hp → Prop, (∀ H', Nx H' → ∃ m', m' < m ∧ W (i + 1) m' H') ∧ ∀ x H', (Itr lo n).yld i H x H' → gName j x (wipe σ vs) H' fun σ2 H2 => wipe σ2 vs = wipe σ vs ∧ tYes σ2 H2 fun b H3 =>
        if b = true then te σ2 H3 fun y H4 => ∃ acc, H4 D = some (.lst acc) ∧ acc.length < sizeLine ∧ Nx (upd H4 D (.lst (acc ++ [y]))) else Nx H3) := by
  refine lc_range (RelAt Rel D · H) (rel_zero hD) (fun i H' hi p => ?_) fun H' p => ?_
  · exact rel_turn keep mu hD (wip _) p (by omega) (he i hi H' p.sm) fun H'' q => q
  · obtain ⟨sm, ys, hd, hl, hr⟩ := p
    exact k H' ys sm hd hl hr
end

/-! ### settings of marks, which of them share how many -/
def shr (a b : List Int) : Nat := (a.filter fun m => decide (m ∈ b)).length
theorem shr_le (a b : List Int) : shr a b ≤ a.length := List.length_filter_le _ _
theorem nodup_len {a b : List Int} (h : a.Nodup) (s : ∀ x ∈ a, x ∈ b) : a.length ≤ b.length := by
  induction a generalizing b with
  | nil => exact Nat.zero_le _
  | cons x a ih =>
    have hx := s x List.mem_cons_self
    obtain ⟨nx, nd⟩ := List.nodup_cons.mp h
    have := ih nd (b := b.erase x) fun y hy => (List.mem_erase_of_ne fun e => nx (by rw [← e]; exact hy)).mpr (s y (List.mem_cons_of_mem _ hy))
    rw [List.length_erase_of_mem hx] at this
    have : 1 ≤ b.length := List.length_pos_of_mem hx
    rw [List.length_cons]
    omega
theorem shr_comm {a b : List Int} (ha : a.Nodup) (hb : b.Nodup) : shr a b = shr b a := by
  have one : ∀ {a b : List Int}, a.Nodup → shr a b ≤ shr b a := fun {a b} ha => by
    refine nodup_len (ha.sublist List.filter_sublist) fun x hx => ?_
    obtain ⟨h1, h2⟩ := List.mem_filter.mp hx
    exact List.mem_filter.mpr ⟨of_decide_eq_true h2, decide_eq_true h1⟩
  exact Nat.le_antisymm (one ha) (one hb)
theorem shr_self (a : List Int) : shr a a = a.length := by
  unfold shr
  rw [List.filter_eq_self.mpr fun x hx => decide_eq_true hx]
/-- sharing all: the one is within the other -/
theorem shr_full {a b : List Int} (h : shr a b = a.length) : ∀ x ∈ a, x ∈ b := fun x hx => by
  have e := List.filter_eq_self.mp (List.filter_sublist.eq_of_length h)
  exact of_decide_eq_true (e x hx)
/-- the law's own: each has more, no two share more -/
def apB (most : Nat) (ss : List (List Int)) : Bool := (List.range ss.length).all fun k => decide (most < (ss.getD k []).length) && (List.range k).all fun j => decide (shr (ss.getD k []) (ss.getD j []) ≤ most)
theorem apB_iff (most : Nat) {ss : List (List Int)} (nd : ∀ l ∈ ss, l.Nodup) : apB most ss = true ↔ ∀ k s, k < ss.length → s < ss.length → (most < shr (ss.getD k []) (ss.getD s []) ↔ s = k) := by
  have ndk : ∀ k, k < ss.length → (ss.getD k []).Nodup := fun k hk => by
    rw [List.getD_eq_getElem?_getD, List.getElem?_eq_getElem hk]
    exact nd _ (List.getElem_mem hk)
  unfold apB
  rw [List.all_eq_true]
  constructor
  · intro h k s hk hs
    have one : ∀ k s, k < ss.length → s < k → shr (ss.getD k []) (ss.getD s []) ≤ most := fun k s hk hs => by
      have z := Bool.and_eq_true_iff.mp (h k (List.mem_range.mpr hk))
      exact of_decide_eq_true (List.all_eq_true.mp z.2 s (List.mem_range.mpr hs))
    refine ⟨fun z => ?_, fun e => ?_⟩
    · rcases Nat.lt_trichotomy s k with c | c | c
      · have := one k s hk c
        omega
      · exact c
      · have := one s k hs c
        rw [shr_comm (ndk s hs) (ndk k hk)] at this
        omega
    · subst e
      rw [shr_self]
      exact of_decide_eq_true (Bool.and_eq_true_iff.mp (h s (List.mem_range.mpr hk))).1
  · intro h k hk
    have hk := List.mem_range.mp hk
    refine Bool.and_eq_true_iff.mpr ⟨decide_eq_true ?_, List.all_eq_true.mpr fun j hj => decide_eq_true ?_⟩
    · have := (h k k hk hk).mpr rfl
      rw [shr_self] at this
      exact this
    · have hj := List.mem_range.mp hj
      have := mt (h k j hk (by omega)).mp (by omega)
      omega
/-! ### which settings, as the bits of numbers -/
def Bs (n X : Nat) (f : Nat → Bool) : Prop := ∀ s, X.testBit s = (decide (s < n) && f s)
theorem Bs.cong {n X : Nat} {f g : Nat → Bool} (a : Bs n X f) (h : ∀ s, s < n → f s = g s) : Bs n X g := fun s => by
  rw [a s]
  by_cases c : s < n
  · rw [h s c]
  · rw [decide_eq_false c, Bool.false_and, Bool.false_and]
theorem Bs.at {n X : Nat} {f : Nat → Bool} (a : Bs n X f) {s : Nat} (h : s < n) : X.testBit s = f s := by
  rw [a s, decide_eq_true h, Bool.true_and]
theorem Bs.zero {n : Nat} : Bs n 0 (fun _ => false) := fun s => by rw [Nat.zero_testBit, Bool.and_false]
theorem bs_ones (n : Nat) : Bs n (2 ^ n - 1) (fun _ => true) := fun s => by rw [Nat.testBit_two_pow_sub_one, Bool.and_true]
theorem bs_and {n X Y : Nat} {f g : Nat → Bool} (a : Bs n X f) (b : Bs n Y g) : Bs n (X &&& Y) (fun s => f s && g s) := fun s => by
  rw [Nat.testBit_and, a s, b s]
  cases decide (s < n) <;> rfl
theorem bs_or {n X Y : Nat} {f g : Nat → Bool} (a : Bs n X f) (b : Bs n Y g) : Bs n (X ||| Y) (fun s => f s || g s) := fun s => by
  rw [Nat.testBit_or, a s, b s]
  cases decide (s < n) <;> rfl
theorem bs_pow {n k : Nat} (h : k < n) : Bs n (2 ^ k) (fun s => decide (s = k)) := fun s => by
  rw [Nat.testBit_two_pow]
  show decide (k = s) = (decide (s < n) && decide (s = k))
  by_cases c : k = s
  · subst c
    rw [decide_eq_true rfl, decide_eq_true h]
    rfl
  · rw [decide_eq_false c, decide_eq_false (fun z : s = k => c z.symm), Bool.and_false]
theorem bs_add {n X Y : Nat} {f g : Nat → Bool} (a : Bs n X f) (b : Bs n Y g) (no : ∀ s, ¬ (f s = true ∧ g s = true)) : Bs n (X + Y) (fun s => f s || g s) := fun s => by
  have z : X &&& Y = 0 := Nat.eq_of_testBit_eq fun i => by
    rw [Nat.zero_testBit, Nat.testBit_and, a i, b i]
    cases h1 : f i with
    | false => rw [Bool.and_false, Bool.false_and]
    | true =>
      cases h2 : g i with
      | false => rw [Bool.and_false, Bool.and_false]
      | true => exact absurd ⟨h1, h2⟩ (no i)
  have e := nat_or_add_and X Y
  rw [z, Nat.add_zero] at e
  rw [← e, Nat.testBit_or, a s, b s, Bool.and_or_distrib_left]
/-- the same bits: the same number -/
theorem bs_eq {n X Y : Nat} {f g : Nat → Bool} (a : Bs n X f) (b : Bs n Y g) : X = Y ↔ ∀ s, s < n → f s = g s := by
  constructor
  · intro e s hs
    rw [← a.at hs, ← b.at hs, e]
  · intro h
    refine Nat.eq_of_testBit_eq fun s => ?_
    rw [(a.cong h) s, b s]
/-! ### owners: in how many of them -/
def cntO : List (Nat → Bool) → Nat → Nat
  | [], _ => 0
  | f :: fs, s => (f s).toNat + cntO fs s
theorem cntO_snoc (f : Nat → Bool) (s : Nat) : ∀ fs : List (Nat → Bool), cntO (fs ++ [f]) s = cntO fs s + (f s).toNat
  | [] => by simp [cntO]
  | g :: fs => by
    rw [List.cons_append, cntO, cntO, cntO_snoc f s fs]
    omega
theorem cntO_in (ss : List (List Int)) (s : Nat) : ∀ l : List Int, cntO (l.map fun m => fun s => decide (m ∈ ss.getD s [])) s = shr l (ss.getD s [])
  | [] => rfl
  | m :: l => by
    rw [List.map_cons, cntO, cntO_in ss s l]
    unfold shr
    rw [List.filter_cons]
    by_cases c : m ∈ ss.getD s []
    · rw [decide_eq_true c, if_pos rfl, List.length_cons]
      show 1 + _ = _
      omega
    · rw [decide_eq_false c, if_neg Bool.false_ne_true]
      show 0 + _ = _
      omega
/-- the marks that are had by settings, so many of them read, so many of the last one's marks -/
def hadF (ss : List (List Int)) (i j : Nat) (m : Int) (s : Nat) : Bool := decide (s < i ∧ m ∈ ss.getD s []) || decide (s = i ∧ m ∈ (ss.getD i []).take j)

/-! ### the program: which settings are apart -/
def spMore : Sp := fun vs H Q _ => ∃ (a : Addr) (N most : Nat) (os : List Nat) (fs : List (Nat → Bool)), vs = [.ref a, .int most, .int ((2 ^ N - 1 : Nat) : Int)] ∧ H a = some (.lst (os.map fun x : Nat => V.int (x : Int))) ∧ os.length = fs.length ∧ (∀ (i : Nat) o f, os[i]? = some o → fs[i]? = some f → Bs N o f) ∧ most ≤ 1000 ∧ os.length ≤ 1000 ∧
  ∀ (H' : Hp) (X : Nat), Same H H' → Bs N X (fun s => decide (most < cntO fs s)) → Q (.int X) H'
def vN (x : Nat) : V := .int (x : Int)
section
variable {P : Program} {w : World} {K : PySem.W.Frag} {mg : Str → Option Value} {base : Heap}
theorem has_more {cs : Nat → Addr} (T : Top K mg cs) : Has P w K mg base 1 "_having_more" ["owners", "most", "every"] spMore := by
  refine has_of T.d__having_more sc__having_more bd__having_more (fun vs H Q E h => ?_) (fun f cdv A outer s H vs Q E hr h => ?_)
  · obtain ⟨a, N, most, os, fs, rfl, _⟩ := h
    rfl
  · have hu := hu_of hr
    have nd := sc__having_more.nd
    obtain ⟨a, N, most, os, fs, rfl, ha, lf, bo, fm, fo, k⟩ := h
    refine ⟨_, (pss_cons (ps_set (i := 3) nd rfl (.inl rfl) (pe_op op_cat (pe_lst (pa_cons (pv 2) pa_nil)) (pe_op op_rep (pe_lst (pa_cons pe_int pa_nil)) (pe_op op_add (pv 1) pe_int))))
    (pss_cons (ps_for PassesOwn.never rfl (pi_list (pv 0)) (pg_name (i := 4) nd rfl (.inr rfl))
      (pss_one (ps_set (i := 3) nd rfl (.inl rfl) (pe_op op_cat (pe_lst (pa_cons (pv 2) pa_nil)) (pe_lc (own := [("below", 5), ("here", 6)]) (by rfl) nd (pi_zipW (K := K) rfl (by rfl) T.b_zip (pa_cons (pv 3) (pa_cons (pe_slice sl_list (pv 3) (po_some pe_int) po_none) pa_nil))) (blkOk_by (own := [("below", 5), ("here", 6)]) (N := nm__having_more) (sc := defScope s__having_more) (by decide +kernel)) (fun _ _ _ _ _ => pg_tupK (K := K) (n := 2) rfl (by rfl) (pgs_cons (pg_name (i := 5) nd rfl (.inl rfl)) (pgs_cons (pg_name (i := 6) nd rfl (.inl rfl)) pgs_nil))) (fun _ _ _ _ _ => pts_nil) (fun _ _ _ _ _ => (pe_op op_or (pv 6) (pe_op op_and (pv 5) (pv 4)))))))))
    (pss_one (ps_ret (pe_ix ix_list (pv 3) (pe_un un_neg pe_int) (fun _ _ => rfl)))))), ?_⟩
    have line : (200000 : Nat) < sizeLine := by decide
    refine ⟨_, rfl, by show 1 ≤ sizeLine; decide, fun L1 n1 => ⟨by show 1 ≤ sizeLine; decide, fun L2 n2 => ⟨_, rfl, _, _, rfl, rfl, L2, _, _, rfl, rfl, upd_same, by omega, by omega, by show 1 * _ ≤ _; omega, fun L3 n3 => ⟨L1, L3, _, _, rfl, rfl, same_new n3 _ _ (same_new n2 _ _ upd_same), upd_same, ?_, fun D nD => ?_⟩⟩⟩⟩
    · rw [flat_one, List.length_replicate]
      show 1 + _ ≤ _
      omega
    have f0 : [V.int ((2 ^ N - 1 : Nat) : Int)] ++ (List.replicate ((most : Int) + 1).toNat [V.int 0]).flatten = ((2 ^ N - 1) :: List.replicate (most + 1) 0).map vN := by
      rw [flat_one, List.map_cons, List.map_replicate, show ((most : Int) + 1).toNat = most + 1 by omega]
      rfl
    rw [f0]
    have s0 := (((same_new n1 (o := .lst [V.int ((2 ^ N - 1 : Nat) : Int)])).trans (same_new n2 (o := .lst [V.int 0]))).trans (same_new n3 (o := .lst (List.replicate ((most : Int) + 1).toNat [V.int 0]).flatten))).trans (same_new nD (o := .lst (((2 ^ N - 1) :: List.replicate (most + 1) 0).map vN)))
    refine ⟨_, rfl, a, rfl, ⟨_, SqL.of (s0 _ _ ha)⟩, for_list (xs := os.map fun x : Nat => V.int (x : Int)) (fun i σ H' => ∃ (v4 : Option V) (D : Addr) (rs : List Nat), σ = [some (.ref a), some (.int most), some (.int ((2 ^ N - 1 : Nat) : Int)), some (.ref D), v4, none, none] ∧ Same H H' ∧ H' D = some (.lst (rs.map vN)) ∧ rs.length = most + 2 ∧ ∀ (j : Nat) x, rs[j]? = some x → Bs N x (fun s => decide (j ≤ cntO (fs.take i) s)))
      ⟨none, D, _, rfl, s0, upd_same, by rw [List.length_cons, List.length_replicate], fun j x hx => ?_⟩ ?_ ?_ ?_⟩
    · cases j with
      | zero =>
        cases hx
        exact (bs_ones N).cong fun s _ => (decide_eq_true (Nat.zero_le _)).symm
      | succ j =>
        have hx : (List.replicate (most + 1) 0)[j]? = some x := hx
        rw [List.getElem?_replicate] at hx
        split at hx
        · cases hx
          exact Bs.zero.cong fun s _ => (decide_eq_false (by rw [List.take_zero]; show ¬ j + 1 ≤ 0; omega)).symm
        · cases hx
    · rintro i σ H' _ ⟨v4, D, rs, _, s1, _⟩
      exact SqL.of (s1 _ _ ha)
    · rintro i x σ H' hx ⟨v4, D, rs, rfl, s1, hD, lr, br⟩
      rw [List.getElem?_map] at hx
      cases eo : os[i]? with
      | none => rw [eo] at hx; cases hx
      | some o =>
        rw [eo] at hx
        cases hx
        have hi : i < fs.length := by
          rw [← lf]
          exact (List.getElem?_eq_some_iff.mp eo).1
        have ef := List.getElem?_eq_getElem hi
        have bo1 := bo i o _ eo ef
        generalize fs[i] = f1 at ef bo1
        have et : fs.take (i + 1) = fs.take i ++ [f1] := by
          rw [List.take_add_one, ef]
          rfl
        refine ⟨_, rfl, by show 1 ≤ sizeLine; decide, fun L1 n1 => ?_⟩
        have hD1 := same_new n1 (o := .lst [V.int ((2 ^ N - 1 : Nat) : Int)]) _ _ hD
        refine ⟨_, rfl, _, rfl, 1, rfl, D, _, rfl, SqL.of hD1, fun S nS => ?_⟩
        have ec : cutV (rs.map vN) (some 1) none = (rs.drop 1).map vN := by
          show cutV _ (some ((1 : Nat) : Int)) none = _
          rw [cut_iE, List.map_drop]
        rw [ec]
        have hD2 := same_new nS (o := .lst ((rs.drop 1).map vN)) _ _ hD1
        have hS2 : (upd (upd H' L1 (.lst [V.int ((2 ^ N - 1 : Nat) : Int)])) S (.lst ((rs.drop 1).map vN))) S = some (.lst ((rs.drop 1).map vN)) := upd_same
        have hL2 := same_new nS (o := .lst ((rs.drop 1).map vN)) _ _ (upd_same : (upd H' L1 (.lst [V.int ((2 ^ N - 1 : Nat) : Int)])) L1 = some (.lst [V.int ((2 ^ N - 1 : Nat) : Int)]))
        have s2 := s1.trans ((same_new n1 (o := .lst [V.int ((2 ^ N - 1 : Nat) : Int)])).trans (same_new nS (o := .lst ((rs.drop 1).map vN))))
        generalize upd (upd H' L1 (.lst [V.int ((2 ^ N - 1 : Nat) : Int)])) S (.lst ((rs.drop 1).map vN)) = H2 at hD2 hS2 hL2 s2 ⊢
        refine ⟨.ls, .ls, D, S, _, _, rfl, SqL.of hD2, SqL.of hS2, fun Z nZ => lc_zipw2 (by rw [List.length_map, List.length_map, List.length_drop]; omega) (fun j H3 => Same H2 H3 ∧ ∃ ts : List Nat, H3 Z = some (.lst (ts.map vN)) ∧ ts.length = j ∧ ∀ (m : Nat) x, ts[m]? = some x → Bs N x (fun s => decide (m + 1 ≤ cntO (fs.take (i + 1)) s))) ⟨same_new nZ, [], upd_same, rfl, fun m x hx => by simp at hx⟩ (fun j H3 z => ⟨SqL.of (z.1 _ _ hD2), SqL.of (z.1 _ _ hS2)⟩) (fun j x y p H3 hx hy z np => ?_) (fun H3 z => ?_)⟩
        · obtain ⟨sm, ts, hz, lt, bt⟩ := z
          rw [List.getElem?_map] at hx hy
          cases ea : rs[j]? with
          | none => rw [ea] at hx; cases hx
          | some x1 =>
            cases eb : (rs.drop 1)[j]? with
            | none => rw [eb] at hy; cases hy
            | some y1 =>
              rw [ea] at hx
              rw [eb] at hy
              cases hx
              cases hy
              rw [List.getElem?_drop, Nat.add_comm 1 j] at eb
              have hj := (List.getElem?_eq_some_iff.mp ea).1
              have b1 := br j x1 ea
              have b2 := br (j + 1) y1 eb
              have hz2 := same_new np (o := .tup [vN x1, vN y1]) _ _ hz
              have sp := sm.trans (same_new np (o := .tup [vN x1, vN y1]))
              refine ⟨p, _, rfl, SqT.of upd_same, rfl, _, _, rfl, _, _, rfl, rfl, rfl, yes_go ⟨_, rfl, _, rfl, _, rfl, _, _, rfl, rfl, _, _, rfl, rfl, _, hz2, ?_, ?_, ts ++ [y1 ||| (x1 &&& o)], ?_, ?_, fun m x hm => ?_⟩⟩
              · rw [List.length_map]
                omega
              · exact same_mut sp nZ
              · rw [upd_same, List.map_append]
                have e1 : Builtin.bitAnd (x1 : Int) (o : Int) = ((x1 &&& o : Nat) : Int) := by
                  rw [bitAnd_pp (Int.natCast_nonneg _) (Int.natCast_nonneg _)]
                  rfl
                have e2 : Builtin.bitOr (y1 : Int) ((x1 &&& o : Nat) : Int) = ((y1 ||| (x1 &&& o) : Nat) : Int) := by
                  rw [Bits.bitOr_pp (Int.natCast_nonneg _) (Int.natCast_nonneg _)]
                  rfl
                show some (HO.lst (_ ++ [V.int (Builtin.bitOr (y1 : Int) (Builtin.bitAnd (x1 : Int) (o : Int)))])) = _
                rw [e1, e2]
                rfl
              · rw [List.length_append, lt]
                rfl
              · by_cases c : m < ts.length
                · rw [List.getElem?_append_left c] at hm
                  exact bt m x hm
                · rw [List.getElem?_append_right (by omega)] at hm
                  have l := (List.getElem?_eq_some_iff.mp hm).1
                  simp only [List.length_cons, List.length_nil] at l
                  rw [show m - ts.length = 0 by omega] at hm
                  cases hm
                  have em : m = j := by omega
                  subst em
                  refine (bs_or b2 (bs_and b1 bo1)).cong fun s _ => ?_
                  rw [et, cntO_snoc]
                  cases hf : f1 s with
                  | false =>
                    rw [Bool.and_false, Bool.or_false]
                    exact decide_eq_decide.mpr (by show _ ↔ m + 1 ≤ cntO (fs.take i) s + 0; omega)
                  | true =>
                    rw [Bool.and_true, ← Bool.decide_or]
                    exact decide_eq_decide.mpr (by show _ ↔ m + 1 ≤ cntO (fs.take i) s + 1; omega)
        · obtain ⟨sm, ts, hz, lt, bt⟩ := z
          rw [List.length_map, List.length_drop] at lt
          refine ⟨L1, Z, _, _, rfl, rfl, sm _ _ hL2, hz, by rw [List.length_map]; show 1 + _ ≤ _; omega, fun Y nY => ?_⟩
          refine ⟨some (.int (o : Int)), Y, (2 ^ N - 1) :: ts, rfl, s2.trans (sm.trans (same_new nY)), by rw [upd_same]; rfl, by rw [List.length_cons]; omega, fun m x hm => ?_⟩
          cases m with
          | zero =>
            cases hm
            exact (bs_ones N).cong fun s _ => (decide_eq_true (Nat.zero_le _)).symm
          | succ m => exact bt m x hm
    · rintro σ H' ⟨v4, D, rs, rfl, s1, hD, lr, br⟩
      rw [List.length_map, lf, List.take_length] at br
      have hne : rs ≠ [] := fun e => by
        rw [e] at lr
        simp at lr
      obtain ⟨rs', x, e⟩ : ∃ rs' x, rs = rs' ++ [x] := ⟨rs.dropLast, rs.getLast hne, (List.dropLast_concat_getLast hne).symm⟩
      subst e
      rw [List.length_append, List.length_singleton] at lr
      have hx : (rs' ++ [x])[most + 1]? = some x := by
        rw [List.getElem?_append_right (by omega), show most + 1 - rs'.length = 0 by omega]
        rfl
      have hat : atI ((rs' ++ [x]).map vN) (-1) = some (vN x) := by
        rw [List.map_append]
        exact atI_last _ _
      refine ⟨_, rfl, _, rfl, D, _, _, _, rfl, rfl, SqL.of hD, hat, ?_⟩
      exact k _ x s1 ((br _ x hx).cong fun s _ => decide_eq_decide.mpr (by omega))
end

/-! ### the program: are they apart -/
def SetsOf (ms : List Int) (ss : List (List Int)) : Prop := ∀ l ∈ ss, l.Nodup ∧ ∀ m ∈ l, m ∈ ms
def spAre : Sp := fun vs H Q _ => ∃ (a b : Addr) (most : Nat) (ms : List Int) (qs : List Addr) (ss : List (List Int)), vs = [.ref a, .int most, .ref b] ∧ H a = some (.lst (ms.map V.int)) ∧ ms.length ≤ 100 ∧ most ≤ 1000 ∧ Ls H b qs ss ∧ ss.length ≤ 100000 ∧ SetsOf ms ss ∧
  ∀ H', Same H H' → Q (.bl (apB most ss)) H'
structure HadD (kvs : List (Key × V)) (ms : List Int) (ss : List (List Int)) (i j : Nat) : Prop where
  len : kvs.length ≤ 100
  has : ∀ m ∈ ms, ∃ X : Nat, valV kvs (Sum.inl m) = some (.int (X : Int)) ∧ Bs ss.length X (hadF ss i j m)
theorem hadF_end {ss : List (List Int)} {i : Nat} (m : Int) (s : Nat) : hadF ss i (ss.getD i []).length m s = hadF ss (i + 1) 0 m s := by
  unfold hadF
  rw [List.take_length, List.take_zero, ← Bool.decide_or, ← Bool.decide_or]
  refine decide_eq_decide.mpr ⟨fun z => ?_, fun z => ?_⟩
  · rcases z with ⟨a, b⟩ | ⟨a, b⟩
    · exact .inl ⟨by omega, b⟩
    · exact .inl ⟨by omega, by rw [a]; exact b⟩
  · rcases z with ⟨a, b⟩ | ⟨_, b⟩
    · by_cases c : s = i
      · exact .inr ⟨c, by rw [← c]; exact b⟩
      · exact .inl ⟨by omega, b⟩
    · cases b
theorem hadF_all {ss : List (List Int)} (m : Int) {s : Nat} (h : s < ss.length) : hadF ss ss.length 0 m s = decide (m ∈ ss.getD s []) := by
  unfold hadF
  rw [List.take_zero, ← Bool.decide_or]
  exact decide_eq_decide.mpr ⟨fun z => z.elim And.right fun y => absurd y.2 (by simp), fun z => .inl ⟨h, z⟩⟩
theorem HadD.step {kvs : List (Key × V)} {ms : List Int} {ss : List (List Int)} {i j : Nat} {m : Int} {X : Nat} (h : HadD kvs ms ss i j) (hi : i < ss.length) (hj : (ss.getD i [])[j]? = some m) (nd : (ss.getD i []).Nodup) (hv : valV kvs (Sum.inl m) = some (.int (X : Int))) (bx : Bs ss.length X (hadF ss i j m)) :
    HadD (putK kvs (Sum.inl m) (.int ((X + 2 ^ i : Nat) : Int))) ms ss i (j + 1) := by
  have tk : (ss.getD i []).take (j + 1) = (ss.getD i []).take j ++ [m] := by
    rw [List.take_add_one, hj]
    rfl
  have nin : m ∉ (ss.getD i []).take j := fun z => by
    obtain ⟨p, hp, e⟩ := List.getElem_of_mem z
    rw [List.length_take] at hp
    have e2 : (ss.getD i [])[p]? = some m := by
      rw [List.getElem_take] at e
      rw [List.getElem?_eq_getElem (by omega), e]
    have := (List.getElem?_inj (by omega) nd).mp (e2.trans hj.symm)
    omega
  refine ⟨?_, fun m' hm' => ?_⟩
  · unfold putK
    rw [if_pos (by rw [valV_any, hv]; rfl), List.length_map]
    exact h.len
  · rw [valV_put]
    by_cases c : m' = m
    · subst c
      rw [if_pos rfl]
      refine ⟨_, rfl, (bs_add bx (bs_pow hi) fun s z => ?_).cong fun s _ => ?_⟩
      · have e := of_decide_eq_true z.2
        have z1 := z.1
        unfold hadF at z1
        rw [Bool.or_eq_true] at z1
        rcases z1 with y | y
        · have := (of_decide_eq_true y).1
          omega
        · exact nin (of_decide_eq_true y).2
      · unfold hadF
        rw [tk, ← Bool.decide_or, ← Bool.decide_or, ← Bool.decide_or]
        refine decide_eq_decide.mpr ⟨fun z => ?_, fun z => ?_⟩
        · rcases z with (y | y) | y
          · exact .inl y
          · exact .inr ⟨y.1, List.mem_append_left _ y.2⟩
          · exact .inr ⟨y, List.mem_append_right _ (List.mem_singleton.mpr rfl)⟩
        · rcases z with y | y
          · exact .inl (.inl y)
          · exact .inr y.1
    · rw [if_neg fun z => c (Sum.inl.inj z)]
      obtain ⟨Y, hY, bY⟩ := h.has m' hm'
      refine ⟨Y, hY, bY.cong fun s _ => ?_⟩
      unfold hadF
      rw [tk, ← Bool.decide_or, ← Bool.decide_or]
      refine decide_eq_decide.mpr ⟨fun z => z.imp id fun y => ⟨y.1, List.mem_append_left _ y.2⟩, fun z => z.imp id fun y => ⟨y.1, ?_⟩⟩
      rcases List.mem_append.mp y.2 with q | q
      · exact q
      · exact absurd (List.mem_singleton.mp q) c
theorem shl_one {i : Nat} (h : i ≤ 100000) : CShl (1 : Int) (i : Int) := by
  refine ⟨Int.natCast_nonneg _, ?_⟩
  have : Builtin.Int.intBits (1 : Int) = 1 := by decide +kernel
  rw [this]
  have : (2 : Int) ^ 27 = 134217728 := by decide
  omega
theorem one_pow (i : Nat) : (1 : Int) * 2 ^ i = ((2 ^ i : Nat) : Int) := by
  rw [Int.one_mul, Int.natCast_pow]
  rfl
theorem getD_at {ss : List (List Int)} {i : Nat} {l : List Int} (h : ss[i]? = some l) : ss.getD i [] = l := by
  rw [List.getD_eq_getElem?_getD, h]
  rfl
section
variable {P : Program} {w : World} {K : PySem.W.Frag} {mg : Str → Option Value} {base : Heap}
theorem has_are {cs : Nat → Addr} (T : Top K mg cs) (h__having_more : Has P w K mg base 1 "_having_more" ["owners", "most", "every"] spMore) : Has P w K mg base 2 "are_apart" ["marks", "most", "settings"] spAre := by
  refine has_of T.d_are_apart sc_are_apart bd_are_apart (fun vs H Q E h => ?_) (fun f cdv A outer s H vs Q E hr h => ?_)
  · obtain ⟨a, b, most, ms, qs, ss, rfl, _⟩ := h
    rfl
  · have hu := hu_of hr
    have nd := sc_are_apart.nd
    obtain ⟨a, b, most, ms, qs, ss, rfl, ha, lm, fm, hL, fs, so, k⟩ := h
    refine ⟨_, (pss_cons (ps_set (i := 4) nd rfl (.inr rfl) (pe_dc (own := [("mark", 3)]) (by rfl) nd (pi_list (pv 0)) (blkOk_by (own := [("mark", 3)]) (N := nm_are_apart) (sc := defScope s_are_apart) (by decide +kernel)) (fun _ _ _ _ _ => pg_name (i := 3) nd rfl (.inl rfl)) (fun _ _ _ _ _ => pts_nil) (fun _ _ _ _ _ => (pv 3)) (fun _ _ _ _ _ => pe_int)))
    (pss_cons (ps_for PassesOwn.never rfl (pi_enum (by rfl) T.b_enumerate (pa_cons (pv 2) pa_nil)) (pg_tup (by rfl) (pgs_cons (pg_name (i := 5) nd rfl (.inl rfl)) (pgs_cons (pg_name (i := 6) nd rfl (.inl rfl)) pgs_nil)))
      (pss_one (ps_for PassesOwn.never rfl (pi_list (pv 6)) (pg_name (i := 3) nd rfl (.inl rfl))
      (pss_one (ps_daug hu (pv 4) (pv 3) (pe_op op_shlN pe_int (pv 5)) in_add (fun _ _ _ => rfl))))))
    (pss_cons (ps_set (i := 7) nd rfl (.inl rfl) (pe_op op_sub (pe_op op_shlN pe_int (pe_callB call_len_seq (by rfl) T.b_len (by decide +kernel) (pa_cons (pv 2) pa_nil))) pe_int))
    (pss_cons (ps_for PassesOwn.never rfl (pi_enum (by rfl) T.b_enumerate (pa_cons (pv 2) pa_nil)) (pg_tup (by rfl) (pgs_cons (pg_name (i := 5) nd rfl (.inl rfl)) (pgs_cons (pg_name (i := 6) nd rfl (.inl rfl)) pgs_nil)))
      (pss_one (ps_if (pt_cmpR op_ne (pe_has h__having_more (hr.mono (by omega)) (by rfl) (pa_cons (pe_lc (own := [("mark", 3)]) (by rfl) nd (pi_list (pv 6)) (blkOk_by (own := [("mark", 3)]) (N := nm_are_apart) (sc := defScope s_are_apart) (by decide +kernel)) (fun _ _ _ _ _ => pg_name (i := 3) nd rfl (.inl rfl)) (fun _ _ _ _ _ => pts_nil) (fun _ _ _ _ _ => (pe_dget hu (pv 4) (pv 3) (fun _ _ => rfl)))) (pa_cons (pv 1) (pa_cons (pv 7) pa_nil)))) (pe_op op_shlN pe_int (pv 5)) (nomark _)) (pss_one (ps_ret pe_bl)) pss_nil)))
    (pss_one (ps_ret pe_bl)))))), ?_⟩
    have line : (200000 : Nat) < sizeLine := by decide
    have ln := hL.n
    refine ⟨_, rfl, a, rfl, ⟨_, SqL.of ha⟩, fun D nD => dc_lst (xs := ms.map V.int) (fun i Hc => Same H Hc ∧ ∃ kvs, Hc D = some (.dK kvs) ∧ kvs.length ≤ i ∧ ∀ m ∈ ms.take i, valV kvs (Sum.inl m) = some (.int 0)) ⟨same_new nD, [], upd_same, Nat.le_refl _, fun m hm => by rw [List.take_zero] at hm; cases hm⟩ (fun i Hc z => SqL.of (z.1 _ _ ha)) (fun i x Hc hx z => ?_) (fun Hc z => ?_)⟩
    · obtain ⟨m, rfl, hm⟩ := int_at hx
      obtain ⟨sm, kvs, hD, lk, hz⟩ := z
      have hi := (List.getElem?_eq_some_iff.mp hm).1
      refine ⟨rfl, yes_go ⟨_, rfl, kvs, Sum.inl m, rfl, hD, by omega, same_mut sm nD, _, upd_same, ?_, fun m' hm' => ?_⟩⟩
      · have := putK_len kvs (Sum.inl m) (.int 0)
        omega
      · rw [valV_put]
        by_cases c : (Sum.inl m' : Key) = Sum.inl m
        · rw [if_pos c]
        · rw [if_neg c]
          rw [List.take_add_one, hm] at hm'
          rcases List.mem_append.mp hm' with y | y
          · exact hz m' y
          · exact absurd (congrArg Sum.inl (List.mem_singleton.mp y)) c
    obtain ⟨s0, kvs0, hD0, lk0, hz0⟩ := z
    rw [List.length_map] at lk0 hz0
    rw [List.take_length] at hz0
    refine ⟨_, rfl, b, _, rfl, SqL.of (s0 _ _ hL.l), for_enum (xs := qs.map V.ref) (fun i σ H' => ∃ (v3 v5 v6 : Option V) (kvs : List (Key × V)), σ = [some (.ref a), some (.int most), some (.ref b), v3, some (.ref D), v5, v6, none] ∧ Same H H' ∧ H' D = some (.dK kvs) ∧ HadD kvs ms ss i 0)
      ⟨none, none, none, kvs0, rfl, s0, hD0, ⟨by omega, fun m hm => ⟨0, hz0 m hm, Bs.zero.cong fun s _ => ?_⟩⟩⟩ ?_ ?_ ?_⟩
    · unfold hadF
      rw [List.take_zero, ← Bool.decide_or]
      exact (decide_eq_false fun z => z.elim (fun y => Nat.not_lt_zero _ y.1) fun y => by cases y.2).symm
    · rintro i σ H' _ ⟨v3, v5, v6, kvs, _, s1, _⟩
      exact SqL.of (s1 _ _ hL.l)
    · rintro i x Tp σ H' hx ⟨v3, v5, v6, kvs, rfl, s1, hD, had⟩ nT
      obtain ⟨q, l, rfl, hq, hl, hql⟩ := (hL.same s1).at hx
      have hi := (List.getElem?_eq_some_iff.mp hl).1
      have el := getD_at hl
      obtain ⟨ndl, inl⟩ := so l (List.mem_of_getElem? hl)
      refine ⟨Tp, _, rfl, SqT.of upd_same, rfl, _, _, rfl, _, _, rfl, rfl, ?_⟩
      have s2 := s1.trans (same_new nT (o := .tup [V.int (i : Nat), .ref q]))
      have hD2 := same_new nT (o := .tup [V.int (i : Nat), .ref q]) _ _ hD
      have hq2 := same_new nT (o := .tup [V.int (i : Nat), .ref q]) _ _ hql
      generalize upd H' Tp (.tup [V.int (i : Nat), .ref q]) = H2 at s2 hD2 hq2 ⊢
      refine ⟨_, rfl, q, rfl, ⟨_, SqL.of hq2⟩, for_list (xs := l.map V.int) (fun j σ H3 => ∃ (v3 : Option V) (kvs : List (Key × V)), σ = [some (.ref a), some (.int most), some (.ref b), v3, some (.ref D), some (.int (i : Nat)), some (.ref q), none] ∧ Same H H3 ∧ H3 q = some (.lst (l.map V.int)) ∧ H3 D = some (.dK kvs) ∧ HadD kvs ms ss i j)
        ⟨v3, kvs, rfl, s2, hq2, hD2, had⟩ ?_ ?_ ?_⟩
      · rintro j σ H3 _ ⟨v3, kvs, _, _, hq3, _⟩
        exact SqL.of hq3
      · rintro j x σ H3 hx ⟨v3, kvs, rfl, s3, hq3, hD3, had3⟩
        obtain ⟨m, rfl, hm⟩ := int_at hx
        obtain ⟨X, hv, bX⟩ := had3.has m (inl m (List.mem_of_getElem? hm))
        have gg : DGet H3 D (V.int m) (some (.int (X : Int))) := by
          have z := DGet.k (k := Sum.inl m) hD3
          rw [hv] at z
          exact z
        have st := had3.step hi (by rw [el]; exact hm) (by rw [el]; exact ndl) hv bX
        have qD : q ≠ D := ne_of hq3 hD3 (by intro z; cases z)
        have ll := had3.len
        refine ⟨_, rfl, _, rfl, D, _, rfl, gg, _, rfl, 1, i, rfl, rfl, shl_one (by omega), _, _, rfl, rfl, _, DPut.k (k := Sum.inl m) hD3 (by omega), ?_⟩
        have e : (X : Int) + (1 : Int) * 2 ^ i = ((X + 2 ^ i : Nat) : Int) := by
          rw [one_pow]
          rfl
        refine ⟨some (.int m), _, rfl, same_mut s3 nD, ?_, upd_same, ?_⟩
        · rw [upd_ne qD]
          exact hq3
        · rw [e]
          exact st
      · rintro σ H3 ⟨v3, kvs, rfl, s3, hq3, hD3, had3⟩
        rw [List.length_map] at had3
        refine ⟨v3, _, _, kvs, rfl, s3, hD3, ⟨had3.len, fun m hm => ?_⟩⟩
        obtain ⟨X, hv, bX⟩ := had3.has m hm
        refine ⟨X, hv, bX.cong fun s _ => ?_⟩
        have := hadF_end (ss := ss) (i := i) m s
        rw [el] at this
        exact this
    · rintro σ H' ⟨v3, v5, v6, kvs, rfl, s1, hD, had⟩
      rw [List.length_map, ln] at had
      refine ⟨_, rfl, b, _, rfl, .inl (SqL.of (s1 _ _ hL.l)), 1, ss.length, rfl, by rw [List.length_map, ln], shl_one fs, _, _, rfl, rfl, ?_⟩
      have e1 : ((1 : Int) * 2 ^ ss.length) - 1 = ((2 ^ ss.length - 1 : Nat) : Int) := by
        have : 0 < 2 ^ ss.length := Nat.two_pow_pos _
        rw [one_pow, Int.natCast_sub this]
        rfl
      generalize hv : (fun i j : Int => V.int (i - j)) ((1 : Int) * 2 ^ ss.length) 1 = nv
      obtain rfl : nv = V.int ((2 ^ ss.length - 1 : Nat) : Int) := hv.symm.trans (congrArg V.int e1)
      clear hv
      have nds : ∀ l ∈ ss, l.Nodup := fun l hl => (so l hl).1
      refine ⟨_, rfl, b, _, rfl, SqL.of (s1 _ _ hL.l), for_enum (xs := qs.map V.ref) (fun i σ H2 => ∃ (v3 v5 v6 : Option V), σ = [some (.ref a), some (.int most), some (.ref b), v3, some (.ref D), v5, v6, some (.int ((2 ^ ss.length - 1 : Nat) : Int))] ∧ Same H' H2 ∧ ∀ k s, k < i → s < ss.length → (most < shr (ss.getD k []) (ss.getD s []) ↔ s = k))
        ⟨v3, v5, v6, rfl, Same.refl _, fun k s hk _ => absurd hk (Nat.not_lt_zero _)⟩ ?_ ?_ ?_⟩
      · rintro i σ H2 _ ⟨v3, v5, v6, _, s2, _⟩
        exact SqL.of ((s1.trans s2) _ _ hL.l)
      · rintro i x Tp σ H2 hx ⟨v3, v5, v6, rfl, s2, hall⟩ nT
        obtain ⟨q, l, rfl, hq, hl, hql⟩ := (hL.same (s1.trans s2)).at hx
        have hi := (List.getElem?_eq_some_iff.mp hl).1
        have el := getD_at hl
        obtain ⟨ndl, inl⟩ := so l (List.mem_of_getElem? hl)
        have ll : l.length ≤ 100 := Nat.le_trans (nodup_len ndl inl) lm
        refine ⟨Tp, _, rfl, SqT.of upd_same, rfl, _, _, rfl, _, _, rfl, rfl, ?_⟩
        have s3 := s2.trans (same_new nT (o := .tup [V.int (i : Nat), .ref q]))
        have hq3 := same_new nT (o := .tup [V.int (i : Nat), .ref q]) _ _ hql
        generalize upd H2 Tp (.tup [V.int (i : Nat), .ref q]) = H3 at s3 hq3 ⊢
        refine ⟨_, rfl, q, rfl, ⟨_, SqL.of hq3⟩, fun Z nZ => lc_relL (fun j y _ => ∃ (m : Int) (X : Nat), l[j]? = some m ∧ y = .int (X : Int) ∧ Bs ss.length X (hadF ss ss.length 0 m)) (fun _ _ _ _ r _ => r) (fun _ _ _ _ _ _ r => r) (SqL.of hq3) nZ (by rw [List.length_map]; omega) (fun x => rfl) (fun j x hx H4 s4 R g => ?_) (fun H4 ys s4 hZ ly ry => ?_)⟩
        · obtain ⟨m, rfl, hm⟩ := int_at hx
          obtain ⟨X, hv, bX⟩ := had.has m (inl m (List.mem_of_getElem? hm))
          have gg : DGet H4 D (V.int m) (some (.int (X : Int))) := by
            have z := DGet.k (k := Sum.inl m) ((s3.trans s4) _ _ hD)
            rw [hv] at z
            exact z
          exact ⟨_, rfl, _, rfl, D, _, rfl, gg, g _ _ (Same.refl _) ⟨m, X, hm, rfl, bX⟩⟩
        · rw [List.length_map] at ly
          obtain ⟨os, rfl, ro⟩ := nats_of (R := fun j X => ∃ m, l[j]? = some m ∧ Bs ss.length X (hadF ss ss.length 0 m)) (ys := ys) (k := 0) fun j y hy => by
            obtain ⟨m, X, h1, h2, h3⟩ := ry j y hy
            exact ⟨X, h2, m, by rw [Nat.zero_add]; exact h1, h3⟩
          rw [List.length_map] at ly
          refine ⟨_, rfl, _, rfl, Z, ss.length, most, os, l.map (fun m => fun s => decide (m ∈ ss.getD s [])), rfl, hZ, by rw [List.length_map, ly], fun j o f ho hf => ?_, fm, by omega, fun H5 X s5 bX => ?_⟩
          · obtain ⟨m, h1, h2⟩ := ro j o ho
            rw [Nat.zero_add] at h1
            rw [List.getElem?_map, h1] at hf
            cases hf
            exact h2.cong fun s hs => hadF_all m hs
          · have bX2 : Bs ss.length X (fun s => decide (most < shr l (ss.getD s []))) := bX.cong fun s _ => by rw [cntO_in]
            have cmp : X = 2 ^ i ↔ ∀ s, s < ss.length → (most < shr (ss.getD i []) (ss.getD s []) ↔ s = i) := by
              rw [bs_eq bX2 (bs_pow hi), el]
              exact ⟨fun z s hs => decide_eq_decide.mp (z s hs), fun z s hs => decide_eq_decide.mpr (z s hs)⟩
            refine ⟨_, rfl, 1, i, rfl, rfl, shl_one (by omega), rfl, _, rfl, ?_⟩
            have e5 : decide (V.int (X : Int) = V.int ((1 : Int) * 2 ^ i)) = decide (X = 2 ^ i) := by
              rw [one_pow]
              exact decide_eq_decide.mpr ⟨fun z => Int.ofNat.inj (V.int.inj z), fun z => by rw [z]⟩
            show if (!decide (V.int (X : Int) = V.int ((1 : Int) * 2 ^ i))) = true then _ else _
            rw [e5]
            by_cases c : X = 2 ^ i
            · rw [decide_eq_true c]
              refine iteF ⟨v3, _, _, rfl, s3.trans (s4.trans s5), fun k s hk hs => ?_⟩
              by_cases ck : k < i
              · exact hall k s ck hs
              · rw [show k = i by omega]
                exact cmp.mp c s hs
            · rw [decide_eq_false c]
              refine iteT ?_
              have no : apB most ss = false := by
                cases e : apB most ss with
                | false => rfl
                | true => exact absurd (cmp.mpr fun s hs => (apB_iff most nds).mp e i s hi hs) c
              have kk := k _ (s1.trans (s3.trans (s4.trans s5)))
              rw [no] at kk
              exact kk
      · rintro σ H2 ⟨v3, v5, v6, rfl, s2, hall⟩
        rw [List.length_map, ln] at hall
        have kk := k _ (s1.trans s2)
        rw [(apB_iff most nds).mpr hall] at kk
        exact kk
end

/-! ### the program: settings apart, by choices -/
def selL (ms c : List Int) : List Int := ((ms.zip c).filter fun p => decide (p.2 = 1)).map (·.1)
def onesI (n : Nat) : List Int := List.replicate n 1
theorem ones_lens {n : Nat} (h : n ≤ 60) : Lens (onesI n) := ⟨fun l hl => by
  rw [(List.mem_replicate.mp hl).2]
  decide, by unfold onesI; rw [List.length_replicate]; exact h⟩
def toldL (ms : List Int) (most : Nat) : List (List Int) := (due (onesI ms.length) ((most : Int) + 1)).map (selL ms)
def spApart (C : Addr) : Sp := fun vs H Q E => ∃ (a : Addr) (ms : List Int) (most : Nat), vs = [.ref a, .int most] ∧ H a = some (.lst (ms.map V.int)) ∧ ms.length ≤ 60 ∧ most ≤ 1000 ∧
  ((wAll (onesI ms.length) ((most : Int) + 1) ≤ 3003 ∧ ∀ (H' : Hp) (D : Addr) (qs : List Addr), Same H H' → H D = none → Ls H' D qs (toldL ms most) → Q (.ref D) H') ∨
   (3003 < wAll (onesI ms.length) ((most : Int) + 1) ∧ wAll (onesI ms.length) ((most : Int) + 1) < 10 ^ 18 ∧ ∀ (H' : Hp) (d : Addr), Same H H' → H d = none → H' d = some (.xd [("many", .int (wAll (onesI ms.length) ((most : Int) + 1)))]) → E (.ref C) (some d) H'))
theorem row_of {H : Hp} {rs : List V} {rows : List (List Int)} {i : Nat} {r : List Int} (ta : TpAll H rs (rows.map tI)) (hr : rows[i]? = some r) : ∃ p, rs[i]? = some (.ref p) ∧ H p = some (.tup (r.map V.int)) := by
  obtain ⟨v, hv, tv⟩ := ta.get (show (rows.map tI)[i]? = some (tI r) by rw [List.getElem?_map, hr]; rfl)
  unfold tI at tv
  cases tv with
  | tup hp r => exact ⟨_, hv, by rw [hp, tpall_inv r]⟩
section
variable {P : Program} {w : World} {K : PySem.W.Frag} {mg : Str → Option Value} {base : Heap}
theorem has_apart {C : Addr} {cs : Nat → Addr} (T : Top K mg cs) (h_choices : HasX P w K mg base 5 "choices" ["lens", "total"] (spChs C K)) : HasX P w K mg base 6 "apart" ["marks", "most"] (spApart C) := by
  refine has_ofX T.d_apart sc_apart bd_apart (fun vs H Q E h => ?_) (fun f cdv A outer s H vs Q E hr h => ?_)
  · obtain ⟨a, ms, most, rfl, _⟩ := h
    rfl
  · have hu := hu_of hr
    have nd := sc_apart.nd
    obtain ⟨a, ms, most, rfl, ha, lm, fm, cases_⟩ := h
    refine ⟨_, (pss_cons (ps_set (i := 2) nd rfl (.inl rfl) (pe_hasX (takes_of rfl rfl rfl rfl) h_choices (hr.mono (by omega)) (by rfl) (pa_cons (pe_op op_rep (pe_lst (pa_cons pe_int pa_nil)) (pe_callB call_len_seq (by rfl) T.b_len (by decide +kernel) (pa_cons (pv 0) pa_nil))) (pa_cons (pe_op op_add (pv 1) pe_int) pa_nil))))
    (pss_one (ps_ret (pe_lc (own := [("counts", 3)]) (by rfl) nd (pi_list (pv 2)) (blkOk_by (own := [("counts", 3)]) (N := nm_apart) (sc := defScope s_apart) (by decide +kernel)) (fun _ _ _ _ _ => pg_name (i := 3) nd rfl (.inl rfl)) (fun _ _ _ _ _ => pts_nil) (fun _ _ _ _ _ => (pe_lc (own := [("mark", 4), ("count", 5)]) (by rfl) nd (pi_zipW (K := K) rfl (by rfl) T.b_zip (pa_cons (pv 0) (pa_cons (pv 3) pa_nil))) (blkOk_by (own := [("mark", 4), ("count", 5)]) (N := nm_apart) (sc := relS { kind := .function, names := [(".0", .local), ("counts", .local), ("zip", .globalImplicit), ("marks", .free)], isGenerator := false, isCoroutine := false, more := [] } (defScope s_apart)) (by decide +kernel)) (fun _ _ _ _ _ => pg_tupK (K := K) (n := 2) rfl (by rfl) (pgs_cons (pg_name (i := 4) nd rfl (.inl rfl)) (pgs_cons (pg_name (i := 5) nd rfl (.inl rfl)) pgs_nil))) (fun _ _ _ _ _ => pts_one (pt_cmpR op_eq (pv 5) pe_int (nomark _))) (fun _ _ _ _ _ => (pv 4)))))))), ?_⟩
    have line : (5000000 : Nat) < sizeLine := by decide
    have nn : ∀ l ∈ onesI ms.length, 0 ≤ l := fun l hl => ((ones_lens lm).b l hl).1
    have t0 : 0 ≤ (most : Int) + 1 := by omega
    refine ⟨by show 1 ≤ sizeLine; decide, fun L1 n1 => ⟨_, rfl, a, _, rfl, .inl (SqL.of (same_new n1 _ _ ha)), L1, _, _, rfl, rfl, upd_same, by omega, by rw [List.length_map]; omega, by rw [List.length_map]; show 1 * _ ≤ _; omega, fun L2 n2 => ⟨_, rfl, _, _, rfl, rfl, ?_⟩⟩⟩
    have e0 : (List.replicate (((ms.map V.int).length : Nat) : Int).toNat [V.int 1]).flatten = (onesI ms.length).map V.int := by
      rw [flat_one, Int.toNat_natCast, List.length_map]
      unfold onesI
      rw [List.map_replicate]
    rw [e0]
    have s1 := (same_new n1 (o := .lst [V.int 1])).trans (same_new n2 (o := .lst ((onesI ms.length).map V.int)))
    have h2 : (upd (upd H L1 (.lst [V.int 1])) L2 (.lst ((onesI ms.length).map V.int))) L2 = some (.lst ((onesI ms.length).map V.int)) := upd_same
    generalize upd (upd H L1 (.lst [V.int 1])) L2 (.lst ((onesI ms.length).map V.int)) = H2 at s1 h2 ⊢
    refine ⟨L2, onesI ms.length, (most : Int) + 1, rfl, SqL.of h2, ones_lens lm, t0, by omega, ?_⟩
    rcases cases_ with ⟨few, k⟩ | ⟨many, m18, kE⟩
    · refine .inl ⟨few, fun H3 q ys s3 nq hq tq => ?_⟩
      have ha3 := s3 _ _ (s1 _ _ ha)
      have lq := tq.len
      rw [List.length_map] at lq
      have ld := due_len t0 nn
      have fit := due_fit t0 nn
      refine ⟨_, rfl, q, rfl, ⟨_, SqL.of hq⟩, fun Z nZ => lc_relD (fun j y H'' => ∃ p c, y = .ref p ∧ p ≠ Z ∧ (due (onesI ms.length) ((most : Int) + 1))[j]? = some c ∧ H'' p = some (.lst ((selL ms c).map V.int))) (fun j y H1 H2 ⟨q, l, e, ne, h1, h2⟩ s' => ⟨q, l, e, ne, h1, s' _ _ h2⟩) (fun j y H1 l' o hZ ⟨q, l, e, ne, h1, h2⟩ => ⟨q, l, e, ne, h1, by rw [upd_ne ne]; exact h2⟩) (SqL.of hq) nZ (by omega) (fun x => rfl) (fun j x hx H4 s4 hz R g => ?_) (fun H4 zs s4 hZ lz rz => ?_)⟩
      · have hj : j < (due (onesI ms.length) ((most : Int) + 1)).length := by
          rw [← lq]
          exact (List.getElem?_eq_some_iff.mp hx).1
        have hc := List.getElem?_eq_getElem hj
        obtain ⟨p, hp, hpc⟩ := row_of tq hc
        rw [hx] at hp
        cases hp
        have lc := (fit _ (List.getElem_mem hj)).1
        generalize (due (onesI ms.length) ((most : Int) + 1))[j] = c at hc hpc lc
        unfold onesI at lc
        rw [List.length_replicate] at lc
        obtain ⟨lz, hz⟩ := hz
        have ha4 := s4 _ _ ha3
        have hp4 := s4 _ _ hpc
        refine ⟨_, rfl, _, rfl, .ls, .tp, a, p, _, _, rfl, SqL.of ha4, SqT.of hp4, fun D3 nD3 => lc_zipw (by rw [List.length_map, List.length_map, lc]) (fun n H5 => Same H4 H5 ∧ H5 D3 = some (.lst (((((ms.zip c).take n).filter fun p => decide (p.2 = 1)).map (·.1)).map V.int))) ⟨same_new nD3, upd_same⟩ (fun n H5 z => ⟨SqL.of (z.1 _ _ ha4), SqT.of (z.1 _ _ hp4)⟩) (fun n x y T' H5 hx hy z nT => ?_) (fun H5 z => ?_)⟩
        · obtain ⟨m, rfl, hm⟩ := int_at hx
          obtain ⟨z1, rfl, hz1⟩ := int_at hy
          obtain ⟨sm, hd⟩ := z
          have hzip : (ms.zip c)[n]? = some (m, z1) := by
            rw [List.getElem?_zip_eq_some]
            exact ⟨hm, hz1⟩
          have hd2 := same_new nT (o := .tup [V.int m, V.int z1]) _ _ hd
          have sp := sm.trans (same_new nT (o := .tup [V.int m, V.int z1]))
          refine ⟨T', _, rfl, SqT.of upd_same, rfl, _, _, rfl, _, _, rfl, rfl, rfl, _, rfl, rfl, _, rfl, ?_⟩
          have hn := (List.getElem?_eq_some_iff.mp hm).1
          by_cases c1 : z1 = 1
          · subst c1
            refine iteTd rfl ⟨_, rfl, _, hd2, ?_, same_mut sp nD3, ?_⟩
            · rw [List.length_map, List.length_map]
              have := List.length_filter_le (fun p : Int × Int => decide (p.2 = 1)) ((ms.zip c).take n)
              rw [List.length_take] at this
              omega
            · rw [upd_same, List.take_add_one, hzip, List.filter_append, List.map_append, List.map_append]
              rfl
          · refine iteFd (fun z => c1 (V.int.inj z)) ⟨sp, ?_⟩
            rw [hd2, List.take_add_one, hzip, List.filter_append, List.map_append, List.map_append]
            have e : ([(m, z1)].filter fun p : Int × Int => decide (p.2 = 1)) = [] := by
              rw [List.filter_cons, if_neg (by rw [decide_eq_false c1]; exact Bool.false_ne_true)]
              rfl
            show _ = some (HO.lst (_ ++ (((Option.some (m, z1)).toList.filter fun p : Int × Int => decide (p.2 = 1)).map (·.1)).map V.int))
            rw [show ((Option.some (m, z1)).toList.filter fun p : Int × Int => decide (p.2 = 1)) = [] from e, List.map_nil, List.map_nil, List.append_nil]
        · obtain ⟨sm, hd⟩ := z
          have e : (ms.map V.int).length = (ms.zip c).length := by
            rw [List.length_map, List.length_zip, lc, Nat.min_self]
          rw [e, List.take_length] at hd
          exact g _ _ sm ⟨D3, c, rfl, (ne_of_none hz nD3).symm, hc, hd⟩
      · obtain ⟨ps, rfl, rs⟩ := refs_of (R := fun j p => ∃ c, (due (onesI ms.length) ((most : Int) + 1))[j]? = some c ∧ H4 p = some (.lst ((selL ms c).map V.int))) (ys := zs) (k := 0) fun j y hy => by
          obtain ⟨p, c, e, _, h1, h2⟩ := rz j y hy
          exact ⟨p, e, c, by rw [Nat.zero_add]; exact h1, h2⟩
        rw [List.length_map] at lz
        refine k H4 Z ps (s1.trans (s3.trans s4)) (s1.free (s3.free nZ)) ⟨hZ, by unfold toldL; rw [List.length_map, lz, lq], fun j p l hp hl => ?_⟩
        obtain ⟨c, h1, h2⟩ := rs j p hp
        rw [Nat.zero_add] at h1
        unfold toldL at hl
        rw [List.getElem?_map, h1] at hl
        cases hl
        exact h2
    · exact .inr ⟨many, m18, fun H3 d s3 nd3 hd => kE H3 d (s1.trans s3) (s1.free nd3) hd⟩
end

/-! ### what is told: so many of each, no two alike -/
theorem sel_mem {ms c : List Int} {m : Int} : m ∈ selL ms c ↔ ∃ i : Nat, ms[i]? = some m ∧ c[i]? = some 1 := by
  unfold selL
  rw [List.mem_map]
  constructor
  · rintro ⟨⟨x, y⟩, hp, rfl⟩
    obtain ⟨h1, h2⟩ := List.mem_filter.mp hp
    have h2 : y = 1 := of_decide_eq_true h2
    obtain ⟨i, hi⟩ := List.getElem?_of_mem h1
    rw [List.getElem?_zip_eq_some] at hi
    exact ⟨i, hi.1, by rw [hi.2, h2]⟩
  · rintro ⟨i, h1, h2⟩
    refine ⟨(m, 1), List.mem_filter.mpr ⟨List.mem_of_getElem? (i := i) ?_, decide_eq_true rfl⟩, rfl⟩
    rw [List.getElem?_zip_eq_some]
    exact ⟨h1, h2⟩
theorem sel_sub : ∀ ms c : List Int, (selL ms c).Sublist ms
  | [], c => by
    unfold selL
    rw [List.zip_nil_left]
    exact List.Sublist.refl _
  | m :: ms, [] => by
    unfold selL
    rw [List.zip_nil_right]
    exact List.nil_sublist _
  | m :: ms, z :: c => by
    have ih := sel_sub ms c
    unfold selL at ih ⊢
    rw [List.zip_cons_cons, List.filter_cons]
    by_cases h : z = 1
    · rw [if_pos (decide_eq_true h), List.map_cons]
      exact ih.cons_cons m
    · rw [if_neg (by rw [decide_eq_false h]; exact Bool.false_ne_true)]
      exact ih.cons m
theorem sel_len : ∀ ms c : List Int, ms.length = c.length → (∀ z ∈ c, 0 ≤ z ∧ z ≤ 1) → ((selL ms c).length : Int) = c.sum
  | [], [], _, _ => rfl
  | [], _ :: _, h, _ => by simp at h
  | _ :: _, [], h, _ => by simp at h
  | m :: ms, z :: c, h, b => by
    have ih := sel_len ms c (Nat.succ.inj h) fun y hy => b y (List.mem_cons_of_mem _ hy)
    have bz := b z List.mem_cons_self
    unfold selL at ih ⊢
    rw [List.zip_cons_cons, List.filter_cons, List.sum_cons]
    by_cases c1 : z = 1
    · rw [if_pos (decide_eq_true c1), List.map_cons, List.length_cons]
      omega
    · rw [if_neg (by rw [decide_eq_false c1]; exact Bool.false_ne_true)]
      omega
theorem lex_irr {c : List Int} (h : LexLt c c) : False := by
  obtain ⟨j, _, x, y, h1, h2, h3⟩ := h
  rw [h1] at h2
  cases h2
  omega
section
variable {ms : List Int} {most : Nat}
theorem told_at {k : Nat} {l : List Int} (h : (toldL ms most)[k]? = some l) : ∃ c, (due (onesI ms.length) ((most : Int) + 1))[k]? = some c ∧ l = selL ms c ∧ c.length = ms.length ∧ (∀ z ∈ c, 0 ≤ z ∧ z ≤ 1) ∧ c.sum = (most : Int) + 1 := by
  unfold toldL at h
  rw [List.getElem?_map] at h
  cases hc : (due (onesI ms.length) ((most : Int) + 1))[k]? with
  | none => rw [hc] at h; cases h
  | some c =>
    rw [hc] at h
    cases h
    have mem := List.mem_of_getElem? hc
    have nn : ∀ l ∈ onesI ms.length, 0 ≤ l := fun l hl => by
      rw [(List.mem_replicate.mp hl).2]
      decide
    obtain ⟨f1, f2⟩ := due_fit (show 0 ≤ (most : Int) + 1 by omega) nn c mem
    have lc : c.length = ms.length := by
      rw [f1]
      unfold onesI
      rw [List.length_replicate]
    refine ⟨c, rfl, rfl, lc, fun z hz => ?_, (due_sum _ _ c mem).1⟩
    obtain ⟨i, hi⟩ := List.getElem?_of_mem hz
    have il := (List.getElem?_eq_some_iff.mp hi).1
    refine f2 i z 1 hi ?_
    unfold onesI
    rw [List.getElem?_replicate, if_pos (by omega)]
theorem told_sets (nd : ms.Nodup) : SetsOf ms (toldL ms most) := fun l hl => by
  obtain ⟨k, hk⟩ := List.getElem?_of_mem hl
  obtain ⟨c, _, rfl, _⟩ := told_at hk
  exact ⟨nd.sublist (sel_sub ms c), fun m hm => (sel_sub ms c).subset hm⟩
theorem told_len {l : List Int} (h : l ∈ toldL ms most) : l.length = most + 1 := by
  obtain ⟨k, hk⟩ := List.getElem?_of_mem h
  obtain ⟨c, _, rfl, lc, b, sm⟩ := told_at hk
  have := sel_len ms c lc.symm b
  omega
theorem told_count : (((toldL ms most).length : Nat) : Int) = wAll (onesI ms.length) ((most : Int) + 1) := by
  unfold toldL
  rw [List.length_map]
  exact due_len (by omega) fun l hl => by
    rw [(List.mem_replicate.mp hl).2]
    decide
theorem told_far (nd : ms.Nodup) {k j : Nat} {a b : List Int} (hk : (toldL ms most)[k]? = some a) (hj : (toldL ms most)[j]? = some b) (ne : k ≠ j) : shr a b ≤ most := by
  refine Nat.le_of_not_lt fun lt => ?_
  have la := told_len (List.mem_of_getElem? hk)
  have lb := told_len (List.mem_of_getElem? hj)
  have le := shr_le a b
  have full := shr_full (a := a) (b := b) (by omega)
  have full2 := shr_full (a := b) (b := a) (by
    rw [shr_comm (told_sets nd b (List.mem_of_getElem? hj)).1 (told_sets nd a (List.mem_of_getElem? hk)).1]
    omega)
  obtain ⟨c, hc, rfl, lc, bc, _⟩ := told_at hk
  obtain ⟨d, hd, rfl, ld, bd, _⟩ := told_at hj
  have eq : c = d := by
    refine List.ext_getElem? fun i => ?_
    by_cases hi : i < ms.length
    · have g1 := List.getElem?_eq_getElem (show i < c.length by omega)
      have g2 := List.getElem?_eq_getElem (show i < d.length by omega)
      have gm := List.getElem?_eq_getElem hi
      have b1 := bc _ (List.getElem_mem (show i < c.length by omega))
      have b2 := bd _ (List.getElem_mem (show i < d.length by omega))
      have un : ∀ {e : List Int}, ms[i] ∈ selL ms e → e[i]? = some 1 := fun {e} he => by
        obtain ⟨p, h1, h2⟩ := sel_mem.mp he
        have : p = i := by
          refine (List.getElem?_inj (List.getElem?_eq_some_iff.mp h1).1 nd).mp ?_
          rw [h1, gm]
        rw [this] at h2
        exact h2
      by_cases c1 : c[i]'(by omega) = 1
      · have m1 := sel_mem.mpr ⟨i, gm, by rw [g1, c1]⟩
        rw [un (full _ m1), g1, c1]
      · by_cases d1 : d[i]'(by omega) = 1
        · have m1 := sel_mem.mpr ⟨i, gm, by rw [g2, d1]⟩
          have := un (full2 _ m1)
          rw [g1] at this
          exact absurd (Option.some.inj this) c1
        · rw [g1, g2]
          congr 1
          omega
    · rw [List.getElem?_eq_none (by omega), List.getElem?_eq_none (by omega)]
  subst eq
  have rises := List.pairwise_iff_getElem.mp (due_rises (onesI ms.length) ((most : Int) + 1))
  obtain ⟨hk2, ek⟩ := List.getElem?_eq_some_iff.mp hc
  obtain ⟨hj2, ej⟩ := List.getElem?_eq_some_iff.mp hd
  rcases Nat.lt_or_gt_of_ne ne with h | h
  · have := rises k j hk2 hj2 h
    rw [ek, ej] at this
    exact lex_irr this
  · have := rises j k hj2 hk2 h
    rw [ek, ej] at this
    exact lex_irr this
theorem told_apart (nd : ms.Nodup) : apB most (toldL ms most) = true := by
  refine (apB_iff most fun l hl => (told_sets nd l hl).1).mpr fun k s hk hs => ?_
  have gk := List.getElem?_eq_getElem hk
  have gs := List.getElem?_eq_getElem hs
  rw [getD_at gk, getD_at gs]
  refine ⟨fun z => ?_, fun e => ?_⟩
  · by_cases c : k = s
    · exact c.symm
    · have := told_far nd gk gs c
      omega
  · subst e
    rw [shr_self, told_len (List.getElem_mem hk)]
    omega
/-- the last one left out, the first one once more -/
theorem told_third (nd : ms.Nodup) : apB most ((toldL ms most).dropLast ++ (toldL ms most).take 1) = decide ((toldL ms most).length < 2) := by
  have S := told_sets (most := most) nd
  have L : ∀ l ∈ toldL ms most, l.length = most + 1 := fun l hl => told_len hl
  generalize toldL ms most = T at S L
  cases T with
  | nil => rfl
  | cons t T =>
    cases T with
    | nil =>
      show apB most [t] = true
      refine (apB_iff most fun l hl => ?_).mpr fun k s hk hs => ?_
      · rw [List.mem_singleton.mp hl]
        exact (S t List.mem_cons_self).1
      · have hk : k < 1 := hk
        have hs : s < 1 := hs
        have e1 : k = 0 := by omega
        have e2 : s = 0 := by omega
        subst e1 e2
        show most < shr t t ↔ 0 = 0
        rw [shr_self, L t List.mem_cons_self]
        exact ⟨fun _ => rfl, fun _ => by omega⟩
    | cons u T =>
      rw [decide_eq_false (by rw [List.length_cons, List.length_cons]; omega)]
      have e : (t :: u :: T).dropLast ++ (t :: u :: T).take 1 = t :: ((u :: T).dropLast ++ [t]) := rfl
      rw [e]
      cases ap : apB most (t :: ((u :: T).dropLast ++ [t])) with
      | false => rfl
      | true =>
        have sets : ∀ l ∈ t :: ((u :: T).dropLast ++ [t]), l.Nodup := fun l hl => by
          rcases List.mem_cons.mp hl with z | z
          · rw [z]
            exact (S t List.mem_cons_self).1
          · rcases List.mem_append.mp z with z | z
            · exact (S l (List.mem_cons_of_mem _ ((List.dropLast_sublist _).subset z))).1
            · rw [List.mem_singleton.mp z]
              exact (S t List.mem_cons_self).1
        have hl : ((u :: T).dropLast ++ [t]).length = T.length + 1 := by
          rw [List.length_append, List.length_dropLast, List.length_cons, List.length_singleton]
          rfl
        have z := ((apB_iff most sets).mp ap (T.length + 1) 0 (by rw [List.length_cons, hl]; omega) (by rw [List.length_cons]; omega)).mp (by
          have g0 : (t :: ((u :: T).dropLast ++ [t])).getD 0 [] = t := rfl
          have g1 : (t :: ((u :: T).dropLast ++ [t])).getD (T.length + 1) [] = t := by
            refine getD_at ?_
            show ((u :: T).dropLast ++ [t])[T.length]? = some t
            rw [List.getElem?_append_right (by rw [List.length_dropLast, List.length_cons]; exact Nat.le_refl _), List.length_dropLast, List.length_cons, show T.length - (T.length + 1 - 1) = 0 by omega]
            rfl
          rw [g0, g1, shr_self, L t List.mem_cons_self]
          omega)
        omega
end
/-! ### how many they are -/
def lnum (n : Nat) : Nat → Int
  | 0 => 1
  | k + 1 => lnum n k * ((n : Int) - k) / ((k : Int) + 1)
def prs41 : List (Nat × Nat) := [(60, 1), (60, 2), (60, 30), (14, 5), (14, 6), (15, 9), (16, 4), (60, 60), (60, 59), (18, 3), (28, 2), (21, 1)]
def okP (n mo : Nat) : Prop := (1 ≤ n ∧ n ≤ 8 ∧ mo ≤ n + 1) ∨ (n, mo) ∈ prs41
def chk (n mo : Nat) : Bool := decide ((((wtab (mo + 1) (List.replicate n 1)).getD (mo + 1) 0 : Nat) : Int) = lnum n (mo + 1)) && decide (lnum n (mo + 1) < 10 ^ 18)
theorem chk_small : ∀ n : Fin 9, ∀ m : Fin 11, chk n.val m.val = true := by decide +kernel
theorem chk_prs : ∀ p ∈ prs41, chk p.1 p.2 = true ∧ 1 ≤ p.1 ∧ p.1 ≤ 60 ∧ p.2 ≤ 60 := by decide +kernel
theorem ok_num {n mo : Nat} (h : okP n mo) : wAll (onesI n) ((mo : Int) + 1) = lnum n (mo + 1) ∧ lnum n (mo + 1) < 10 ^ 18 ∧ 1 ≤ n ∧ n ≤ 60 ∧ mo ≤ 60 := by
  have key : chk n mo = true → wAll (onesI n) ((mo : Int) + 1) = lnum n (mo + 1) ∧ lnum n (mo + 1) < 10 ^ 18 := fun c => by
    unfold chk at c
    obtain ⟨c1, c2⟩ := Bool.and_eq_true_iff.mp c
    refine ⟨?_, of_decide_eq_true c2⟩
    rw [← of_decide_eq_true c1]
    exact w_ones n (mo + 1) _ rfl
  rcases h with ⟨h1, h2, h3⟩ | h
  · obtain ⟨a, b⟩ := key (chk_small ⟨n, by omega⟩ ⟨mo, by omega⟩)
    exact ⟨a, b, h1, by omega, by omega⟩
  · obtain ⟨c, c1, c2, c3⟩ := chk_prs _ h
    obtain ⟨a, b⟩ := key c
    exact ⟨a, b, c1, c2, c3⟩

/-! ### the law's own parts -/
def spNum : Sp := fun vs H Q _ => ∃ n m : Nat, vs = [.int n, .int m] ∧ n ≤ 100 ∧ m ≤ 100 ∧ Q (.int (lnum n m)) H
def spLAp : Sp := fun vs H Q _ => ∃ (a b : Addr) (most : Nat) (ms : List Int) (qs : List Addr) (ss : List (List Int)), vs = [.ref a, .int most, .ref b] ∧ H a = some (.lst (ms.map V.int)) ∧ Ls H b qs ss ∧ ss.length ≤ 100000 ∧ (∀ l ∈ ss, l.length ≤ 1000) ∧ ∀ H', Same H H' → Q (.bl (apB most ss)) H'
def spChosen : Sp := fun vs H Q _ => ∃ (a b : Addr) (ms : List Int) (qs : List Addr) (ss : List (List Int)), vs = [.ref a, .ref b] ∧ H a = some (.lst (ms.map V.int)) ∧ Ls H b qs ss ∧ SetsOf ms ss ∧ ms.length ≤ 1000 ∧ ∀ H', Same H H' → Q (.bl true) H'
def spRight : Sp := fun vs H Q _ => ∃ (a b : Addr) (most : Nat) (ms : List Int) (qs : List Addr) (ss : List (List Int)), vs = [.ref a, .int most, .ref b] ∧ H a = some (.lst (ms.map V.int)) ∧ ms.length ≤ 100 ∧ most ≤ 1000 ∧ Ls H b qs ss ∧ ss.length ≤ 1000 ∧ SetsOf ms ss ∧ ∀ H', Same H H' → Q (.bl true) H'
theorem kt_list {K : PySem.W.Frag} : PySem.W.kitOne K (.type "list") (.type "list") = some true := kit_ty (by show kitB "list" "list" = some true; decide +kernel)
section
variable {P : Program} {w : World} {K : PySem.W.Frag} {mg : Str → Option Value} {base : Heap}
theorem has_number {cs : Nat → Addr} (T : Top K mg cs) : Has P w K mg base 1 "_law_number" ["_law_many", "_law_most"] spNum := by
  refine has_of T.d__law_number sc__law_number bd__law_number (fun vs H Q E h => ?_) (fun f cdv A outer s H vs Q E hr h => ?_)
  · obtain ⟨n, m, rfl, _⟩ := h
    rfl
  · have hu := hu_of hr
    have nd := sc__law_number.nd
    obtain ⟨n, m, rfl, hn, hm, k⟩ := h
    refine ⟨_, (pss_cons (ps_set (i := 2) nd rfl (.inl rfl) pe_int)
    (pss_cons (ps_for PassesOwn.never rfl (pi_range1 (by rfl) T.b_range (pa_cons (pv 1) pa_nil)) (pg_name (i := 3) nd rfl (.inl rfl))
      (pss_one (ps_set (i := 2) nd rfl (.inl rfl) (pe_op op_fdivW (pe_op op_mul (pv 2) (pe_op op_sub (pv 0) (pv 3))) (pe_op op_add (pv 3) pe_int)))))
    (pss_one (ps_ret (pv 2))))), ?_⟩
    refine ⟨_, rfl, (m : Int), rfl, by omega, by omega, for_range (lo := 0) (fun i σ H' => ∃ v3 : Option V, σ = [some (.int n), some (.int m), some (.int (lnum n i)), v3] ∧ H' = H) ⟨none, rfl, rfl⟩ ?_ ?_⟩
    · rintro i σ H' hi ⟨v3, rfl, rfl⟩
      have hi2 : i < m := by omega
      refine ⟨_, rfl, _, rfl, _, rfl, _, _, rfl, rfl, _, _, rfl, rfl, .inr ⟨by omega, by omega⟩, _, rfl, _, _, rfl, rfl, _, _, rfl, rfl, ⟨by omega, ?_⟩, some (.int (0 + (i : Int))), ?_, rfl⟩
      · exact Nat.lt_of_le_of_lt (Nat.log2_le_self _) (by omega)
      · have e : lnum n i * ((n : Int) - (0 + (i : Int))) / (0 + (i : Int) + 1) = lnum n (i + 1) := by
          rw [Int.zero_add]
          rfl
        exact congrArg (fun z => [some (V.int n), some (V.int m), some (V.int z), some (V.int (0 + (i : Int)))]) e
    · rintro σ H' ⟨v3, rfl, rfl⟩
      have e : ((m : Int)).toNat = m := by omega
      rw [e]
      exact ⟨_, rfl, k⟩
theorem has_lapart {cs : Nat → Addr} (T : Top K mg cs) : Has P w K mg base 1 "_law_apart" ["_law_marks_here", "_law_most", "_law_settings"] spLAp := by
  refine has_of T.d__law_apart sc__law_apart bd__law_apart (fun vs H Q E h => ?_) (fun f cdv A outer s H vs Q E hr h => ?_)
  · obtain ⟨a, b, most, ms, qs, ss, rfl, _⟩ := h
    rfl
  · have hu := hu_of hr
    have nd := sc__law_apart.nd
    obtain ⟨a, b, most, ms, qs, ss, rfl, ha, hL, fs, wl, k⟩ := h
    refine ⟨_, (pss_cons (ps_for PassesOwn.never rfl (pi_range1 (by rfl) T.b_range (pa_cons (pe_callB call_len_seq (by rfl) T.b_len (by decide +kernel) (pa_cons (pv 2) pa_nil)) pa_nil)) (pg_name (i := 3) nd rfl (.inl rfl))
      (pss_cons (ps_if (pt_cmpR op_le (pe_callB call_len_seq (by rfl) T.b_len (by decide +kernel) (pa_cons (pe_ix ix_list (pv 2) (pv 3) (fun _ _ => rfl)) pa_nil)) (pv 1) (nomark _)) (pss_one (ps_ret pe_bl)) pss_nil)
    (pss_one (ps_for PassesOwn.never rfl (pi_list (pe_slice sl_list (pv 2) po_none (po_some (pv 3)))) (pg_name (i := 4) nd rfl (.inr rfl))
      (pss_one (ps_if (pt_cmpR op_gt (pe_callB call_len_seq (by rfl) T.b_len (by decide +kernel) (pa_cons (pe_lc (own := [("_law_mark", 5)]) (by rfl) nd (pi_list (pe_ix ix_list (pv 2) (pv 3) (fun _ _ => rfl))) (blkOk_by (own := [("_law_mark", 5)]) (N := nm__law_apart) (sc := defScope s__law_apart) (by decide +kernel)) (fun _ _ _ _ _ => pg_name (i := 5) nd rfl (.inl rfl)) (fun _ _ _ _ _ => pts_one (pt_cmpR (op_inK (K := K) rfl) (pv 5) (pv 4) (by rfl))) (fun _ _ _ _ _ => (pv 5))) pa_nil)) (pv 1) (nomark _)) (pss_one (ps_ret pe_bl)) pss_nil))))))
    (pss_one (ps_ret pe_bl))), ?_⟩
    have line : (200000 : Nat) < sizeLine := by decide
    have ln := hL.n
    have no : ∀ i, i < ss.length → ¬ (most < (ss.getD i []).length ∧ ∀ j, j < i → shr (ss.getD i []) (ss.getD j []) ≤ most) → apB most ss = false := fun i hi h => by
      cases e : apB most ss with
      | false => rfl
      | true =>
        unfold apB at e
        have z := Bool.and_eq_true_iff.mp (List.all_eq_true.mp e i (List.mem_range.mpr hi))
        exact absurd ⟨of_decide_eq_true z.1, fun j hj => of_decide_eq_true (List.all_eq_true.mp z.2 j (List.mem_range.mpr hj))⟩ h
    refine ⟨_, rfl, b, _, rfl, .inl (SqL.of hL.l), _, rfl, by omega, by rw [List.length_map]; omega, for_range (lo := 0) (fun i σ H' => ∃ (v3 v4 : Option V), σ = [some (.ref a), some (.int most), some (.ref b), v3, v4, none] ∧ Same H H' ∧ ∀ k, k < i → most < (ss.getD k []).length ∧ ∀ j, j < k → shr (ss.getD k []) (ss.getD j []) ≤ most) ⟨none, none, rfl, Same.refl _, fun k hk => absurd hk (Nat.not_lt_zero _)⟩ ?_ ?_⟩
    · rintro i σ H' hi ⟨v3, v4, rfl, s1, hall⟩
      have hi2 : i < ss.length := by
        rw [List.length_map] at hi
        omega
      have hl := List.getElem?_eq_getElem hi2
      have hqi : i < qs.length := by omega
      have hq := List.getElem?_eq_getElem hqi
      have hql := (hL.same s1).t i _ _ hq hl
      have el := getD_at hl
      have wli := wl _ (List.getElem_mem hi2)
      generalize qs[i] = q at hq hql
      generalize ss[i] = l at hl hql el wli
      have hat : atI (qs.map V.ref) (0 + (i : Int)) = some (.ref q) := at_of (j := i) (by omega) (by rw [List.getElem?_map, hq]; rfl)
      refine ⟨_, rfl, _, rfl, b, _, _, _, rfl, rfl, SqL.of (hL.same s1).l, hat, q, _, rfl, .inl (SqL.of hql), _, rfl, _, _, rfl, rfl, _, rfl, ite2 (fun c => ?_) (fun c => ?_)⟩
      · have c := of_decide_eq_true c
        rw [List.length_map] at c
        have kk := k _ s1
        rw [no i hi2 (fun z => by
          have z := z.1
          rw [el] at z
          omega)] at kk
        exact kk
      · have c : most < l.length := by
          rw [List.length_map] at c
          have c : ¬ ((l.length : Nat) : Int) ≤ (most : Int) := fun z => c (decide_eq_true z)
          omega
        refine ⟨_, rfl, _, rfl, _, rfl, b, _, rfl, SqL.of (hL.same s1).l, fun p np => ?_⟩
        have ec : cutV (qs.map V.ref) none (some (0 + (i : Int))) = (qs.take i).map V.ref := by
          rw [Int.zero_add, cut_0j, List.map_take]
        rw [ec]
        have s2 := s1.trans (same_new np (o := .lst ((qs.take i).map V.ref)))
        have hp : (upd H' p (.lst ((qs.take i).map V.ref))) p = some (.lst ((qs.take i).map V.ref)) := upd_same
        have hql2 := same_new np (o := .lst ((qs.take i).map V.ref)) _ _ hql
        generalize upd H' p (.lst ((qs.take i).map V.ref)) = H2 at s2 hp hql2 ⊢
        refine ⟨p, rfl, ⟨_, SqL.of hp⟩, for_list (xs := (qs.take i).map V.ref) (fun j σ H3 => ∃ (v4 : Option V), σ = [some (.ref a), some (.int most), some (.ref b), some (.int (0 + (i : Int))), v4, none] ∧ Same H2 H3 ∧ ∀ m, m < j → shr l (ss.getD m []) ≤ most) ⟨v4, rfl, Same.refl _, fun m hm => absurd hm (Nat.not_lt_zero _)⟩ ?_ ?_ ?_⟩
        · rintro j σ H3 _ ⟨v4, _, s3, _⟩
          exact SqL.of (s3 _ _ hp)
        · rintro j x σ H3 hx ⟨v4, rfl, s3, hj⟩
          have jl := (List.getElem?_eq_some_iff.mp hx).1
          rw [List.length_map, List.length_take] at jl
          have jl2 : j < ss.length := by omega
          have hqj := List.getElem?_eq_getElem (show j < qs.length by omega)
          have ho := List.getElem?_eq_getElem jl2
          have hxj : x = .ref (qs[j]'(by omega)) := by
            rw [List.getElem?_map, List.getElem?_take, if_pos (by omega), hqj] at hx
            exact (Option.some.inj hx).symm
          subst hxj
          have hoj := (hL.same (s2.trans s3)).t j _ _ hqj ho
          have eo := getD_at ho
          have wlj := wl _ (List.getElem_mem jl2)
          generalize (qs[j]'(by omega)) = q2 at hqj hoj
          generalize ss[j] = l2 at ho hoj eo wlj
          have hL3 := hL.same (s2.trans s3)
          have hq3 := s3 _ _ hql2
          refine ⟨_, rfl, _, rfl, b, _, _, _, rfl, rfl, SqL.of hL3.l, hat, q, rfl, ⟨_, SqL.of hq3⟩, fun D nD => lc_sel_list (fun x => match x with | .int m => decide (m ∈ l2) | _ => false) (fun x => x) (SqL.of hq3) nD (by rw [List.length_map]; omega) (fun x hm => ?_) fun H4 s4 h4 => ?_⟩
          · obtain ⟨m', _, rfl⟩ := List.mem_map.mp hm
            refine ⟨rfl, fun H'' s'' R g => ⟨_, rfl, _, rfl, q2, _, rfl, .inl (SqL.of (s'' _ _ hoj)), rfl, flat_l l2, _, rfl, ?_⟩, fun _ H'' s'' R g => ⟨_, rfl, g H'' (Same.refl _)⟩⟩
            show R (inV (V.int m') (l2.map V.int)) H''
            rw [inV_l]
            exact g H'' (Same.refl _)
          · have e4 : (((l.map V.int).filter fun x => match x with | .int m => decide (m ∈ l2) | _ => false).map fun x => x).length = shr l l2 := by
              rw [List.map_id', List.filter_map, List.length_map]
              rfl
            refine ⟨D, _, rfl, .inl (SqL.of h4), _, rfl, _, _, rfl, rfl, _, rfl, ?_⟩
            rw [e4]
            refine ite2 (fun c2 => ?_) (fun c2 => ?_)
            · have c2 := of_decide_eq_true c2
              have kk := k _ (s2.trans (s3.trans s4))
              rw [no i hi2 (fun z => by
                have := z.2 j (by omega)
                rw [el, eo] at this
                omega)] at kk
              exact kk
            · have c2 : ¬ ((shr l l2 : Nat) : Int) > (most : Int) := fun z => c2 (decide_eq_true z)
              refine ⟨some (.ref q2), rfl, s3.trans s4, fun m hm => ?_⟩
              by_cases cm : m < j
              · exact hj m cm
              · rw [show m = j by omega, eo]
                omega
        · rintro σ H3 ⟨v4, rfl, s3, hj⟩
          rw [List.length_map, List.length_take] at hj
          refine ⟨some (.int (0 + (i : Int))), v4, rfl, s2.trans s3, fun m hm => ?_⟩
          by_cases cm : m < i
          · exact hall m cm
          · rw [show m = i by omega, el]
            exact ⟨c, fun j' hj' => hj j' (by omega)⟩
    · rintro σ H' ⟨v3, v4, rfl, s1, hall⟩
      rw [List.length_map] at hall
      have kk := k _ s1
      have e : apB most ss = true := by
        unfold apB
        refine List.all_eq_true.mpr fun i hi => ?_
        have := hall i (by have := List.mem_range.mp hi; omega)
        exact Bool.and_eq_true_iff.mpr ⟨decide_eq_true this.1, List.all_eq_true.mpr fun j hj => decide_eq_true (this.2 j (List.mem_range.mp hj))⟩
      rw [e] at kk
      exact kk
theorem has_chosen {cs : Nat → Addr} (T : Top K mg cs) : Has P w K mg base 1 "_law_chosen" ["_law_marks_here", "_law_told"] spChosen := by
  refine has_of T.d__law_chosen sc__law_chosen bd__law_chosen (fun vs H Q E h => ?_) (fun f cdv A outer s H vs Q E hr h => ?_)
  · obtain ⟨a, b, ms, qs, ss, rfl, _⟩ := h
    rfl
  · have hu := hu_of hr
    have nd := sc__law_chosen.nd
    obtain ⟨a, b, ms, qs, ss, rfl, ha, hL, so, lm, k⟩ := h
    refine ⟨_, (pss_cons (ps_for PassesOwn.never rfl (pi_list (pv 1)) (pg_name (i := 2) nd rfl (.inl rfl))
      (pss_cons (ps_if (PW.pt (pw_or (pt_not (pt_val (pe_callB call_isi (by rfl) T.b_isinstance (by decide +kernel) (pa_cons (pv 2) (pa_cons (pe_bltn (v := .ty "list") (u := .type "list") (by rfl) T.b_list (by decide +kernel) (by rfl)) pa_nil))))) (pw_or1 (pt_cmpR (op_neNil hu) (pe_lc (own := [("_law_mark", 3)]) (by rfl) nd (pi_list (pv 2)) (blkOk_by (own := [("_law_mark", 3)]) (N := nm__law_chosen) (sc := defScope s__law_chosen) (by decide +kernel)) (fun _ _ _ _ _ => pg_name (i := 3) nd rfl (.inl rfl)) (fun _ _ _ _ _ => pts_one (pt_cmpR (op_notInK (K := K) rfl) (pv 3) (pv 0) (by rfl))) (fun _ _ _ _ _ => (pv 3))) (pe_lst pa_nil) (nomark _))))) (pss_one (ps_ret pe_bl)) pss_nil)
    (pss_one (ps_if (pt_cmpR op_ne (pe_lenOf (by rfl) T.b_len (by rfl) T.b_set (pv 2)) (pe_callB call_len_seq (by rfl) T.b_len (by decide +kernel) (pa_cons (pv 2) pa_nil)) (nomark _)) (pss_one (ps_ret pe_bl)) pss_nil))))
    (pss_one (ps_ret pe_bl))), ?_⟩
    have line : (200000 : Nat) < sizeLine := by decide
    refine ⟨_, rfl, b, rfl, ⟨_, SqL.of hL.l⟩, for_list (xs := qs.map V.ref) (fun j σ H3 => ∃ (v2 : Option V), σ = [some (.ref a), some (.ref b), v2, none] ∧ Same H H3) ⟨none, rfl, Same.refl _⟩ ?_ ?_ ?_⟩
    · rintro j σ H3 _ ⟨v2, _, s3⟩
      exact SqL.of (s3 _ _ hL.l)
    · rintro j x σ H3 hx ⟨v2, rfl, s3⟩
      obtain ⟨q, l, rfl, hq, hl, hql⟩ := (hL.same s3).at hx
      obtain ⟨ndl, inl⟩ := so l (List.mem_of_getElem? hl)
      have ll := nodup_len ndl inl
      refine ⟨_, rfl, _, .ty "list", _, _, _, rfl, .ty _, .base (.lst hql), kt_list, _, rfl, iteF ?_⟩
      refine ⟨_, rfl, q, rfl, ⟨_, SqL.of hql⟩, fun Z nZ => lc_sel_list (fun _ => false) (fun x => x) (SqL.of hql) nZ (by rw [List.length_map]; omega) (fun x hm => ?_) fun H9 s9 h9 => ?_⟩
      · obtain ⟨m', hm', rfl⟩ := List.mem_map.mp hm
        refine ⟨rfl, fun H'' s'' R g => ⟨_, rfl, _, rfl, a, _, rfl, .inl (SqL.of (s'' _ _ (s3 _ _ ha))), rfl, flat_l ms, _, rfl, ?_⟩, fun h => absurd h Bool.false_ne_true⟩
        show R (!(inV (V.int m') (ms.map V.int))) H''
        rw [inV_l, decide_eq_true (inl m' hm')]
        exact g H'' (Same.refl _)
      · rw [none_left] at h9
        refine ⟨by show 0 ≤ sizeLine; decide, fun N hN => ⟨Z, N, _, rfl, rfl, SqL.of (same_new hN _ _ h9), SqL.of upd_same, _, rfl, iteF ?_⟩⟩
        have sN := s9.trans (same_new hN (o := .lst []))
        refine ⟨_, rfl, q, _, rfl, SqL.of (sN _ _ hql), by omega, _, rfl, q, _, rfl, .inl (SqL.of (sN _ _ hql)), rfl, _, rfl, ?_⟩
        rw [(many_nodup _).mpr ndl, List.length_map]
        exact iteNS rfl ⟨some (.ref q), rfl, s3.trans sN⟩
    · rintro σ H3 ⟨v2, rfl, s3⟩
      exact k _ s3
end

/-! ### what the law draws: settings -/
def Sl (H : Hp) (ms : List Int) (v : V) : Prop := ∃ (q : Addr) (l : List Int), v = .ref q ∧ H q = some (.lst (l.map V.int)) ∧ l.Nodup ∧ ∀ m ∈ l, m ∈ ms
theorem Sl.same {H H' : Hp} {ms : List Int} {v : V} (h : Sl H ms v) (s : Same H H') : Sl H' ms v := by
  obtain ⟨q, l, e, hq, a⟩ := h
  exact ⟨q, l, e, s _ _ hq, a⟩
theorem Sl.kp {H H' : Hp} {t c : Addr} {n : Nat} {ms : List Int} {v : V} (h : Sl H ms v) (tp : Tape H t c n) (k : Kp t H H') : Sl H' ms v := by
  obtain ⟨q, l, e, hq, a⟩ := h
  exact ⟨q, l, e, tp.sq hq k, a⟩
def SlA (H : Hp) (ms : List Int) (vs : List V) : Prop := ∀ v ∈ vs, Sl H ms v
theorem SlA.app {H : Hp} {ms : List Int} {vs ws : List V} (a : SlA H ms vs) (b : SlA H ms ws) : SlA H ms (vs ++ ws) := fun v hv => (List.mem_append.mp hv).elim (a v) (b v)
theorem SlA.one {H : Hp} {ms : List Int} {v : V} (a : Sl H ms v) : SlA H ms [v] := fun x hx => by
  rw [List.mem_singleton.mp hx]
  exact a
theorem SlA.nil {H : Hp} {ms : List Int} : SlA H ms [] := fun x hx => by cases hx
theorem SlA.same {H H' : Hp} {ms : List Int} {vs : List V} (h : SlA H ms vs) (s : Same H H') : SlA H' ms vs := fun v hv => (h v hv).same s
theorem SlA.ls {H : Hp} {ms : List Int} {b : Addr} : ∀ {vs : List V}, SlA H ms vs → H b = some (.lst vs) → ∃ qs ss, Ls H b qs ss ∧ SetsOf ms ss ∧ vs = qs.map V.ref ∧ ss.length = vs.length := by
  intro vs h hb
  have key : ∀ ws : List V, SlA H ms ws → ∃ (qs : List Addr) (cs : List (List Int)), ws = qs.map V.ref ∧ qs.length = cs.length ∧ (∀ (i : Nat) q c, qs[i]? = some q → cs[i]? = some c → H q = some (.lst (c.map V.int))) ∧ SetsOf ms cs := by
    intro ws
    induction ws with
    | nil => exact fun _ => ⟨[], [], rfl, rfl, fun i q c hq => (by simp at hq), fun c hc => (by cases hc)⟩
    | cons w ws ih =>
      intro h
      obtain ⟨qs, cs, rfl, n, t, i⟩ := ih fun v hv => h v (List.mem_cons_of_mem _ hv)
      obtain ⟨q, c, rfl, hq, a, b⟩ := h w List.mem_cons_self
      refine ⟨q :: qs, c :: cs, rfl, by rw [List.length_cons, List.length_cons, n], fun i q' c' hq' hc' => ?_, fun c' hc' => ?_⟩
      · cases i with
        | zero =>
          cases hq'
          cases hc'
          exact hq
        | succ i => exact t i q' c' hq' hc'
      · rcases List.mem_cons.mp hc' with e | e
        · rw [e]
          exact ⟨a, b⟩
        · exact i c' e
  obtain ⟨qs, cs, rfl, n, t, i⟩ := key vs h
  exact ⟨qs, cs, ⟨hb, n, t⟩, i, rfl, by rw [List.length_map, n]⟩
theorem Ls.sl {H : Hp} {b : Addr} {qs : List Addr} {ss : List (List Int)} {ms : List Int} (h : Ls H b qs ss) (so : SetsOf ms ss) : SlA H ms (qs.map V.ref) := fun v hv => by
  obtain ⟨j, hj, e⟩ := List.getElem_of_mem hv
  obtain ⟨q, l, e1, hq, hl, hql⟩ := h.at (List.getElem?_eq_getElem hj)
  exact ⟨q, l, by rw [← e, e1], hql, so l (List.mem_of_getElem? hl)⟩
theorem cut_sl (l : List Int) (i j : Option Int) : ∃ l' : List Int, cutV (l.map V.int) i j = l'.map V.int ∧ l'.Sublist l := by
  unfold cutV
  rw [← List.map_drop, ← List.map_take]
  exact ⟨_, rfl, (List.take_sublist _ _).trans (List.drop_sublist _ _)⟩
def lssD (ss : List (List Int)) : PyData := .list (ss.map lstD)
theorem lay_lss (ss : List (List Int)) : (lssD ss).canLay0 = true := by
  have sh1 : ∀ ss : List (List Int), PyData.canLayAll0 (ss.map lstD) = true := fun ss => by
    induction ss with
    | nil => rfl
    | cons x r ih =>
      rw [List.map_cons, PyData.canLayAll0, ih, lay_lst]
      rfl
  unfold lssD
  rw [PyData.canLay0]
  exact sh1 ss
theorem shape_lss (ss : List (List Int)) : SeqAt.shaped (lssD ss) = true := by
  have sh2 : ∀ ss : List (List Int), PyData.depthAll (ss.map lstD) ≤ 1 := fun ss => by
    induction ss with
    | nil => exact Nat.zero_le _
    | cons x r ih =>
      rw [List.map_cons, PyData.depthAll]
      exact Nat.max_le.mpr ⟨dep_lst x, ih⟩
  have d : (lssD ss).depth ≤ 2 := by
    have := sh2 ss
    unfold lssD
    rw [PyData.depth]
    omega
  unfold SeqAt.shaped
  rw [lay_lss, decide_eq_true (Nat.le_trans d (by decide))]
  rfl
theorem dp_lss {K : PySem.W.Frag} {H : Hp} {a : Addr} {qs : List Addr} {ss : List (List Int)} (h : Ls H a qs ss) : Dp K H (.ref a) (lssD ss) := by
  have key : ∀ {qs : List Addr} {cs : List (List Int)}, qs.length = cs.length → (∀ (i : Nat) q c, qs[i]? = some q → cs[i]? = some c → H q = some (.lst (c.map V.int))) → DpAll K H (qs.map V.ref) (cs.map lstD) := by
    intro qs
    induction qs with
    | nil =>
      intro cs n t
      cases cs with
      | nil => exact .nil
      | cons _ _ => exact absurd n (by simp)
    | cons q qs ih =>
      intro cs n t
      cases cs with
      | nil => exact absurd n (by simp)
      | cons c cs => exact .cons (dp_lst (t 0 q c rfl rfl)) (ih (Nat.succ.inj n) fun i q' c' hq hc => t (i + 1) q' c' hq hc)
  exact .lst (SqL.of h.l) (key h.n h.t)
def spRefused : Sp := fun vs H Q _ => ∃ (a : Addr) (ms : List Int) (most : Nat), vs = [.ref a, .int most] ∧ H a = some (.lst (ms.map V.int)) ∧ ms.length ≤ 60 ∧ most ≤ 1000 ∧ 3003 < wAll (onesI ms.length) ((most : Int) + 1) ∧ wAll (onesI ms.length) ((most : Int) + 1) < 10 ^ 18 ∧
  ∀ H', Same H H' → Q (.int (wAll (onesI ms.length) ((most : Int) + 1))) H'
def spStr : Sp := fun vs H Q _ => ∃ (t c a : Addr) (ms : List Int) (most n : Nat), vs = [.ref t, .ref a, .int most] ∧ Tape H t c n ∧ n < 800000 ∧ H a = some (.lst (ms.map V.int)) ∧ ms.length ≤ 60 ∧ ms.Nodup ∧ most ≤ 1000 ∧
  ∀ (H' : Hp) (F : Addr) (qs : List Addr) (ss : List (List Int)), Tape H' t c (n + 400) → Kp t H H' → Ls H' F qs ss → ss.length ≤ 4 → SetsOf ms ss → Q (.ref F) H'
section
variable {P : Program} {w : World} {K : PySem.W.Frag} {mg : Str → Option Value} {base : Heap}
theorem has_right {cs : Nat → Addr} (T : Top K mg cs) (h_are_apart : Has P w K mg base 2 "are_apart" ["marks", "most", "settings"] spAre) (h__law_apart : Has P w K mg base 1 "_law_apart" ["_law_marks_here", "_law_most", "_law_settings"] spLAp) :
    Has P w K mg base 3 "_law_told_right" ["_law_marks_here", "_law_most", "_law_settings"] spRight := by
  refine has_of T.d__law_told_right sc__law_told_right bd__law_told_right (fun vs H Q E h => ?_) (fun f cdv A outer s H vs Q E hr h => ?_)
  · obtain ⟨a, b, most, ms, qs, ss, rfl, _⟩ := h
    rfl
  · have hu := hu_of hr
    have nd := sc__law_told_right.nd
    obtain ⟨a, b, most, ms, qs, ss, rfl, ha, lm, fm, hL, fs, so, k⟩ := h
    refine ⟨_, (pss_cons (ps_par (i := 3) (j := 4) (by rfl) nd rfl rfl (by decide) rfl rfl (pa_cons (pe_callTy call_list_of (by rfl) T.b_list (by decide +kernel) (pa_cons (pv 0) pa_nil)) (pa_cons (pe_lc (own := [("_law_some", 6)]) (by rfl) nd (pi_list (pv 2)) (blkOk_by (own := [("_law_some", 6)]) (N := nm__law_told_right) (sc := defScope s__law_told_right) (by decide +kernel)) (fun _ _ _ _ _ => pg_name (i := 6) nd rfl (.inl rfl)) (fun _ _ _ _ _ => pts_nil) (fun _ _ _ _ _ => (pe_callTy (call_list_ofK (K := K) rfl) (by rfl) T.b_list (by decide +kernel) (pa_cons (pv 6) pa_nil)))) pa_nil)) (by rfl))
    (pss_cons (ps_set (i := 5) nd rfl (.inl rfl) (pe_has h_are_apart (hr.mono (by omega)) (by rfl) (pa_cons (pv 3) (pa_cons (pv 1) (pa_cons (pv 4) pa_nil)))))
    (pss_one (ps_ret (pe_and (pe_cmpR op_eq (pe_callB call_repr_bool (by rfl) T.b_repr (by decide +kernel) (pa_cons (pv 5) pa_nil)) (pe_callB call_repr_bool (by rfl) T.b_repr (by decide +kernel) (pa_cons (pe_has h__law_apart (hr.mono (by omega)) (by rfl) (pa_cons (pv 0) (pa_cons (pv 1) (pa_cons (pv 2) pa_nil)))) pa_nil)) (nomark _)) (pe_and (pe_cmpR (op_eqD hr.units) (pv 4) (pv 2) (nomark _)) (pe_one (pe_cmpR (op_eqD hr.units) (pv 3) (pv 0) (nomark _))))))))), ?_⟩
    have line : (200000 : Nat) < sizeLine := by decide
    have wl : ∀ l ∈ ss, l.length ≤ 1000 := fun l hl => by
      have := nodup_len (so l hl).1 (so l hl).2
      omega
    refine ⟨_, rfl, a, _, rfl, .inl (SqL.of ha), fun h0 n0 => ⟨_, rfl, b, rfl, ⟨_, SqL.of (same_new n0 _ _ hL.l)⟩, fun Z nZ => lc_relD (fun j y H'' => ∃ p l, y = .ref p ∧ p ≠ Z ∧ ss[j]? = some l ∧ H'' p = some (.lst (l.map V.int))) (fun j y H1 H2 ⟨q, l, e, ne, h1, h2⟩ s' => ⟨q, l, e, ne, h1, s' _ _ h2⟩) (fun j y H1 l' o hZ ⟨q, l, e, ne, h1, h2⟩ => ⟨q, l, e, ne, h1, by rw [upd_ne ne]; exact h2⟩) (SqL.of (same_new n0 _ _ hL.l)) nZ (by rw [List.length_map, hL.n]; omega) (fun x => rfl) (fun j x hx H4 s4 hz R g => ?_) (fun H4 zs s4 hZ lz rz => ?_)⟩⟩
    · obtain ⟨q, l, rfl, hq, hl, hql⟩ := (hL.same ((same_new n0).trans s4)).at hx
      obtain ⟨lz, hz⟩ := hz
      exact ⟨_, rfl, q, _, rfl, .inl (SqL.of hql), fun L nL => g _ _ (same_new nL) ⟨L, l, rfl, (ne_of_none hz nL).symm, hl, upd_same⟩⟩
    obtain ⟨ps, rfl, rs⟩ := refs_of (R := fun j p => ∃ l, ss[j]? = some l ∧ H4 p = some (.lst (l.map V.int))) (ys := zs) (k := 0) fun j y hy => by
      obtain ⟨p, c, e, _, h1, h2⟩ := rz j y hy
      exact ⟨p, e, c, by rw [Nat.zero_add]; exact h1, h2⟩
    rw [List.length_map, List.length_map] at lz
    have s04 := (same_new n0 (o := .lst (ms.map V.int))).trans s4
    have hLc : Ls H4 Z ps ss := ⟨hZ, by rw [lz, hL.n], fun j p l hp hl => by
      obtain ⟨c, h1, h2⟩ := rs j p hp
      rw [Nat.zero_add, hl] at h1
      cases h1
      exact h2⟩
    have hh0 := s4 _ _ (upd_same : (upd H h0 (.lst (ms.map V.int))) h0 = some (.lst (ms.map V.int)))
    refine ⟨_, _, rfl, ?_⟩
    refine ⟨_, rfl, _, rfl, _, rfl, h0, Z, most, ms, ps, ss, rfl, hh0, lm, fm, hLc, by omega, so, fun H5 s5 => ?_⟩
    have s05 := s04.trans s5
    refine ⟨_, rfl, _, rfl, _, rfl, _, rfl, _, rfl, a, b, most, ms, qs, ss, rfl, s05 _ _ ha, hL.same s05, by omega, wl, fun H6 s6 => ⟨_, rfl, rfl, true, ?_, iteT ?_⟩⟩
    · rw [decide_eq_true rfl]
    have s06 := s05.trans s6
    have hL6 := hL.same s06
    have hLc6 := hLc.same (s5.trans s6)
    refine ⟨_, rfl, _, rfl, lssD ss, lssD ss, dp_lss hLc6, dp_lss hL6, shape_lss ss, shape_lss ss, true, ?_, iteT ⟨_, rfl, _, rfl, lstD ms, lstD ms, dp_lst ((s5.trans s6) _ _ hh0), dp_lst (s06 _ _ ha), shape_lst ms, shape_lst ms, ?_⟩⟩
    · rw [SeqAt.eqv_refl _ (lay_lss ss)]
    · rw [SeqAt.eqv_refl _ (lay_lst ms)]
      exact k _ s06
theorem has_refused (T : Top K mg cs) (h_apart : HasX P w K mg base 6 "apart" ["marks", "most"] (spApart (cs 0))) : Has P w K mg base 7 "_law_refused" ["_law_marks_here", "_law_most"] spRefused := by
  refine has_of T.d__law_refused sc__law_refused bd__law_refused (fun vs H Q E h => ?_) (fun f cdv A outer s H vs Q E hr h => ?_)
  · obtain ⟨a, ms, most, rfl, _⟩ := h
    rfl
  · have hu := hu_of hr
    have nd := sc__law_refused.nd
    obtain ⟨a, ms, most, rfl, ha, lm, fm, big, m18, k⟩ := h
    refine ⟨_, (pss_cons (ps_set (i := 2) nd rfl (.inl rfl) pe_non)
    (pss_cons (ps_try_keep (i := 3) rfl rfl nd rfl rfl (names_own T.k_TooMany.mg (by rfl)) takes0 (fun W pn xe tk _ =>
      (pss_one (ps_expr (pe_hasX tk h_apart (hr.mono (by omega)) (by rfl) (pa_cons (pv 0) (pa_cons (pv 1) pa_nil)))))) (fun a oe cls d pn hz hf =>
      (pss_one (ps_set (i := 2) nd rfl (.inl rfl) (pv 3)))))
    (pss_one (ps_ret (pe_ifExp (pt_cmpR op_isN (pv 2) pe_non (nomark _)) pe_non (pe_keptF (pv 2))))))), ?_⟩
    refine ⟨_, rfl, _, rfl, a, ms, most, rfl, ha, lm, fm, .inr ⟨big, m18, fun H3 d s3 nd3 hd => ⟨true, exm_self T.k_TooMany (base_I.flat _), fun _ ex nex => ⟨cs 0, rfl, _, rfl, nex, ?_⟩, fun z => by cases z⟩⟩⟩
    refine ⟨_, rfl, rfl, _, rfl, iteFd (fun z => by cases z) ?_⟩
    refine ⟨_, rfl, ex, cs 0, d, [("many", .int (wAll (onesI ms.length) ((most : Int) + 1)))], _, rfl, T.k_TooMany.xf, T.k_TooMany.no "many" (by decide), upd_same, ?_, rfl, k _ ?_⟩
    · rw [upd_ne (ne_of_none hd nex)]
      exact hd
    · exact s3.trans (same_new nex)
end

/-! ### marks of unlike names, up to the ninth power -/
def nas (l : List Int) : List Nat := l.map Int.natAbs
structure Un (ms : List Int) : Prop where
  nd : (nas ms).Nodup
  nz : ∀ x ∈ ms, x ≠ 0
  lim : ∀ x ∈ ms, x.natAbs ≤ 10 ^ 12
theorem Un.nodup {ms : List Int} (h : Un ms) : ms.Nodup := by
  have := h.nd
  unfold nas at this
  exact (List.pairwise_map.mp this).imp fun h e => h (by rw [e])
theorem nas_one : ∀ {l : List Int}, (nas l).Nodup → ∀ x ∈ l, ∀ y ∈ l, x.natAbs = y.natAbs → x = y
  | a :: r, h, x, hx, y, hy, e => by
    have h' := List.nodup_cons.mp (show (a.natAbs :: nas r).Nodup from h)
    rcases List.mem_cons.mp hx with rfl | hx'
    · rcases List.mem_cons.mp hy with rfl | hy'
      · rfl
      · exact absurd (show x.natAbs ∈ nas r from List.mem_map.mpr ⟨y, hy', e.symm⟩) h'.1
    · rcases List.mem_cons.mp hy with rfl | hy'
      · exact absurd (show y.natAbs ∈ nas r from List.mem_map.mpr ⟨x, hx', e⟩) h'.1
      · exact nas_one h'.2 x hx' y hy' e
theorem Un.con {ms : List Int} (h : Un ms) {x : Int} (hx : x ∈ ms) : -x ∉ ms := fun z => by
  have e := nas_one h.nd x hx (-x) z (by omega)
  have := h.nz x hx
  omega
theorem Un.of_perm {ms ys : List Int} (h : Un ms) (p : (nas ys).Perm (nas ms)) : Un ys := by
  refine ⟨(p.nodup_iff).mpr h.nd, fun x hx z => ?_, fun x hx => ?_⟩
  · subst z
    have := p.mem_iff.mp (List.mem_map.mpr ⟨0, hx, rfl⟩)
    obtain ⟨y, hy, e⟩ := List.mem_map.mp this
    have := h.nz y hy
    omega
  · obtain ⟨y, hy, e⟩ := List.mem_map.mp (p.mem_iff.mp (List.mem_map.mpr ⟨x, hx, rfl⟩))
    have := h.lim y hy
    omega
/-- a clause of marks of these names -/
structure ClM (ms c : List Int) : Prop where
  nd : (nas c).Nodup
  sub : ∀ x ∈ c, ∃ y ∈ ms, x.natAbs = y.natAbs
theorem ClM.nodup {ms c : List Int} (h : ClM ms c) : c.Nodup := by
  have := h.nd
  unfold nas at this
  exact (List.pairwise_map.mp this).imp fun h e => h (by rw [e])
theorem ClM.nz {ms c : List Int} (h : ClM ms c) (u : Un ms) {x : Int} (hx : x ∈ c) : x ≠ 0 := by
  obtain ⟨y, hy, e⟩ := h.sub x hx
  have := u.nz y hy
  omega
theorem ClM.nil (ms : List Int) : ClM ms [] := ⟨List.nodup_nil, fun x hx => by cases hx⟩
theorem ClM.of_perm {ms ys ss : List Int} (h : Un ms) (p : (nas ys ++ nas ss).Perm (nas ms)) : ClM ms ys := by
  have n := (p.nodup_iff).mpr h.nd
  refine ⟨n.sublist (List.sublist_append_left _ _), fun x hx => ?_⟩
  obtain ⟨y, hy, e⟩ := List.mem_map.mp (p.mem_iff.mp (List.mem_append_left _ (List.mem_map.mpr ⟨x, hx, rfl⟩)))
  exact ⟨y, hy, e.symm⟩
theorem ClM.of_nas {ms c d : List Int} (h : ClM ms c) (e : nas d = nas c) : ClM ms d := by
  refine ⟨by rw [e]; exact h.nd, fun x hx => ?_⟩
  have : x.natAbs ∈ nas d := List.mem_map.mpr ⟨x, hx, rfl⟩
  rw [e] at this
  obtain ⟨y, hy, ey⟩ := List.mem_map.mp this
  obtain ⟨z, hz, ez⟩ := h.sub y hy
  exact ⟨z, hz, by omega⟩
theorem nas_snoc (l : List Int) (y : Int) : nas (l ++ [y]) = nas l ++ [y.natAbs] := by
  unfold nas
  rw [List.map_append]
  rfl
theorem erase_perm : ∀ (l : List Int) (r : Nat) (h : r < l.length), (l[r] :: l.eraseIdx r).Perm l
  | a :: t, 0, _ => List.Perm.refl _
  | a :: t, r + 1, h => (List.Perm.swap a _ _).trans ((List.perm_cons a).mpr (erase_perm t r (by simpa using h)))
theorem perm_move {ys ss : List Int} {r : Nat} (hr : r < ss.length) {y : Int} (e : y.natAbs = ss[r].natAbs) : (nas (ys ++ [y]) ++ nas (ss.eraseIdx r)).Perm (nas ys ++ nas ss) := by
  rw [nas_snoc, e, List.append_assoc]
  refine List.Perm.append_left _ ?_
  have p := (erase_perm ss r hr).map Int.natAbs
  exact p
theorem dec61 : ∀ b : Fin 61, ∀ d : Fin 61, 0 < b.val → 0 < d.val → b.val * d.val % 61 ≠ 0 := by decide +kernel
theorem inj61 {B : Int} {i j : Nat} (h0 : 1 ≤ B) (h1 : B ≤ 60) (hi : i < 61) (hij : j < i) : B * (i : Int) % 61 ≠ B * (j : Int) % 61 := fun e => by
  have d := dec61 ⟨B.toNat, by omega⟩ ⟨i - j, by omega⟩ (by show 0 < B.toNat; omega) (by show 0 < i - j; omega)
  have s : B * (i : Int) = B * (j : Int) + B * ((i - j : Nat) : Int) := by
    rw [← Int.mul_add]
    congr 1
    omega
  have eB : ((B.toNat : Nat) : Int) = B := by omega
  have m : B * ((i - j : Nat) : Int) % 61 = 0 := by
    rw [s] at e
    generalize B * (j : Int) = x at e
    generalize B * ((i - j : Nat) : Int) = y at e ⊢
    omega
  apply d
  have : ((B.toNat * (i - j) % 61 : Nat) : Int) = 0 := by
    rw [Int.natCast_emod, Int.natCast_mul, eB]
    exact m
  exact Int.ofNat.inj this
theorem names_nd {z4 z2 B : Int} {n : Nat} (hz4 : 1 ≤ z4) (hz2 : 1 ≤ z2) (h0 : 1 ≤ B) (h1 : B ≤ 60) (hn : n ≤ 61) : (nas ((List.range n).map fun (i : Nat) => z4 + z2 * (B * (0 + (i : Int)) % 61))).Nodup ∧
    ∀ x ∈ (List.range n).map (fun (i : Nat) => z4 + z2 * (B * (0 + (i : Int)) % 61)), x ≠ 0 := by
  have pos : ∀ i : Nat, 0 ≤ z2 * (B * (0 + (i : Int)) % 61) := fun i => Int.mul_nonneg (by omega) (Int.emod_nonneg _ (by decide))
  refine ⟨?_, fun x hx => ?_⟩
  · unfold nas
    rw [List.map_map]
    refine List.pairwise_map.mpr ((List.pairwise_lt_range (n := n)).imp_of_mem fun {a b} ha hb hab e => ?_)
    have hb' := List.mem_range.mp hb
    have e' : z4 + z2 * (B * (0 + (a : Int)) % 61) = z4 + z2 * (B * (0 + (b : Int)) % 61) := by
      have e : (z4 + z2 * (B * (0 + (a : Int)) % 61)).natAbs = (z4 + z2 * (B * (0 + (b : Int)) % 61)).natAbs := e
      have p1 := pos a
      have p2 := pos b
      omega
    have e2 : B * (0 + (a : Int)) % 61 = B * (0 + (b : Int)) % 61 := by
      have e3 : z2 * (B * (0 + (a : Int)) % 61) = z2 * (B * (0 + (b : Int)) % 61) := by omega
      exact Int.eq_of_mul_eq_mul_left (by omega) e3
    rw [Int.zero_add, Int.zero_add] at e2
    exact inj61 h0 h1 (by omega) hab e2.symm
  · obtain ⟨i, _, rfl⟩ := List.mem_map.mp hx
    have := pos i
    omega
theorem names_lim {z4 z2 B : Int} {n : Nat} (h4 : z4 + z2 * 60 ≤ 10 ^ 9) (hz4 : 1 ≤ z4) (hz2 : 1 ≤ z2) : ∀ x ∈ (List.range n).map (fun (i : Nat) => z4 + z2 * (B * (0 + (i : Int)) % 61)), x.natAbs ≤ 10 ^ 9 := fun x hx => by
  obtain ⟨i, _, rfl⟩ := List.mem_map.mp hx
  have a : 0 ≤ z2 * (B * (0 + (i : Int)) % 61) := Int.mul_nonneg (by omega) (Int.emod_nonneg _ (by decide))
  have b : z2 * (B * (0 + (i : Int)) % 61) ≤ z2 * 60 := Int.mul_le_mul_of_nonneg_left (Int.le_of_lt_add_one (Int.emod_lt_of_pos _ (by decide))) (by omega)
  generalize z2 * (B * (0 + (i : Int)) % 61) = y at a b
  omega
theorem Tape.cs {H H' : Hp} {t c a : Addr} {n : Nat} {qs : List Addr} {cs : List (List Int)} (h : Tape H t c n) (e : Cs H a qs cs) (k : Kp t H H') : Cs H' a qs cs := by
  obtain ⟨ns, spot, left, tc, _⟩ := h
  exact e.kp tc.d k
theorem Cs.snoc {H : Hp} {a q : Addr} {qs : List Addr} {cs : List (List Int)} {c : List Int} (h : Cs H a qs cs) (hq : H q = some (.tup (c.map V.int))) : Cs (upd H a (.lst (qs.map V.ref ++ [.ref q]))) a (qs ++ [q]) (cs ++ [c]) := by
  have hn := h.n
  refine ⟨by rw [upd_same, List.map_append]; rfl, by rw [List.length_append, List.length_append, hn]; rfl, fun i p d hp hd => ?_⟩
  have g : H p = some (.tup (d.map V.int)) := by
    rcases getElem_snoc hp with ⟨_, e⟩ | ⟨e1, rfl⟩
    · rcases getElem_snoc hd with ⟨_, e2⟩ | ⟨e2, _⟩
      · exact h.t i p d e e2
      · omega
    · rcases getElem_snoc hd with ⟨e2, _⟩ | ⟨_, rfl⟩
      · omega
      · exact hq
  rw [upd_ne (ne_of g h.l (by intro z; cases z))]
  exact g
theorem ins_at {α : Type} {xs : List α} {x y : α} {j i : Nat} (hj : j ≤ xs.length) (h : (xs.take j ++ [x] ++ xs.drop j)[i]? = some y) : (i < j ∧ xs[i]? = some y) ∨ (i = j ∧ x = y) ∨ (j < i ∧ xs[i - 1]? = some y) := by
  have lt : (xs.take j).length = j := by
    rw [List.length_take]
    omega
  rcases Nat.lt_trichotomy i j with c | c | c
  · rw [List.append_assoc, List.getElem?_append_left (by omega), List.getElem?_take, if_pos c] at h
    exact .inl ⟨c, h⟩
  · subst c
    rw [List.append_assoc, List.getElem?_append_right (by omega), lt, Nat.sub_self] at h
    exact .inr (.inl ⟨rfl, Option.some.inj h⟩)
  · rw [List.getElem?_append_right (by rw [List.length_append, lt]; exact c), List.length_append, lt, List.getElem?_drop] at h
    refine .inr (.inr ⟨c, ?_⟩)
    rw [← h]
    congr 1
    show i - 1 = j + (i - (j + 1))
    omega
theorem Cs.insert {H : Hp} {a q : Addr} {qs : List Addr} {cs : List (List Int)} {c : List Int} {j : Nat} (h : Cs H a qs cs) (hj : j ≤ cs.length) (hq : H q = some (.tup (c.map V.int))) :
    Cs (upd H a (.lst ((qs.map V.ref).take j ++ [.ref q] ++ (qs.map V.ref).drop j))) a (qs.take j ++ [q] ++ qs.drop j) (cs.take j ++ [c] ++ cs.drop j) := by
  have hn := h.n
  refine ⟨by rw [upd_same, List.map_append, List.map_append, List.map_take, List.map_drop]; rfl, by simp only [List.length_append, List.length_take, List.length_drop, hn]; rfl, fun i p d hp hd => ?_⟩
  have g : H p = some (.tup (d.map V.int)) := by
    rcases ins_at (by omega) hp with ⟨c1, e⟩ | ⟨c1, rfl⟩ | ⟨c1, e⟩
    · rcases ins_at hj hd with ⟨_, e2⟩ | ⟨e2, _⟩ | ⟨e2, _⟩
      · exact h.t i p d e e2
      · omega
      · omega
    · rcases ins_at hj hd with ⟨e2, _⟩ | ⟨_, rfl⟩ | ⟨e2, _⟩
      · omega
      · exact hq
      · omega
    · rcases ins_at hj hd with ⟨e2, _⟩ | ⟨e2, _⟩ | ⟨_, e2⟩
      · omega
      · omega
      · exact h.t (i - 1) p d e e2
  rw [upd_ne (ne_of g h.l (by intro z; cases z))]
  exact g
def spFar : Sp := fun vs H Q _ => ∃ (t c : Addr) (m : Int) (n : Nat), vs = [.ref t, .int m] ∧ Tape H t c n ∧ n < 1000000 ∧ 0 ≤ m ∧ m ≤ 61 ∧
  ∀ (H' : Hp) (p : Addr) (ms : List Int), H p = none → H' p = some (.lst (ms.map V.int)) → ms.length = m.toNat → Un ms → (∀ x ∈ ms, x.natAbs ≤ 10 ^ 9) → Tape H' t c (n + 110) → Kp t H H' → Q (.ref p) H'
section
variable {P : Program} {w : World} {K : PySem.W.Frag} {mg : Str → Option Value} {base : Heap}
theorem has_far {cs : Nat → Addr} (T : Top K mg cs) (h__law_draw : Has P w K mg base 1 "_law_draw" ["_law_tape", "_law_many"] spDraw) (h__law_pick : Has P w K mg base 2 "_law_pick" ["_law_tape", "_law_some"] (spPick K)) :
    Has P w K mg base 3 "_law_marks" ["_law_tape", "_law_many"] spFar := by
  refine has_of T.d__law_marks sc__law_marks bd__law_marks (fun vs H Q E h => ?_) (fun f cdv A outer s H vs Q E hr h => ?_)
  · obtain ⟨t, c, m, n, rfl, _⟩ := h
    rfl
  · have hu := hu_of hr
    have nd := sc__law_marks.nd
    obtain ⟨t, c, m, n, rfl, tp, hn, hm0, hm1, k⟩ := h
    refine ⟨_, (pss_cons (ps_asg (pe_tup (pa_cons (pe_op op_add pe_int (pe_has h__law_draw (hr.mono (by omega)) (by rfl) (pa_cons (pv 0) (pa_cons pe_int pa_nil)))) (pa_cons (pe_has h__law_pick (hr.mono (by omega)) (by rfl) (pa_cons (pv 0) (pa_cons (pe_lst (pa_cons pe_int (pa_cons pe_int (pa_cons pe_int (pa_cons pe_int pa_nil))))) pa_nil))) pa_nil))) (pg_tup (by rfl) (pgs_cons (pg_name (i := 2) nd rfl (.inr rfl)) (pgs_cons (pg_name (i := 3) nd rfl (.inr rfl)) pgs_nil))))
    (pss_cons (ps_set (i := 4) nd rfl (.inr rfl) (pe_has h__law_pick (hr.mono (by omega)) (by rfl) (pa_cons (pv 0) (pa_cons (pe_lst (pa_cons pe_int (pa_cons pe_int (pa_cons pe_int (pa_cons (pe_op op_add pe_int (pe_has h__law_draw (hr.mono (by omega)) (by rfl) (pa_cons (pv 0) (pa_cons pe_int pa_nil)))) (pa_cons (pe_op op_sub (pe_op op_pow pe_int pe_int) (pe_op op_mul pe_int (pv 3))) pa_nil)))))) pa_nil))))
    (pss_cons (ps_asg (pe_tup (pa_cons (pe_lc (own := [("_law_k", 8)]) (by rfl) nd (pi_range1 (by rfl) T.b_range (pa_cons (pv 1) pa_nil)) (blkOk_by (own := [("_law_k", 8)]) (N := nm__law_marks) (sc := defScope s__law_marks) (by decide +kernel)) (fun _ _ _ _ _ => pg_name (i := 8) nd rfl (.inl rfl)) (fun _ _ _ _ _ => pts_nil) (fun _ _ _ _ _ => (pe_op op_add (pv 4) (pe_op op_mul (pv 3) (pe_op op_mod (pe_op op_mul (pv 2) (pv 8)) pe_int))))) (pa_cons (pe_has h__law_pick (hr.mono (by omega)) (by rfl) (pa_cons (pv 0) (pa_cons (pe_lst (pa_cons pe_int (pa_cons pe_int (pa_cons pe_int (pa_cons pe_int pa_nil))))) pa_nil))) pa_nil))) (pg_tup (by rfl) (pgs_cons (pg_name (i := 5) nd rfl (.inl rfl)) (pgs_cons (pg_name (i := 6) nd rfl (.inr rfl)) pgs_nil))))
    (pss_one (ps_ret (pe_lc (own := [("_law_name", 7)]) (by rfl) nd (pi_list (pv 5)) (blkOk_by (own := [("_law_name", 7)]) (N := nm__law_marks) (sc := defScope s__law_marks) (by decide +kernel)) (fun _ _ _ _ _ => pg_name (i := 7) nd rfl (.inl rfl)) (fun _ _ _ _ _ => pts_nil) (fun _ _ _ _ _ => (pe_ifExp (pt_cmpR op_lt (pe_has h__law_draw (hr.mono (by omega)) (by rfl) (pa_cons (pv 0) (pa_cons (pv 6) pa_nil))) (pe_op op_sub pe_int (pe_op op_fdivW (pv 6) pe_int)) (nomark _)) (pv 7) (pe_op op_sub pe_int (pv 7)))))))))), ?_⟩
    have cp : ∀ z : Int, 0 ≤ z → z ≤ 1000000 → CPow 10 z := fun z h0 h1 => ⟨h0, h1, by decide⟩
    refine ⟨_, rfl, t, c, _, n, rfl, tp, by omega, by decide, by decide +kernel, fun H1 r1 a1 b1 tp1 kp1 => ⟨_, _, rfl, rfl, _, rfl, by show 4 ≤ sizeLine; decide, fun d1 h1 => ?_⟩⟩
    refine ⟨t, c, d1, _, n + 1, rfl, tp1.new h1, by omega, fun H' kp => .inl (SqL.of (kp d1 _ upd_same (tp1.fresh h1))), by show 0 < 4; decide, by show 4 ≤ 1000000; decide, fun H2 i2 v2 g2 tp2 kp2 => ?_⟩
    obtain ⟨z2, rfl, m2⟩ := pick_int (zs := [1, 1, 7, 16000000]) g2
    have z2b : 1 ≤ z2 ∧ z2 ≤ 16000000 := by
      simp only [List.mem_cons, List.not_mem_nil, or_false] at m2
      omega
    refine ⟨by show 2 ≤ sizeLine; decide, fun q2 hq2 => ⟨q2, _, rfl, SqT.of upd_same, rfl, _, _, rfl, _, _, rfl, rfl, ?_⟩⟩
    have t2 := tp2.new (o := .tup [V.int (1 + r1), V.int z2]) hq2
    -- first
    refine ⟨_, rfl, _, rfl, t, c, _, n + 2, rfl, t2, by omega, by decide, by decide +kernel, fun H3 r3 a3 b3 tp3 kp3 => ⟨_, _, rfl, rfl, _, _, rfl, rfl, cp _ (by decide) (by decide), _, rfl, _, _, rfl, rfl, .inl ⟨by decide, by decide⟩, _, _, rfl, rfl, by show 5 ≤ sizeLine; decide, fun d3 h3 => ?_⟩⟩
    refine ⟨t, c, d3, _, n + 3, rfl, tp3.new h3, by omega, fun H' kp => .inl (SqL.of (kp d3 _ upd_same (tp3.fresh h3))), by show 0 < 5; decide, by show 5 ≤ 1000000; decide, fun H4 i4 v4 g4 tp4 kp4 => ?_⟩
    obtain ⟨z4, rfl, m4⟩ := pick_int (zs := [1, 5, 95, 1 + r3, 10 ^ (9 : Int).toNat - 60 * z2]) g4
    -- names
    refine ⟨_, rfl, m, rfl, by omega, by omega, fun D hD => lc_sel_range (lo := 0) (fun _ => true) (fun i => .int (z4 + z2 * ((1 + r1) * (0 + (i : Int)) % 61))) hD (by omega) (fun i hi => ?_) fun H5 s5 h5 => ?_⟩
    · exact ⟨rfl, fun H' s' R g => g H' (Same.refl _), fun _ H' s' R g => ⟨_, rfl, _, rfl, _, rfl, _, rfl, _, _, rfl, rfl, .inl ⟨by omega, by omega⟩, _, _, rfl, rfl, by show (0 : Int) < 61; decide, _, _, rfl, rfl, .inl ⟨by omega, by omega⟩, _, _, rfl, rfl, g H' (Same.refl _)⟩⟩
    rw [filter_all] at h5
    have h5 : H5 D = some (.lst (((List.range m.toNat).map fun (i : Nat) => z4 + z2 * ((1 + r1) * (0 + (i : Int)) % 61)).map V.int)) := by
      rw [h5, List.map_map]
      rfl
    have l5 : ((List.range m.toNat).map fun (i : Nat) => z4 + z2 * ((1 + r1) * (0 + (i : Int)) % 61)).length = m.toNat := by rw [List.length_map, List.length_range]
    have z4b : 1 ≤ z4 := by
      simp only [List.mem_cons, List.not_mem_nil, or_false] at m4
      have p12 : (10 : Int) ^ (9 : Int).toNat = 1000000000 := by decide
      omega
    have z4c : z4 + z2 * 60 ≤ 10 ^ 9 := by
      simp only [List.mem_cons, List.not_mem_nil, or_false] at m4
      have p12 : (10 : Int) ^ (9 : Int).toNat = 1000000000 := by decide
      omega
    have nnm := names_nd (z4 := z4) (z2 := z2) (B := 1 + r1) (n := m.toNat) z4b (by omega) (by omega) (by omega) (by omega)
    have nnl := names_lim (z4 := z4) (z2 := z2) (B := 1 + r1) (n := m.toNat) z4c z4b (by omega)
    generalize ((List.range m.toNat).map fun (i : Nat) => z4 + z2 * ((1 + r1) * (0 + (i : Int)) % 61)) = nm at h5 l5 nnm nnl
    have t5 := tp4.same s5
    refine ⟨_, rfl, by show 4 ≤ sizeLine; decide, fun d6 h6 => ?_⟩
    refine ⟨t, c, d6, _, n + 4, rfl, t5.new h6, by omega, fun H' kp => .inl (SqL.of (kp d6 _ upd_same (t5.fresh h6))), by show 0 < 4; decide, by show 4 ≤ 1000000; decide, fun H6 i6 v6 g6 tp6 kp6 => ?_⟩
    obtain ⟨z6, rfl, m6⟩ := pick_int (zs := [1, 2, 2, 3]) g6
    have z6b : 1 ≤ z6 ∧ z6 ≤ 3 := by
      simp only [List.mem_cons, List.not_mem_nil, or_false] at m6
      omega
    have k56 : Kp t H5 H6 := (Kp.new h6).trans kp6
    refine ⟨by show 2 ≤ sizeLine; decide, fun q7 hq7 => ⟨q7, _, rfl, SqT.of upd_same, rfl, _, _, rfl, _, _, rfl, rfl, ?_⟩⟩
    have t7 := tp6.new (o := .tup [V.ref D, V.int z6]) hq7
    have h7 := same_new (o := .tup [V.ref D, V.int z6]) hq7 _ _ (t5.sq h5 k56)
    have k07 : Kp t H (upd H6 q7 (.tup [V.ref D, V.int z6])) := kp1.trans ((Kp.new h1).trans (kp2.trans ((Kp.new hq2).trans (kp3.trans ((Kp.new h3).trans (kp4.trans ((Kp.same s5).trans (k56.trans (Kp.new hq7)))))))))
    generalize upd H6 q7 (.tup [V.ref D, V.int z6]) = H7 at t7 h7 k07
    -- signs
    refine ⟨_, rfl, D, rfl, ⟨_, SqL.of h7⟩, fun Z hZ => lc_list (xs := nm.map V.int) (fun i H' => Kp t H7 H' ∧ Tape H' t c (n + 5 + i) ∧ ∃ is : List Int, is.length = i ∧ nas is = nas (nm.take i) ∧ H' Z = some (.lst (is.map V.int))) ⟨Kp.new hZ, t7.new hZ, [], rfl, rfl, upd_same⟩ ?_ ?_ ?_⟩
    · rintro i H' _ ⟨kp, _, _⟩
      exact SqL.of (t7.sq h7 kp)
    · rintro i x H8 hi ⟨k8, t8, is, el, en, h8⟩
      obtain ⟨y, rfl, hy⟩ := int_at hi
      have li : i < nm.length := (List.getElem?_eq_some_iff.mp hy).1
      have nZt : Z ≠ t := t7.fresh hZ
      have nZc : Z ≠ c := t7.fresh_c hZ
      refine ⟨rfl, yes_go ⟨_, rfl, _, rfl, t, c, z6, n + 5 + i, rfl, t8, by omega, by omega, pow8000 (by omega), fun H9 r9 a9 b9 tp9 kp9 => ⟨_, rfl, _, _, rfl, rfl, ⟨by decide, by decide⟩, _, _, rfl, rfl, _, _, rfl, rfl, _, rfl, ?_⟩⟩⟩
      have h9 := kp9 Z _ h8 nZt
      have fin : ∀ y' : Int, y'.natAbs = y.natAbs → ∃ acc, H9 Z = some (.lst acc) ∧ acc.length < sizeLine ∧ Kp t H7 (upd H9 Z (.lst (acc ++ [V.int y']))) ∧ Tape (upd H9 Z (.lst (acc ++ [V.int y']))) t c (n + 5 + (i + 1)) ∧ ∃ is : List Int, is.length = i + 1 ∧ nas is = nas (nm.take (i + 1)) ∧ (upd H9 Z (.lst (acc ++ [V.int y']))) Z = some (.lst (is.map V.int)) := fun y' ey => by
        refine ⟨is.map V.int, h9, ?_, (k8.trans kp9).mut hZ, tp9.mut nZt nZc, is ++ [y'], by rw [List.length_append, el]; rfl, by rw [nas_snoc, en, take_snoc hy, nas_snoc, ey], ?_⟩
        · have line : 1000000 < sizeLine := by decide
          rw [List.length_map, el]
          omega
        · rw [upd_same, List.map_append]
          rfl
      refine ite2 (fun _ => ?_) (fun _ => ?_)
      · exact ⟨_, rfl, fin y rfl⟩
      · exact ⟨_, rfl, _, _, rfl, rfl, fin (0 - y) (by omega)⟩
    · rintro H8 ⟨k8, t8, is, el, en, h8⟩
      rw [List.length_map] at el t8
      rw [List.length_map, List.take_length] at en
      have un : Un is := Un.of_perm (ms := nm) ⟨nnm.1, nnm.2, fun x hx => Nat.le_trans (nnl x hx) (by decide)⟩ (by rw [en])
      have lim9 : ∀ x ∈ is, x.natAbs ≤ 10 ^ 9 := fun x hx => by
        have m : x.natAbs ∈ nas nm := by
          rw [← en]
          exact List.mem_map.mpr ⟨x, hx, rfl⟩
        obtain ⟨y, hy, e⟩ := List.mem_map.mp m
        rw [← e]
        exact nnl y hy
      exact k H8 Z is (k07.free hZ (t7.fresh hZ)) h8 (by omega) un lim9 (t8.le (by omega)) (k07.trans k8)
end

/-! ### things in a drawn order -/
theorem er_map {α β : Type} (f : α → β) : ∀ (l : List α) (j : Nat), (l.map f).eraseIdx j = (l.eraseIdx j).map f
  | [], _ => rfl
  | _ :: _, 0 => rfl
  | x :: r, j + 1 => by
    show f x :: (r.map f).eraseIdx j = f x :: (r.eraseIdx j).map f
    rw [er_map f r j]
theorem er_perm {α : Type} : ∀ (l : List α) (j : Nat) (h : j < l.length), ([l[j]] ++ l.eraseIdx j).Perm l
  | [], _, h => absurd h (Nat.not_lt_zero _)
  | _ :: _, 0, _ => List.Perm.refl _
  | x :: r, j + 1, h => by
    have ih := er_perm r j (Nat.lt_of_succ_lt_succ h)
    show (r[j]'(Nat.lt_of_succ_lt_succ h) :: x :: r.eraseIdx j).Perm (x :: r)
    exact (List.Perm.swap _ _ _).trans (ih.cons x)
def spShuf : Sp := fun vs H Q _ => ∃ (t c p : Addr) (xs : List Int) (n : Nat), vs = [.ref t, .ref p] ∧ Tape H t c n ∧ n < 900000 ∧ H p = some (.lst (xs.map V.int)) ∧ xs.length ≤ 100 ∧
  ∀ (H' : Hp) (q : Addr) (ys : List Int), H q = none → H' q = some (.lst (ys.map V.int)) → ys.Perm xs → Tape H' t c (n + xs.length) → Kp t H H' → Q (.ref q) H'
section
variable {P : Program} {w : World} {K : PySem.W.Frag} {mg : Str → Option Value} {base : Heap}
theorem has_shuf {cs : Nat → Addr} (T : Top K mg cs) (h__law_draw : Has P w K mg base 1 "_law_draw" ["_law_tape", "_law_many"] spDraw) : Has P w K mg base 2 "_law_shuffled" ["_law_tape", "_law_some"] spShuf := by
  refine has_of T.d__law_shuffled sc__law_shuffled bd__law_shuffled (fun vs H Q E h => ?_) (fun f cdv A outer s H vs Q E hr h => ?_)
  · obtain ⟨t, c, p, xs, n, rfl, _⟩ := h
    rfl
  · have hu := hu_of hr
    have nd := sc__law_shuffled.nd
    obtain ⟨t, c, p, xs, n, rfl, tp, hn, hp, few, k⟩ := h
    refine ⟨_, (pss_cons (ps_par (i := 2) (j := 3) (by rfl) nd rfl rfl (by decide) rfl rfl (pa_cons (pe_callTy call_list_of (by rfl) T.b_list (by decide +kernel) (pa_cons (pv 1) pa_nil)) (pa_cons (pe_lst pa_nil) pa_nil)) (by rfl))
    (pss_cons (ps_while PassesOwn.never (pt_cmpR (op_neNil hu) (pv 2) (pe_lst pa_nil) (nomark _)) (pss_one (ps_expr (pe_bm PySem.F.plainAttrs_list PySem.F.slot_list_append PySem.F.type_list_append mt_append (pv 3) (pa_cons (pe_bm PySem.F.plainAttrs_list PySem.F.slot_list_pop PySem.F.type_list_pop mt_popAt (pv 2) (pa_cons (pe_has h__law_draw (hr.mono (by omega)) (by rfl) (pa_cons (pv 0) (pa_cons (pe_callB call_len_seq (by rfl) T.b_len (by decide +kernel) (pa_cons (pv 2) pa_nil)) pa_nil))) pa_nil)) pa_nil)))))
    (pss_one (ps_ret (pv 3))))), ?_⟩
    have line : (5000000 : Nat) < sizeLine := by decide
    refine ⟨_, rfl, p, _, rfl, .inl (SqL.of hp), fun L nL => ⟨by show 0 ≤ sizeLine; decide, fun F nF => ⟨_, _, rfl, ?_⟩⟩⟩
    have LF : L ≠ F := fun z => by
      rw [z, upd_same] at nF
      cases nF
    have hL2 : (upd (upd H L (.lst (xs.map V.int))) F (.lst [])) L = some (.lst (xs.map V.int)) := same_new nF _ _ upd_same
    have hF2 : (upd (upd H L (.lst (xs.map V.int))) F (.lst [])) F = some (.lst ([].map V.int)) := upd_same
    have nF0 : H F = none := same_freeX (same_new nL) nF
    have tp2 := (tp.new (o := .lst (xs.map V.int)) nL).new (o := .lst []) nF
    have k2 : Kp t H (upd (upd H L (.lst (xs.map V.int))) F (.lst [])) := (Kp.new nL).trans (Kp.new nF)
    have Lt : L ≠ t := tp.fresh nL
    have Lc : L ≠ c := tp.fresh_c nL
    have Ft : F ≠ t := tp.fresh nF0
    have Fc : F ≠ c := tp.fresh_c nF0
    generalize upd (upd H L (.lst (xs.map V.int))) F (.lst []) = H2 at hL2 hF2 tp2 k2
    refine ⟨fun m σ H' => ∃ (ls fs : List Int), σ = [some (.ref t), some (.ref p), some (.ref L), some (.ref F)] ∧ H' L = some (.lst (ls.map V.int)) ∧ H' F = some (.lst (fs.map V.int)) ∧ (fs ++ ls).Perm xs ∧ m = ls.length ∧ Tape H' t c (n + fs.length) ∧ Kp t H H',
      ⟨_, xs, [], rfl, hL2, hF2, List.Perm.refl _, rfl, tp2, k2⟩, ?_⟩
    rintro m σ H3 ⟨ls, fs, rfl, hL, hF, pm, rfl, tp3, k3⟩
    have lp := pm.length_eq
    rw [List.length_append] at lp
    refine ⟨_, rfl, by show 0 ≤ sizeLine; decide, fun N nN => ⟨L, N, _, rfl, rfl, SqL.of (same_new nN _ _ hL), SqL.of upd_same, _, rfl, ?_⟩⟩
    have hL4 := same_new (o := .lst []) nN _ _ hL
    have hF4 := same_new (o := .lst []) nN _ _ hF
    have tp4 := tp3.new (o := .lst []) nN
    have k4 : Kp t H (upd H3 N (.lst [])) := k3.trans (Kp.new nN)
    generalize upd H3 N (.lst []) = H4 at hL4 hF4 tp4 k4
    cases ls with
    | nil =>
      refine iteF ⟨_, rfl, ?_⟩
      rw [List.append_nil] at pm
      exact k H4 F fs nF0 hF4 pm (by rw [← pm.length_eq]; exact tp4) k4
    | cons l0 lr =>
      refine iteT ⟨_, fun σ' H' h => h, ?_⟩
      refine ⟨_, rfl, .inl ⟨rfl, _, SqL.of hF4⟩, _, rfl, .inl ⟨rfl, _, SqL.of hL4⟩, _, rfl, _, rfl, L, _, rfl, .inl (SqL.of hL4), t, c, _, _, rfl, tp4, by omega, by rw [List.length_map, List.length_cons]; omega, pow8000 (by rw [List.length_map]; omega), fun H5 r a b tp5 kp5 => ?_⟩
      have hL5 := tp4.sq hL4 kp5
      have hF5 := tp4.sq hF4 kp5
      rw [List.length_map] at b
      obtain ⟨j, rfl⟩ : ∃ j : Nat, r = (j : Int) := ⟨r.toNat, by omega⟩
      have hj : j < (l0 :: lr).length := by omega
      refine ⟨L, (l0 :: lr).map V.int, (j : Int), j, .int (l0 :: lr)[j], rfl, rfl, hL5, by omega, by omega, ?_, by rw [List.getElem?_map, List.getElem?_eq_getElem hj]; rfl, ?_⟩
      · rw [List.length_map]
        exact seqIndex_of (by omega) (by omega)
      have e1 : ((l0 :: lr).map V.int).eraseIdx j = ((l0 :: lr).eraseIdx j).map V.int := er_map _ _ _
      rw [e1]
      have hF6 : (upd H5 L (.lst (((l0 :: lr).eraseIdx j).map V.int))) F = some (.lst (fs.map V.int)) := by
        rw [upd_ne LF.symm]
        exact hF5
      refine ⟨F, fs.map V.int, _, rfl, rfl, hF6, by rw [List.length_map]; omega, ?_⟩
      have le := List.length_eraseIdx_of_lt hj
      refine ⟨_, ?_, (l0 :: lr).eraseIdx j, fs ++ [(l0 :: lr)[j]], rfl, ?_, ?_, ?_, rfl, ?_, ?_⟩
      · rw [le]
        show lr.length + 1 - 1 < lr.length + 1
        omega
      · rw [upd_ne LF]
        exact upd_same
      · rw [upd_same, List.map_append]
        rfl
      · refine List.Perm.trans ?_ pm
        rw [List.append_assoc]
        refine List.Perm.append_left fs ?_
        exact er_perm _ _ hj
      · rw [List.length_append, List.length_singleton]
        exact ((tp5.mut Lt Lc).mut Ft Fc).le (by omega)
      · exact ((k4.trans kp5).mut nL).mut nF0
end

/-! ### what the law draws: stretches, bent settings -/
theorem pe_wk {X : Cx} {e : Expr} {t : TE} (u : TE) (h : PE X e t) (hw : ∀ σ H R, u σ H R → t σ H R) : PE X e u := ⟨fun pins s σ H Q I hq => h.run pins s σ H Q I (hw σ H Q hq)⟩
def uHere (ms : List Int) (most : Nat) : TE := fun σ H Q => ∃ (a b : Addr) (vs : List V) (i : Nat), σ[1]? = some (some (.ref a)) ∧ σ[2]? = some (some (.int (most : Int))) ∧ σ[3]? = some (some (.ref b)) ∧ σ[5]? = some (some (.int (i : Int))) ∧ H a = some (.lst (ms.map V.int)) ∧ ms.Nodup ∧ H b = some (.lst vs) ∧ SlA H ms vs ∧ ∀ H' v, Same H H' → Sl H' ms v → Q v H'
def spBent : Sp := fun vs H Q _ => ∃ (t c a b : Addr) (ms : List Int) (most n : Nat) (qs : List Addr) (ss : List (List Int)), vs = [.ref t, .ref a, .int most, .ref b] ∧ Tape H t c n ∧ n < 800000 ∧ H a = some (.lst (ms.map V.int)) ∧ 1 ≤ ms.length ∧ ms.length ≤ 60 ∧ ms.Nodup ∧ most ≤ 1000 ∧ Ls H b qs ss ∧ ss.length ≤ 100000 ∧ SetsOf ms ss ∧
  ∀ (H' : Hp) (D : Addr) (qs' : List Addr) (ss' : List (List Int)), Tape H' t c (n + 5) → Kp t H H' → Ls H' D qs' ss' → ss'.length ≤ ss.length + 2 → SetsOf ms ss' → Q (.ref D) H'
def spAny : Sp := fun vs H Q _ => ∃ (t c : Addr) (n : Nat), vs = [.ref t] ∧ Tape H t c n ∧ n < 500000 ∧ ∀ H', Tape H' t c (n + 2000) → Kp t H H' → Q (.bl true) H'
section
variable {P : Program} {w : World} {K : PySem.W.Frag} {mg : Str → Option Value} {base : Heap}
theorem has_stretches (T : Top K mg cs) (h__law_draw : Has P w K mg base 1 "_law_draw" ["_law_tape", "_law_many"] spDraw) (h__law_pick : Has P w K mg base 2 "_law_pick" ["_law_tape", "_law_some"] (spPick K)) (h__law_shuffled : Has P w K mg base 2 "_law_shuffled" ["_law_tape", "_law_some"] spShuf) :
    Has P w K mg base 3 "_law_stretches" ["_law_tape", "_law_marks_here", "_law_most"] spStr := by
  refine has_of T.d__law_stretches sc__law_stretches bd__law_stretches (fun vs H Q E h => ?_) (fun f cdv A outer s H vs Q E hr h => ?_)
  · obtain ⟨t, c, a, ms, most, n, rfl, _⟩ := h
    rfl
  · have hu := hu_of hr
    have nd := sc__law_stretches.nd
    obtain ⟨t, c, a, ms, most, n, rfl, tp, lim, ha, lm, ndm, fm, k⟩ := h
    refine ⟨_, (pss_cons (ps_par3 (i := 3) (j := 4) (l := 5) (by rfl) nd rfl rfl rfl (by decide) (by decide) (by decide) rfl rfl rfl (pa_cons (pe_has h__law_shuffled (hr.mono (by omega)) (by rfl) (pa_cons (pv 0) (pa_cons (pv 1) pa_nil))) (pa_cons (pe_lst pa_nil) (pa_cons pe_int pa_nil))) (by rfl))
    (pss_cons (ps_for PassesOwn.never rfl (pi_range1 (by rfl) T.b_range (pa_cons (pe_op op_add pe_int (pe_has h__law_draw (hr.mono (by omega)) (by rfl) (pa_cons (pv 0) (pa_cons pe_int pa_nil)))) pa_nil)) (pg_name (i := 6) nd rfl (.inl rfl))
      (pss_cons (ps_set (i := 7) nd rfl (.inl rfl) (pe_op op_add (pv 2) (pe_has h__law_pick (hr.mono (by omega)) (by rfl) (pa_cons (pv 0) (pa_cons (pe_lst (pa_cons pe_int (pa_cons pe_int (pa_cons pe_int (pa_cons pe_int (pa_cons pe_int (pa_cons (pe_op op_add pe_int (pe_has h__law_draw (hr.mono (by omega)) (by rfl) (pa_cons (pv 0) (pa_cons pe_int pa_nil)))) pa_nil))))))) pa_nil)))))
    (pss_cons (ps_expr (pe_bm PySem.F.plainAttrs_list PySem.F.slot_list_append PySem.F.type_list_append mt_append (pv 4) (pa_cons (pe_has h__law_shuffled (hr.mono (by omega)) (by rfl) (pa_cons (pv 0) (pa_cons (pe_slice sl_list (pv 3) (po_some (pv 5)) (po_some (pe_op op_add (pv 5) (pv 7)))) pa_nil))) pa_nil)))
    (pss_one (ps_set (i := 5) nd rfl (.inl rfl) (pe_callB (call_max2 rfl) (by rfl) T.b_max (by decide +kernel) (pa_cons pe_int (pa_cons (pe_op op_sub (pe_op op_add (pv 5) (pv 7)) (pe_has h__law_pick (hr.mono (by omega)) (by rfl) (pa_cons (pv 0) (pa_cons (pe_lst (pa_cons pe_int (pa_cons (pv 2) (pa_cons (pv 2) (pa_cons (pe_op op_add (pv 2) pe_int) (pa_cons (pe_has h__law_draw (hr.mono (by omega)) (by rfl) (pa_cons (pv 0) (pa_cons (pe_op op_add (pv 2) pe_int) pa_nil))) pa_nil)))))) pa_nil)))) pa_nil))))))))
    (pss_one (ps_ret (pv 4))))), ?_⟩
    have line : (200000 : Nat) < sizeLine := by decide
    refine ⟨_, rfl, _, rfl, t, c, a, ms, n, rfl, tp, by omega, ha, by omega, fun H1 q ys nq hq perm tp1 kp1 => ⟨by show 0 ≤ sizeLine; decide, fun F nF => ⟨_, _, _, rfl, ?_⟩⟩⟩
    have ly := perm.length_eq
    have ndy : ys.Nodup := perm.nodup_iff.mpr ndm
    have iny : ∀ y ∈ ys, y ∈ ms := fun y hy => perm.mem_iff.mp hy
    have nFt := tp1.fresh nF
    have nFc := tp1.fresh_c nF
    refine ⟨_, rfl, t, c, 4, _, rfl, tp1.new nF, by omega, by decide, pow8000 (by decide), fun H2 r2 a2 b2 tp2 kp2 => ⟨_, _, rfl, rfl, 1 + r2, rfl, by omega, by omega, ?_⟩⟩
    refine for_range (lo := 0) (fun k2 σ H' => ∃ (v6 v7 : Option V) (i : Nat) (vs : List V), σ = [some (.ref t), some (.ref a), some (.int most), some (.ref q), some (.ref F), some (.int (i : Int)), v6, v7] ∧ Tape H' t c (n + 62 + 70 * k2) ∧ Kp t H H' ∧ H' q = some (.lst (ys.map V.int)) ∧ H' F = some (.lst vs) ∧ vs.length = k2 ∧ ∀ v ∈ vs, ∃ (p : Addr) (l : List Int), v = .ref p ∧ p ≠ F ∧ H' p = some (.lst (l.map V.int)) ∧ l.Nodup ∧ ∀ m ∈ l, m ∈ ms)
      ⟨none, none, 0, [], rfl, tp2.le (by omega), kp1.trans ((Kp.new nF).trans kp2), (tp1.new nF).sq (same_new nF _ _ hq) kp2, (tp1.new nF).sq upd_same kp2, rfl, fun v hv => by cases hv⟩ ?_ ?_
    · rintro k2 σ H3 hk ⟨v6, v7, i, vs, rfl, tp3, k3, hq3, hF3, lv, cl⟩
      have hk2 : k2 < 4 := by omega
      refine ⟨_, rfl, _, rfl, _, rfl, t, c, 9, _, rfl, tp3, by omega, by decide, pow8000 (by decide), fun H4 r4 a4 b4 tp4 kp4 => ⟨_, _, rfl, rfl, by show 6 ≤ sizeLine; decide, fun L nL => ⟨t, c, L, _, _, rfl, tp4.new nL, by omega, fun H' kp => .inl (SqL.of (kp L _ upd_same (tp4.fresh nL))), by show 0 < 6; decide, by show 6 ≤ 1000000; decide, fun H5 i5 v5 g5 tp5 kp5 => ?_⟩⟩⟩
      obtain ⟨z5, rfl, m5⟩ := pick_int (zs := [0, 1, 1, 2, 3, 1 + r4]) g5
      have zb : 0 ≤ z5 ∧ z5 ≤ 9 := by
        simp only [List.mem_cons, List.not_mem_nil, or_false] at m5
        omega
      refine ⟨_, _, rfl, rfl, ?_⟩
      obtain ⟨wd, ew⟩ : ∃ wd : Nat, (most : Int) + z5 = (wd : Int) := ⟨((most : Int) + z5).toNat, by omega⟩
      generalize hv : (fun i j : Int => V.int (i + j)) (most : Int) z5 = nv
      obtain rfl : nv = V.int (wd : Int) := hv.symm.trans (congrArg V.int ew)
      clear hv
      have k35 : Kp t H3 H5 := kp4.trans ((Kp.new nL).trans kp5)
      have hq5 := tp3.sq hq3 k35
      have hF5 := tp3.sq hF3 k35
      have cl5 : ∀ v ∈ vs, ∃ (p : Addr) (l : List Int), v = .ref p ∧ p ≠ F ∧ H5 p = some (.lst (l.map V.int)) ∧ l.Nodup ∧ ∀ m ∈ l, m ∈ ms := fun v hv => by
        obtain ⟨p, l, e, ne, hp, x⟩ := cl v hv
        exact ⟨p, l, e, ne, tp3.sq hp k35, x⟩
      refine ⟨_, rfl, .inl ⟨rfl, _, SqL.of hF5⟩, _, rfl, _, rfl, _, rfl, (i : Int), rfl, _, rfl, _, rfl, _, _, rfl, rfl, _, rfl, q, _, rfl, SqL.of hq5, fun p np => ?_⟩
      obtain ⟨l', el', sub'⟩ := cut_sl ys (some (i : Int)) (some ((i : Int) + (wd : Int)))
      rw [el']
      have ll' : l'.length ≤ 60 := by
        have := sub'.length_le
        omega
      refine ⟨t, c, p, l', _, rfl, tp5.new np, by omega, upd_same, by omega, fun H6 q2 zs nq2 hq2 perm2 tp6 kp6 => ?_⟩
      have hF6 := (tp5.new np).sq (same_new np _ _ hF5) kp6
      have q2F : q2 ≠ F := (ne_of_none (same_new np _ _ hF5) nq2).symm
      refine ⟨F, _, _, rfl, rfl, hF6, by omega, ?_⟩
      have nF0 : H F = none := kp1.free nF (fun z => nFt z)
      have cl6 : ∀ v ∈ vs ++ [V.ref q2], ∃ (p' : Addr) (l : List Int), v = .ref p' ∧ p' ≠ F ∧ H6 p' = some (.lst (l.map V.int)) ∧ l.Nodup ∧ ∀ m ∈ l, m ∈ ms := fun v hv => by
        rcases List.mem_append.mp hv with z | z
        · obtain ⟨p', l, e, ne, hp, x⟩ := cl5 v z
          exact ⟨p', l, e, ne, (tp5.new np).sq (same_new np _ _ hp) kp6, x⟩
        · exact ⟨q2, zs, List.mem_singleton.mp z, q2F, hq2, perm2.nodup_iff.mpr (ndy.sublist sub'), fun m hm => iny m (sub'.subset (perm2.mem_iff.mp hm))⟩
      have hq6 := (tp5.new np).sq (same_new np _ _ hq5) kp6
      have qF : q ≠ F := (ne_of_none hq nF).symm ∘ fun e => e.symm
      have tp7 := tp6.mut (o := .lst (vs ++ [V.ref q2])) nFt nFc
      have k7 : Kp t H (upd H6 F (.lst (vs ++ [V.ref q2]))) := (((k3.trans k35).trans (Kp.new np)).trans kp6).mut nF0
      have hF7 : (upd H6 F (.lst (vs ++ [V.ref q2]))) F = some (.lst (vs ++ [V.ref q2])) := upd_same
      have hq7 : (upd H6 F (.lst (vs ++ [V.ref q2]))) q = some (.lst (ys.map V.int)) := by
        rw [upd_ne qF]
        exact hq6
      have cl7 : ∀ v ∈ vs ++ [V.ref q2], ∃ (p' : Addr) (l : List Int), v = .ref p' ∧ p' ≠ F ∧ (upd H6 F (.lst (vs ++ [V.ref q2]))) p' = some (.lst (l.map V.int)) ∧ l.Nodup ∧ ∀ m ∈ l, m ∈ ms := fun v hv => by
        obtain ⟨p', l, e, ne, hp, x⟩ := cl6 v hv
        exact ⟨p', l, e, ne, by rw [upd_ne ne]; exact hp, x⟩
      generalize upd H6 F (.lst (vs ++ [V.ref q2])) = H7 at tp7 k7 hF7 hq7 cl7 ⊢
      clear cl cl5 cl6 hF3 hF5 hF6 hq3 hq5 hq6 tp3 tp4 tp5 tp6 kp4 kp5 kp6 k35 k3 hq2 nq2 np nL g5 m5
      refine ⟨_, rfl, _, rfl, _, _, rfl, rfl, _, rfl, _, rfl, _, rfl, _, rfl, _, _, rfl, rfl, _, rfl, _, rfl, _, _, rfl, rfl, t, c, _, _, rfl, tp7, by omega, by omega, pow8000 (by omega), fun H8 r8 a8 b8 tp8 kp8 => ⟨by show 5 ≤ sizeLine; decide, fun L nL => ⟨t, c, L, _, _, rfl, tp8.new nL, by omega, fun H' kp => .inl (SqL.of (kp L _ upd_same (tp8.fresh nL))), by show 0 < 5; decide, by show 5 ≤ 1000000; decide, fun H9 i9 v9 g9 tp9 kp9 => ?_⟩⟩⟩
      obtain ⟨z9, rfl, m9⟩ := pick_int (zs := [0, (most : Int), (most : Int), (most : Int) + 1, r8]) g9
      refine ⟨_, _, rfl, rfl, _, _, rfl, ?_⟩
      obtain ⟨i', ei⟩ : ∃ i' : Nat, (if (i : Int) + (wd : Int) - z9 > 0 then (i : Int) + (wd : Int) - z9 else 0) = (i' : Int) := by
        split
        · exact ⟨((i : Int) + (wd : Int) - z9).toNat, by omega⟩
        · exact ⟨0, rfl⟩
      have k79 : Kp t H7 H9 := kp8.trans ((Kp.new nL).trans kp9)
      refine ⟨some (.int (0 + (k2 : Int))), some (.int (wd : Int)), i', vs ++ [V.ref q2], ?_, tp9.le (by omega), k7.trans k79, tp7.sq hq7 k79, tp7.sq hF7 k79, by rw [List.length_append, lv]; rfl, fun v hv => ?_⟩
      · exact congrArg (fun z => [some (V.ref t), some (V.ref a), some (V.int most), some (V.ref q), some (V.ref F), some (V.int z), some (V.int (0 + (k2 : Int))), some (V.int (wd : Int))]) ei
      · obtain ⟨p', l, e, ne, hp, x⟩ := cl7 v hv
        exact ⟨p', l, e, ne, tp7.sq hp k79, x⟩
    · rintro σ H3 ⟨v6, v7, i, vs, rfl, tp3, k3, hq3, hF3, lv, cl⟩
      obtain ⟨qs, ss, hL, so, e1, e2⟩ := SlA.ls (ms := ms) (vs := vs) (fun v hv => by
        obtain ⟨p, l, e, _, hp, x⟩ := cl v hv
        exact ⟨p, l, e, hp, x⟩) hF3
      exact ⟨_, rfl, k H3 F qs ss (tp3.le (by omega)) k3 hL (by omega) so⟩
theorem has_any (T : Top K mg cs) (h__law_draw : Has P w K mg base 1 "_law_draw" ["_law_tape", "_law_many"] spDraw) (h__law_pick : Has P w K mg base 2 "_law_pick" ["_law_tape", "_law_some"] (spPick K)) (h__law_marks : Has P w K mg base 3 "_law_marks" ["_law_tape", "_law_many"] spFar)
    (h__law_stretches : Has P w K mg base 3 "_law_stretches" ["_law_tape", "_law_marks_here", "_law_most"] spStr) (h__law_told_right : Has P w K mg base 3 "_law_told_right" ["_law_marks_here", "_law_most", "_law_settings"] spRight) : Has P w K mg base 4 "_law_any_sizes_right" ["_law_tape"] spAny := by
  refine has_of T.d__law_any_sizes_right sc__law_any_sizes_right bd__law_any_sizes_right (fun vs H Q E h => ?_) (fun f cdv A outer s H vs Q E hr h => ?_)
  · obtain ⟨t, c, n, rfl, _⟩ := h
    rfl
  · have hu := hu_of hr
    have nd := sc__law_any_sizes_right.nd
    obtain ⟨t, c, n, rfl, tp, lim, k⟩ := h
    refine ⟨_, (pss_cons (ps_par (i := 1) (j := 2) (by rfl) nd rfl rfl (by decide) rfl rfl (pa_cons (pe_op op_add pe_int (pe_has h__law_draw (hr.mono (by omega)) (by rfl) (pa_cons (pv 0) (pa_cons pe_int pa_nil)))) (pa_cons (pe_has h__law_pick (hr.mono (by omega)) (by rfl) (pa_cons (pv 0) (pa_cons (pe_lst (pa_cons pe_int (pa_cons pe_int (pa_cons pe_int (pa_cons pe_int (pa_cons (pe_has h__law_draw (hr.mono (by omega)) (by rfl) (pa_cons (pv 0) (pa_cons pe_int pa_nil))) (pa_cons (pe_has h__law_draw (hr.mono (by omega)) (by rfl) (pa_cons (pv 0) (pa_cons pe_int pa_nil))) pa_nil))))))) pa_nil))) pa_nil)) (by rfl))
    (pss_cons (ps_set (i := 3) nd rfl (.inl rfl) (pe_has h__law_marks (hr.mono (by omega)) (by rfl) (pa_cons (pv 0) (pa_cons (pv 1) pa_nil))))
    (pss_cons (ps_for PassesOwn.never rfl (pi_range1 (by rfl) T.b_range (pa_cons pe_int pa_nil)) (pg_name (i := 4) nd rfl (.inl rfl))
      (pss_one (ps_if (pt_not (pt_val (pe_has h__law_told_right (hr.mono (by omega)) (by rfl) (pa_cons (pv 3) (pa_cons (pv 2) (pa_cons (pe_has h__law_stretches (hr.mono (by omega)) (by rfl) (pa_cons (pv 0) (pa_cons (pv 3) (pa_cons (pv 2) pa_nil)))) pa_nil)))))) (pss_one (ps_ret pe_bl)) pss_nil)))
    (pss_one (ps_ret pe_bl))))), ?_⟩
    refine ⟨_, rfl, t, c, 59, n, rfl, tp, by omega, by decide, pow8000 (by decide), fun H1 r1 a1 b1 tp1 kp1 => ⟨_, _, rfl, rfl, _, rfl, _, rfl, t, c, 21, _, rfl, tp1, by omega, by decide, pow8000 (by decide), fun H2 r2 a2 b2 tp2 kp2 => ⟨_, rfl, t, c, 61, _, rfl, tp2, by omega, by decide, pow8000 (by decide), fun H3 r3 a3 b3 tp3 kp3 => ⟨by show 6 ≤ sizeLine; decide, fun L nL => ⟨t, c, L, _, _, rfl, tp3.new nL, by omega, fun H' kp => .inl (SqL.of (kp L _ upd_same (tp3.fresh nL))), by show 0 < 6; decide, by show 6 ≤ 1000000; decide, fun H4 i4 v4 g4 tp4 kp4 => ?_⟩⟩⟩⟩⟩
    obtain ⟨z4, rfl, m4⟩ := pick_int (zs := [0, 1, 2, 3, r2, r3]) g4
    have zb : 0 ≤ z4 ∧ z4 ≤ 61 := by
      simp only [List.mem_cons, List.not_mem_nil, or_false] at m4
      omega
    obtain ⟨mo, rfl⟩ : ∃ mo : Nat, z4 = (mo : Int) := ⟨z4.toNat, by omega⟩
    refine ⟨_, _, rfl, ?_⟩
    refine ⟨_, rfl, _, rfl, t, c, _, _, rfl, tp4, by omega, by omega, by omega, fun H5 M ms nM hM lm un lim5 tp5 kp5 => ?_⟩
    have ndm := un.nodup
    have tp5 : Tape H5 t c (n + 120) := tp5.le (by omega)
    have k5 : Kp t H H5 := kp1.trans (kp2.trans (kp3.trans ((Kp.new nL).trans (kp4.trans kp5))))
    refine ⟨3, rfl, by decide, by decide, for_range (lo := 0) (fun i σ H' => ∃ (v4 : Option V), σ = [some (.ref t), some (.int (2 + r1)), some (.int mo), some (.ref M), v4] ∧ Tape H' t c (n + 120 + 450 * i) ∧ Kp t H5 H') ⟨none, rfl, tp5, Kp.refl _⟩ ?_ ?_⟩
    · rintro i σ H6 hi ⟨v4, rfl, tp6, k6⟩
      have hi2 : i < 3 := hi
      have hM6 := tp5.sq hM k6
      refine ⟨_, rfl, _, rfl, _, rfl, _, rfl, _, rfl, t, c, M, ms, mo, _, rfl, tp6, by omega, hM6, by omega, ndm, by omega, fun H7 F qs ss tp7 kp7 hL ls so => ?_⟩
      refine ⟨M, F, mo, ms, qs, ss, rfl, tp6.sq hM6 kp7, by omega, by omega, hL, by omega, so, fun H8 s8 => ⟨true, rfl, iteF ?_⟩⟩
      exact ⟨some (.int (0 + (i : Int))), rfl, (tp7.same s8).le (by omega), (k6.trans kp7).trans (Kp.same s8)⟩
    · rintro σ H6 ⟨v4, rfl, tp6, k6⟩
      exact k H6 (tp6.le (by omega)) (k5.trans k6)
end

/-! ### what the law bends: settings -/
def LS (H : Hp) (ms : List Int) (k : Nat) (F : Addr) : Prop := ∃ vs, H F = some (.lst vs) ∧ vs.length = k ∧ ∀ v ∈ vs, ∃ (l : Addr) (ws : List V), v = .ref l ∧ H l = some (.lst ws) ∧ ws.length ≤ 2 ∧ SlA H ms ws
section
variable {P : Program} {w : World} {K : PySem.W.Frag} {mg : Str → Option Value} {base : Heap}
theorem has_bent (T : Top K mg cs) (h__law_draw : Has P w K mg base 1 "_law_draw" ["_law_tape", "_law_many"] spDraw) (h__law_pick : Has P w K mg base 2 "_law_pick" ["_law_tape", "_law_some"] (spPick K)) :
    Has P w K mg base 3 "_law_bent" ["_law_tape", "_law_marks_here", "_law_most", "_law_settings"] spBent := by
  refine has_of T.d__law_bent sc__law_bent bd__law_bent (fun vs H Q E h => ?_) (fun f cdv A outer s H vs Q E hr h => ?_)
  · obtain ⟨t, c, a, b, ms, most, n, qs, ss, rfl, _⟩ := h
    rfl
  · have hu := hu_of hr
    have nd := sc__law_bent.nd
    obtain ⟨t, c, a, b, ms, most, n, qs, ss, rfl, tp, lim, ha, few1, few, ndm, fm, hLs, lss, so, k⟩ := h
    refine ⟨_, (pss_cons (ps_par (i := 4) (j := 5) (by rfl) nd rfl rfl (by decide) rfl rfl (pa_cons (pe_has h__law_draw (hr.mono (by omega)) (by rfl) (pa_cons (pv 0) (pa_cons pe_int pa_nil))) (pa_cons (pe_has h__law_draw (hr.mono (by omega)) (by rfl) (pa_cons (pv 0) (pa_cons (pe_callB (call_max2 rfl) (by rfl) T.b_max (by decide +kernel) (pa_cons pe_int (pa_cons (pe_callB call_len_seq (by rfl) T.b_len (by decide +kernel) (pa_cons (pv 3) pa_nil)) pa_nil))) pa_nil))) pa_nil)) (by rfl))
    (C8.pss_cut (ps_asg (pe_tup (pa_cons (pe_wk (uHere ms most) (pe_ix ix_list (pe_orT (pe_slice sl_list (pv 3) (po_some (pv 5)) (po_some (pe_op op_add (pv 5) pe_int))) (pe_one (pe_lst (pa_cons (pe_slice sl_list (pv 1) po_none (po_some (pe_op op_add (pv 2) pe_int))) pa_nil)))) pe_int (fun _ _ => rfl)) ?here) (pa_cons (pe_has h__law_pick (hr.mono (by omega)) (by rfl) (pa_cons (pv 0) (pa_cons (pv 1) pa_nil))) pa_nil))) (pg_tup (by rfl) (pgs_cons (pg_name (i := 6) nd rfl (.inl rfl)) (pgs_cons (pg_name (i := 7) nd rfl (.inr rfl)) pgs_nil))))
    (pss_cons (ps_par (i := 8) (j := 9) (by rfl) nd rfl rfl (by decide) rfl rfl (pa_cons (pe_lc (own := [("_law_one", 11)]) (by rfl) nd (pi_list (pv 6)) (blkOk_by (own := [("_law_one", 11)]) (N := nm__law_bent) (sc := defScope s__law_bent) (by decide +kernel)) (fun _ _ _ _ _ => pg_name (i := 11) nd rfl (.inl rfl)) (fun _ _ _ _ _ => pts_one (pt_cmpR op_ne (pv 11) (pv 7) (nomark _))) (fun _ _ _ _ _ => (pv 11))) (pa_cons (pe_has h__law_draw (hr.mono (by omega)) (by rfl) (pa_cons (pv 0) (pa_cons (pe_callB (call_max2 rfl) (by rfl) T.b_max (by decide +kernel) (pa_cons pe_int (pa_cons (pe_callB call_len_seq (by rfl) T.b_len (by decide +kernel) (pa_cons (pv 6) pa_nil)) pa_nil))) pa_nil))) pa_nil)) (by rfl))
    (C8.pss_cut (ps_set (i := 10) nd rfl (.inl rfl) (pe_lst (pa_cons (pe_lst (pa_cons (pv 6) pa_nil)) (pa_cons (pe_lst pa_nil) (pa_cons (pe_lst (pa_cons (pv 6) (pa_cons (pe_revL (pv 6)) pa_nil))) (pa_cons (pe_lst (pa_cons (pe_op op_cat (pe_slice sl_list (pv 6) po_none (po_some (pv 9))) (pe_slice sl_list (pv 6) (po_some (pe_op op_add (pv 9) pe_int)) po_none)) pa_nil)) (pa_cons (pe_lst (pa_cons (pe_op op_cat (pv 8) (pe_lst (pa_cons (pv 7) pa_nil))) pa_nil)) pa_nil)))))))
    (C8.pss_cut (ps_set (i := 10) nd rfl (.inl rfl) (pe_op op_cat (pv 10) (pe_lst (pa_cons (pe_lst (pa_cons (pe_op op_cat (pv 8) (pe_lst (pa_cons (pv 7) pa_nil))) (pa_cons (pv 6) pa_nil))) pa_nil))))
    (pss_one (ps_ret (pe_op op_cat (pe_op op_cat (pe_slice sl_list (pv 3) po_none (po_some (pv 5))) (pe_ix ix_list (pv 10) (pv 4) (fun _ _ => rfl))) (pe_slice sl_list (pv 3) (po_some (pe_op op_add (pv 5) pe_int)) po_none))))))))), ?_⟩
    case here =>
      rintro σ H R ⟨a, b, vs, i, e1, e2, e3, e5, ha, ndm, hb, sl, r⟩
      refine ⟨_, e3, _, e5, (i : Int), rfl, _, e5, _, _, rfl, rfl, _, rfl, b, vs, rfl, SqL.of hb, fun q nq => ?_⟩
      have ec : cutV vs (some (i : Int)) (some ((i : Int) + 1)) = (vs.drop i).take 1 := by rw [show (i : Int) + 1 = ((i + 1 : Nat) : Int) from rfl, cut_ij, show i + 1 - i = 1 by omega]
      rw [ec]
      cases hd : vs.drop i with
      | nil =>
        obtain ⟨l', el, sub⟩ := cut_sl ms none (some ((most : Int) + 1))
        refine ⟨false, .inl ⟨_, SqL.of upd_same, rfl⟩, iteF ⟨_, e1, _, e2, _, _, rfl, rfl, _, rfl, a, _, rfl, SqL.of (same_new nq _ _ ha), fun p0 n0 => ⟨by show 1 ≤ sizeLine; decide, fun p1 n1 => ⟨p1, _, _, .ref p0, rfl, rfl, SqL.of upd_same, at_of (j := 0) rfl rfl, ?_⟩⟩⟩⟩
        refine r _ _ (((same_new nq).trans (same_new n0)).trans (same_new n1)) ⟨p0, l', rfl, ?_, ndm.sublist sub, fun m hm => sub.subset hm⟩
        rw [← el]
        exact same_new n1 _ _ upd_same
      | cons v rest =>
        refine ⟨true, .inl ⟨_, SqL.of upd_same, rfl⟩, iteT ⟨q, _, _, v, rfl, rfl, SqL.of upd_same, at_of (j := 0) rfl rfl, ?_⟩⟩
        refine r _ _ (same_new nq) ((sl v ?_).same (same_new nq))
        exact List.mem_of_mem_drop (by rw [hd]; exact List.mem_cons_self)
    have line : (200000 : Nat) < sizeLine := by decide
    have hb := hLs.l
    have sl := hLs.sl so
    have lqs := hLs.n
    have lvs : (qs.map V.ref).length = ss.length := by rw [List.length_map, lqs]
    generalize qs.map V.ref = vs at hb sl lvs
    clear hLs lqs
    obtain ⟨m, em, m0, mb, mv⟩ : ∃ m : Int, (if ((vs.length : Nat) : Int) > 1 then ((vs.length : Nat) : Int) else 1) = m ∧ 0 < m ∧ m ≤ 100000 ∧ m ≤ vs.length + 1 := ⟨_, rfl, by split <;> omega, by split <;> omega, by split <;> omega⟩
    refine ⟨_, rfl, t, c, 6, n, rfl, tp, by omega, by decide, pow8000 (by decide), fun H1 r1 a1 b1 tp1 kp1 => ?_⟩
    have hb1 := tp.sq hb kp1
    refine ⟨_, rfl, _, rfl, b, _, rfl, .inl (SqL.of hb1), _, _, rfl, t, c, m, n + 1, congrArg (fun z => [V.ref t, V.int z]) em, tp1, by omega, m0, pow8000 (by omega), fun H2 r2 a2 b2 tp2 kp2 => ⟨_, _, rfl, ?_⟩⟩
    obtain ⟨i, rfl⟩ : ∃ i : Nat, r2 = (i : Int) := ⟨r2.toNat, by omega⟩
    have k2 := kp1.trans kp2
    have ha2 := tp.sq ha k2
    have hb2 := tp.sq hb k2
    have sl2 : SlA H2 ms vs := fun v hv => (sl v hv).kp tp k2
    refine ⟨fun σ' H' => ∃ (q : Addr) (mk : Int), σ' = [some (.ref t), some (.ref a), some (.int most), some (.ref b), some (.int r1), some (.int (i : Int)), some (.ref q), some (.int mk), none, none, none, none] ∧ Tape H' t c (n + 3) ∧ Kp t H H' ∧ Sl H' ms (.ref q) ∧ mk ∈ ms, ?_, ?_⟩
    · refine ⟨a, b, vs, i, rfl, rfl, rfl, rfl, ha2, ndm, hb2, sl2, fun H3 v s3 slv => ?_⟩
      have tp3 := tp2.same s3
      refine ⟨_, rfl, _, rfl, t, c, a, _, _, rfl, tp3, by omega, fun H' kp => .inl (SqL.of (tp3.sq (s3 _ _ ha2) kp)), by rw [List.length_map]; omega, by rw [List.length_map]; omega, fun H4 i4 v4 g4 tp4 kp4 => ?_⟩
      obtain ⟨m4, rfl, hm4⟩ := pick_int g4
      refine ⟨by show 2 ≤ sizeLine; decide, fun p np => ⟨p, _, rfl, SqT.of upd_same, rfl, _, _, rfl, _, _, rfl, rfl, ?_⟩⟩
      have sl4 := (slv.kp tp3 kp4).same (same_new np (o := .tup [v, V.int m4]))
      obtain ⟨q, l, e, hq, x⟩ := sl4
      subst e
      exact ⟨q, m4, rfl, (tp4.new np).le (by omega), (k2.trans (Kp.same s3)).trans (kp4.trans (Kp.new np)), ⟨q, l, rfl, hq, x⟩, hm4⟩
    clear sl2 hb1 hb2 ha2 tp1 tp2 kp1 kp2 k2
    rintro σ H3 ⟨q, mk, rfl, tp3, k3, ⟨q', l, eq', hq, ndl, inl⟩, hmk⟩
    cases eq'
    have ll := nodup_len ndl inl
    -- without the mark
    refine ⟨_, rfl, q, rfl, ⟨_, SqL.of hq⟩, fun D nD => lc_sel_list (fun x => match x with | .int m => !decide (V.int m = V.int mk) | _ => false) (fun x => x) (SqL.of hq) nD (by rw [List.length_map]; omega) (fun x hm => ?_) fun H5 s5 h5 => ?_⟩
    · obtain ⟨m', _, rfl⟩ := List.mem_map.mp hm
      exact ⟨rfl, fun H' s' R g => ⟨_, rfl, _, rfl, rfl, _, rfl, g H' (Same.refl _)⟩, fun _ H' s' R g => ⟨_, rfl, g H' (Same.refl _)⟩⟩
    have e5 : (((l.map V.int).filter fun x => match x with | .int m => !decide (V.int m = V.int mk) | _ => false).map fun x => x) = (l.filter fun m => !decide (V.int m = V.int mk)).map V.int := by
      rw [List.map_id', List.filter_map]
      rfl
    rw [e5] at h5
    have nb : (l.filter fun m => !decide (V.int m = V.int mk)).Nodup := ndl.sublist List.filter_sublist
    have ib : ∀ x ∈ l.filter fun m => !decide (V.int m = V.int mk), x ∈ ms ∧ x ≠ mk := fun x hx => by
      obtain ⟨h1, h2⟩ := List.mem_filter.mp hx
      refine ⟨inl x h1, fun z => ?_⟩
      rw [z, decide_eq_true rfl] at h2
      cases h2
    have lb := List.length_filter_le (fun m => !decide (V.int m = V.int mk)) l
    generalize (l.filter fun m => !decide (V.int m = V.int mk)) = bare at h5 nb ib lb
    have nbm : (bare ++ [mk]).Nodup := List.nodup_append.mpr ⟨nb, by simp, fun x hx y hy e => (ib x hx).2 (e.trans (List.mem_singleton.mp hy))⟩
    have ibm : ∀ x ∈ bare ++ [mk], x ∈ ms := fun x hx => by
      rcases List.mem_append.mp hx with z | z
      · exact (ib x z).1
      · rw [List.mem_singleton.mp z]
        exact hmk
    have tp5 := tp3.same s5
    have hq5 := s5 _ _ hq
    have k5 := k3.trans (Kp.same s5)
    obtain ⟨m2, em2, m20, m2b⟩ : ∃ m : Int, (if ((l.length : Nat) : Int) > 1 then ((l.length : Nat) : Int) else 1) = m ∧ 0 < m ∧ m ≤ 100000 := ⟨_, rfl, by split <;> omega, by split <;> omega⟩
    refine ⟨_, rfl, _, rfl, q, _, rfl, .inl (SqL.of hq5), _, _, rfl, t, c, m2, n + 3, ?_, tp5, by omega, m20, pow8000 (by omega), fun H6 r6 a6 b6 tp6 kp6 => ⟨_, _, rfl, ?_⟩⟩
    · rw [List.length_map]
      exact congrArg (fun z => [V.ref t, V.int z]) em2
    obtain ⟨pt, rfl⟩ : ∃ pt : Nat, r6 = (pt : Int) := ⟨r6.toNat, by omega⟩
    have hq6 := tp5.sq hq5 kp6
    have hr6 := tp5.sq h5 kp6
    have k6 := k5.trans kp6
    have hb6 := tp.sq hb k6
    have sl6 : SlA H6 ms vs := fun v hv => (sl v hv).kp tp k6
    clear em em2 m20 m2b mb m0 tp3 tp5 s5 nD h5 e5 kp6 k3 k5 hq hq5
    refine ⟨fun σ' H' => ∃ (F : Addr), σ' = [some (.ref t), some (.ref a), some (.int most), some (.ref b), some (.int r1), some (.int (i : Int)), some (.ref q), some (.int mk), some (.ref D), some (.int (pt : Int)), some (.ref F), none] ∧ Same H6 H' ∧ LS H' ms 5 F, ?_, ?_⟩
    · refine ⟨_, rfl, by show 1 ≤ sizeLine; decide, fun l0 n0 => ⟨by show 0 ≤ sizeLine; decide, fun l1 n1 => ⟨_, rfl, _, rfl, q, _, rfl, SqL.of (same_new n1 _ _ (same_new n0 _ _ hq6)), fun p1 m1 => ⟨by show 2 ≤ sizeLine; decide, fun l2 n2 => ?_⟩⟩⟩⟩
      have sa := (((same_new n0 (o := .lst [V.ref q])).trans (same_new n1 (o := .lst []))).trans (same_new m1 (o := .lst (l.map V.int).reverse))).trans (same_new n2 (o := .lst [V.ref q, .ref p1]))
      have h0 := same_new n2 (o := .lst [V.ref q, .ref p1]) _ _ (same_new m1 (o := .lst (l.map V.int).reverse) _ _ (same_new n1 (o := .lst []) _ _ (upd_same : (upd H6 l0 (.lst [V.ref q])) l0 = some (.lst [V.ref q]))))
      have h1 := same_new n2 (o := .lst [V.ref q, .ref p1]) _ _ (same_new m1 (o := .lst (l.map V.int).reverse) _ _ (upd_same : (upd (upd H6 l0 (.lst [V.ref q])) l1 (.lst [])) l1 = some (.lst [])))
      have hp1 := same_new n2 (o := .lst [V.ref q, .ref p1]) _ _ (upd_same : (upd (upd (upd H6 l0 (.lst [V.ref q])) l1 (.lst [])) p1 (.lst (l.map V.int).reverse)) p1 = some (.lst (l.map V.int).reverse))
      have h2 : (upd (upd (upd (upd H6 l0 (.lst [V.ref q])) l1 (.lst [])) p1 (.lst (l.map V.int).reverse)) l2 (.lst [V.ref q, .ref p1])) l2 = some (.lst [V.ref q, .ref p1]) := upd_same
      generalize upd (upd (upd (upd H6 l0 (.lst [V.ref q])) l1 (.lst [])) p1 (.lst (l.map V.int).reverse)) l2 (.lst [V.ref q, .ref p1]) = Ha at sa h0 h1 hp1 h2 ⊢
      clear n0 n1 m1 n2
      have hqa := sa _ _ hq6
      refine ⟨_, rfl, _, rfl, (pt : Int), rfl, q, _, rfl, SqL.of hqa, fun p2 m2 => ⟨_, rfl, _, rfl, _, _, rfl, rfl, ((pt + 1 : Nat) : Int), rfl, q, _, rfl, SqL.of (same_new m2 _ _ hqa), fun p3 m3 => ⟨p2, p3, _, _, rfl, rfl, same_new m3 _ _ upd_same, upd_same, ?_, fun p4 m4 => ⟨by show 1 ≤ sizeLine; decide, fun l3 n3 => ?_⟩⟩⟩⟩
      · rw [cut_0j, cut_iE, List.length_take, List.length_drop, List.length_map]
        omega
      have e4 : cutV (l.map V.int) none (some (pt : Int)) ++ cutV (l.map V.int) (some ((pt + 1 : Nat) : Int)) none = (l.take pt ++ l.drop (pt + 1)).map V.int := by
        rw [cut_0j, cut_iE, List.map_append, List.map_take, List.map_drop]
      have sb := (((same_new m2 (o := .lst (cutV (l.map V.int) none (some (pt : Int))))).trans (same_new m3 (o := .lst (cutV (l.map V.int) (some ((pt + 1 : Nat) : Int)) none)))).trans (same_new m4 (o := .lst (cutV (l.map V.int) none (some (pt : Int)) ++ cutV (l.map V.int) (some ((pt + 1 : Nat) : Int)) none)))).trans (same_new n3 (o := .lst [V.ref p4]))
      have hp4 := same_new n3 (o := .lst [V.ref p4]) _ _ (upd_same : (upd (upd (upd Ha p2 (.lst (cutV (l.map V.int) none (some (pt : Int))))) p3 (.lst (cutV (l.map V.int) (some ((pt + 1 : Nat) : Int)) none))) p4 (.lst (cutV (l.map V.int) none (some (pt : Int)) ++ cutV (l.map V.int) (some ((pt + 1 : Nat) : Int)) none))) p4 = some (.lst (cutV (l.map V.int) none (some (pt : Int)) ++ cutV (l.map V.int) (some ((pt + 1 : Nat) : Int)) none)))
      have h3 : (upd (upd (upd (upd Ha p2 (.lst (cutV (l.map V.int) none (some (pt : Int))))) p3 (.lst (cutV (l.map V.int) (some ((pt + 1 : Nat) : Int)) none))) p4 (.lst (cutV (l.map V.int) none (some (pt : Int)) ++ cutV (l.map V.int) (some ((pt + 1 : Nat) : Int)) none))) l3 (.lst [V.ref p4])) l3 = some (.lst [V.ref p4]) := upd_same
      generalize upd (upd (upd (upd Ha p2 (.lst (cutV (l.map V.int) none (some (pt : Int))))) p3 (.lst (cutV (l.map V.int) (some ((pt + 1 : Nat) : Int)) none))) p4 (.lst (cutV (l.map V.int) none (some (pt : Int)) ++ cutV (l.map V.int) (some ((pt + 1 : Nat) : Int)) none))) l3 (.lst [V.ref p4]) = Hb at sb hp4 h3 ⊢
      rw [e4] at hp4
      clear m2 m3 m4 n3
      have hrb := sb _ _ (sa _ _ hr6)
      refine ⟨_, rfl, _, rfl, by show 1 ≤ sizeLine; decide, fun p5 m5 => ⟨D, p5, _, _, rfl, rfl, same_new m5 _ _ hrb, upd_same, by rw [List.length_map, List.length_singleton]; omega, fun p6 m6 => ⟨by show 1 ≤ sizeLine; decide, fun l4 n4 => ⟨by show 5 ≤ sizeLine; decide, fun F nF => ?_⟩⟩⟩⟩
      have sc := (((same_new m5 (o := .lst [V.int mk])).trans (same_new m6 (o := .lst (bare.map V.int ++ [V.int mk])))).trans (same_new n4 (o := .lst [V.ref p6]))).trans (same_new nF (o := .lst [V.ref l0, .ref l1, .ref l2, .ref l3, .ref l4]))
      have hp6 := same_new nF (o := .lst [V.ref l0, .ref l1, .ref l2, .ref l3, .ref l4]) _ _ (same_new n4 (o := .lst [V.ref p6]) _ _ (upd_same : (upd (upd Hb p5 (.lst [V.int mk])) p6 (.lst (bare.map V.int ++ [V.int mk]))) p6 = some (.lst (bare.map V.int ++ [V.int mk]))))
      have h4 := same_new nF (o := .lst [V.ref l0, .ref l1, .ref l2, .ref l3, .ref l4]) _ _ (upd_same : (upd (upd (upd Hb p5 (.lst [V.int mk])) p6 (.lst (bare.map V.int ++ [V.int mk]))) l4 (.lst [V.ref p6])) l4 = some (.lst [V.ref p6]))
      refine ⟨F, rfl, sa.trans (sb.trans sc), _, upd_same, rfl, fun v hv => ?_⟩
      have cq : Sl (upd (upd (upd (upd Hb p5 (.lst [V.int mk])) p6 (.lst (bare.map V.int ++ [V.int mk]))) l4 (.lst [V.ref p6])) F (.lst [V.ref l0, .ref l1, .ref l2, .ref l3, .ref l4])) ms (.ref q) := ⟨q, l, rfl, sc _ _ (sb _ _ hqa), ndl, inl⟩
      simp only [List.mem_cons, List.not_mem_nil, or_false] at hv
      rcases hv with e | e | e | e | e
      · exact ⟨l0, _, e, sc _ _ (sb _ _ h0), by show 1 ≤ 2; decide, SlA.one cq⟩
      · exact ⟨l1, _, e, sc _ _ (sb _ _ h1), Nat.zero_le _, SlA.nil⟩
      · refine ⟨l2, _, e, sc _ _ (sb _ _ h2), Nat.le_refl _, SlA.app (SlA.one cq) (SlA.one ⟨p1, l.reverse, rfl, ?_, (List.reverse_perm l).nodup_iff.mpr ndl, fun m hm => inl m (List.mem_reverse.mp hm)⟩)⟩
        rw [sc _ _ (sb _ _ hp1), List.map_reverse]
      · refine ⟨l3, _, e, sc _ _ h3, by show 1 ≤ 2; decide, SlA.one ⟨p4, _, rfl, sc _ _ hp4, ?_, fun m hm => ?_⟩⟩
        · have e9 : l.take pt ++ l.drop (pt + 1) = l.eraseIdx pt := (List.eraseIdx_eq_take_drop_succ l pt).symm
          rw [e9]
          exact ndl.sublist (List.eraseIdx_sublist l pt)
        · rcases List.mem_append.mp hm with z | z
          · exact inl m (List.mem_of_mem_take z)
          · exact inl m (List.mem_of_mem_drop z)
      · refine ⟨l4, _, e, h4, by show 1 ≤ 2; decide, SlA.one ⟨p6, bare ++ [mk], rfl, ?_, nbm, ibm⟩⟩
        rw [hp6, List.map_append]
        rfl
    rintro σ H7 ⟨F, rfl, s7, vs5, hF, l5', c5⟩
    have tp7 := tp6.same s7
    have hq7 := s7 _ _ hq6
    have hr7 := s7 _ _ hr6
    have hb7 := s7 _ _ hb6
    have sl7 := sl6.same s7
    have k7 := k6.trans (Kp.same s7)
    clear tp6 hq6 hr6 hb6 sl6 k6 s7
    refine ⟨fun σ' H' => ∃ (F : Addr), σ' = [some (.ref t), some (.ref a), some (.int most), some (.ref b), some (.int r1), some (.int (i : Int)), some (.ref q), some (.int mk), some (.ref D), some (.int (pt : Int)), some (.ref F), none] ∧ Same H7 H' ∧ LS H' ms 6 F, ?_, ?_⟩
    · refine ⟨_, rfl, _, rfl, _, rfl, by show 1 ≤ sizeLine; decide, fun p7 m7 => ⟨D, p7, _, _, rfl, rfl, same_new m7 _ _ hr7, upd_same, by rw [List.length_map, List.length_singleton]; omega, fun p8 m8 => ⟨_, rfl, by show 2 ≤ sizeLine; decide, fun l5 n5 => ⟨by show 1 ≤ sizeLine; decide, fun L nL => ?_⟩⟩⟩⟩
      have sa := (((same_new m7 (o := .lst [V.int mk])).trans (same_new m8 (o := .lst (bare.map V.int ++ [V.int mk])))).trans (same_new n5 (o := .lst [V.ref p8, .ref q]))).trans (same_new nL (o := .lst [V.ref l5]))
      have hp8 := same_new nL (o := .lst [V.ref l5]) _ _ (same_new n5 (o := .lst [V.ref p8, .ref q]) _ _ (upd_same : (upd (upd H7 p7 (.lst [V.int mk])) p8 (.lst (bare.map V.int ++ [V.int mk]))) p8 = some (.lst (bare.map V.int ++ [V.int mk]))))
      have h5 := same_new nL (o := .lst [V.ref l5]) _ _ (upd_same : (upd (upd (upd H7 p7 (.lst [V.int mk])) p8 (.lst (bare.map V.int ++ [V.int mk]))) l5 (.lst [V.ref p8, .ref q])) l5 = some (.lst [V.ref p8, .ref q]))
      have hL : (upd (upd (upd (upd H7 p7 (.lst [V.int mk])) p8 (.lst (bare.map V.int ++ [V.int mk]))) l5 (.lst [V.ref p8, .ref q])) L (.lst [V.ref l5])) L = some (.lst [V.ref l5]) := upd_same
      generalize upd (upd (upd (upd H7 p7 (.lst [V.int mk])) p8 (.lst (bare.map V.int ++ [V.int mk]))) l5 (.lst [V.ref p8, .ref q])) L (.lst [V.ref l5]) = Ha at sa hp8 h5 hL ⊢
      refine ⟨F, L, vs5, _, rfl, rfl, sa _ _ hF, hL, by rw [l5']; show 5 + 1 ≤ sizeLine; decide, fun G nG => ?_⟩
      have sG := same_new nG (o := .lst (vs5 ++ [V.ref l5]))
      refine ⟨G, rfl, sa.trans sG, _, upd_same, by rw [List.length_append, l5']; rfl, fun v hv => ?_⟩
      rcases List.mem_append.mp hv with z | z
      · obtain ⟨l', ws, e, hl', lw, cw⟩ := c5 v z
        exact ⟨l', ws, e, sG _ _ (sa _ _ hl'), lw, cw.same (sa.trans sG)⟩
      · refine ⟨l5, _, List.mem_singleton.mp z, sG _ _ h5, Nat.le_refl _, SlA.app (SlA.one ⟨p8, bare ++ [mk], rfl, ?_, nbm, ibm⟩) (SlA.one ⟨q, l, rfl, sG _ _ (sa _ _ hq7), ndl, inl⟩)⟩
        rw [sG _ _ hp8, List.map_append]
        rfl
    clear hF l5' c5 vs5 F
    rintro σ H8 ⟨F, rfl, s8, vs8, hF, l8, c8⟩
    have hi8 : r1.toNat < vs8.length := by omega
    obtain ⟨l', ws, el, hl, lw, cw⟩ := c8 _ (List.getElem_mem hi8)
    have hat : atI vs8 r1 = some (.ref l') := at_of (j := r1.toNat) (by omega) (by rw [List.getElem?_eq_getElem hi8, el])
    have hb8 := s8 _ _ hb7
    have sl8 := sl7.same s8
    refine ⟨_, rfl, _, rfl, (i : Int), rfl, b, vs, rfl, SqL.of hb8, fun p1 m1 => ⟨_, rfl, _, rfl, F, _, _, _, rfl, rfl, SqL.of (same_new m1 _ _ hF), hat, p1, l', _, ws, rfl, rfl, upd_same, same_new m1 _ _ hl, ?_, fun p2 m2 => ⟨_, rfl, _, rfl, _, _, rfl, rfl, ((i + 1 : Nat) : Int), rfl, b, vs, rfl, SqL.of (same_new m2 _ _ (same_new m1 _ _ hb8)), fun p3 m3 => ⟨p2, p3, _, _, rfl, rfl, same_new m3 _ _ upd_same, upd_same, ?_, fun p4 m4 => ?_⟩⟩⟩⟩
    · rw [cut_0j, List.length_take]
      omega
    · rw [cut_0j, cut_iE, List.length_append, List.length_take, List.length_drop]
      omega
    · have sz := ((same_new m1 (o := .lst (cutV vs none (some (i : Int))))).trans (same_new m2 (o := .lst (cutV vs none (some (i : Int)) ++ ws)))).trans ((same_new m3 (o := .lst (cutV vs (some ((i + 1 : Nat) : Int)) none))).trans (same_new m4 (o := .lst (cutV vs none (some (i : Int)) ++ ws ++ cutV vs (some ((i + 1 : Nat) : Int)) none))))
      rw [cut_0j, cut_iE] at sz ⊢
      have all : SlA _ ms (vs.take i ++ ws ++ vs.drop (i + 1)) := (SlA.app (SlA.app (fun v hv => sl8 v (List.mem_of_mem_take hv)) cw) (fun v hv => sl8 v (List.mem_of_mem_drop hv))).same sz
      obtain ⟨qs', ss', hL', so', e1, e2⟩ := all.ls upd_same
      refine k _ p4 qs' ss' (((tp7.same s8).same sz).le (by omega)) (k7.trans (Kp.same (s8.trans sz))) hL' ?_ so'
      rw [e2, List.length_append, List.length_append, List.length_take, List.length_drop]
      omega
end

/-! ### the law itself -/
theorem cut_last (xs : List V) : cutV xs none (some (-1)) = xs.dropLast := by
  unfold cutV
  have e : HT.sIx xs.length xs.length (some (-1)) = xs.length - 1 := by
    show (if (-1 : Int) < 0 then (-1 + (xs.length : Int)).toNat else min (-1 : Int).toNat xs.length) = _
    rw [if_pos (by decide)]
    omega
  rw [e, HT.sIx_none, List.drop_zero, Nat.sub_zero, List.dropLast_eq_take]
theorem Ls.third {H : Hp} {a b : Addr} {qs : List Addr} {ss : List (List Int)} (h : Ls H a qs ss) (hb : H b = some (.lst ((qs.dropLast ++ qs.take 1).map V.ref))) : Ls H b (qs.dropLast ++ qs.take 1) (ss.dropLast ++ ss.take 1) := by
  have ln := h.n
  refine ⟨hb, by rw [List.length_append, List.length_append, List.length_dropLast, List.length_dropLast, List.length_take, List.length_take, ln], fun i q l hq hl => ?_⟩
  have ld : qs.dropLast.length = ss.dropLast.length := by rw [List.length_dropLast, List.length_dropLast, ln]
  by_cases c : i < qs.dropLast.length
  · rw [List.getElem?_append_left c] at hq
    rw [List.getElem?_append_left (by omega)] at hl
    rw [List.dropLast_eq_take, List.getElem?_take] at hq hl
    rw [List.length_dropLast] at c
    rw [if_pos (by omega)] at hq hl
    exact h.t i q l hq hl
  · rw [List.getElem?_append_right (by omega)] at hq
    rw [List.getElem?_append_right (by omega), ← ld, List.getElem?_take] at hl
    rw [List.getElem?_take] at hq
    split at hq
    · rename_i z
      rw [if_pos z] at hl
      exact h.t _ q l hq hl
    · cases hq
def APs (H : Hp) (vs : List V) : Prop := ∀ v ∈ vs, ∃ (p : Addr) (n m : Nat), v = .ref p ∧ H p = some (.tup [V.int (n : Int), .int (m : Int)]) ∧ (n, m) ∈ prs41
theorem APs.same {H H' : Hp} {vs : List V} (h : APs H vs) (s : Same H H') : APs H' vs := fun v hv => by
  obtain ⟨p, n, m, e, hp, x⟩ := h v hv
  exact ⟨p, n, m, e, s _ _ hp, x⟩
def spLaw (K : PySem.W.Frag) : Sp := fun vs H Q _ => ∃ (a : Addr) (ns : List Int), vs = [.ref a] ∧ SqL K H a (ns.map V.int) ∧ ns.length ≤ 63 ∧ ∀ H', Q (.bl true) H'
def P1 (a t c : Addr) (e : Nat) (σ : L2.St) (H : Hp) : Prop := ∃ (i wy : Int) (n mo : Nat) (v6 v7 v8 v9 v10 v11 v12 v13 v14 v15 : Option V), σ = [some (.ref a), some (.ref t), some (.int i), some (.int wy), some (.int n), some (.int mo), v6, v7, v8, v9, v10, v11, v12, v13, v14, v15] ∧ Tape H t c e ∧ okP n mo
def P2 (a t c : Addr) (e : Nat) (σ : L2.St) (H : Hp) : Prop := ∃ (v2 v3 v4 v5 v6 v7 v8 v9 v10 v11 v12 v13 v14 v15 : Option V), σ = [some (.ref a), some (.ref t), v2, v3, v4, v5, v6, v7, v8, v9, v10, v11, v12, v13, v14, v15] ∧ Tape H t c e
section
variable {P : Program} {w : World} {K : PySem.W.Frag} {mg : Str → Option Value} {base : Heap}
theorem ok_law {f : Addr} {fd : FuncData} (F : Fun K "law" "law" s_law f fd) (T : Top K mg cs) (h__law_begun : Has P w K mg base 1 "_law_begun" ["_law_script"] (spBegun K)) (h__law_draw : Has P w K mg base 1 "_law_draw" ["_law_tape", "_law_many"] spDraw)
    (h__law_pick : Has P w K mg base 2 "_law_pick" ["_law_tape", "_law_some"] (spPick K)) (h__law_marks : Has P w K mg base 3 "_law_marks" ["_law_tape", "_law_many"] spFar) (h__law_number : Has P w K mg base 1 "_law_number" ["_law_many", "_law_most"] spNum)
    (h__law_refused : Has P w K mg base 7 "_law_refused" ["_law_marks_here", "_law_most"] spRefused) (h_apart : HasX P w K mg base 6 "apart" ["marks", "most"] (spApart (cs 0))) (h__law_chosen : Has P w K mg base 1 "_law_chosen" ["_law_marks_here", "_law_told"] spChosen)
    (h__law_bent : Has P w K mg base 3 "_law_bent" ["_law_tape", "_law_marks_here", "_law_most", "_law_settings"] spBent) (h__law_apart : Has P w K mg base 1 "_law_apart" ["_law_marks_here", "_law_most", "_law_settings"] spLAp)
    (h_are_apart : Has P w K mg base 2 "are_apart" ["marks", "most", "settings"] spAre) (h__law_any_sizes_right : Has P w K mg base 4 "_law_any_sizes_right" ["_law_tape"] spAny) : FnG P w K mg base 12 f fd ["_law_script"] (spLaw K) := by
  refine fnG F sc_law (fun vs H Q E h => ?_) (fun cdv Ar outer s H vs Q E hr hgd h => ?_)
  · obtain ⟨a, ns, rfl, _⟩ := h
    rfl
  · have hu := hu_of hr
    have nd := sc_law.nd
    obtain ⟨a, ns, rfl, hS, hl, k⟩ := h
    refine ⟨_, (pss_cons (ps_set (i := 1) nd rfl (.inl rfl) (pe_has h__law_begun (hr.mono (by omega)) (by rfl) (pa_cons (pv 0) pa_nil)))
    (pss_cons (ps_for PassesOwn.never rfl (pi_range1 (by rfl) T.b_range (pa_cons (pe_op op_add pe_int (pe_callB (call_min2 rfl) (by rfl) T.b_min (by decide +kernel) (pa_cons pe_int (pa_cons (pe_callB call_len_seq (by rfl) T.b_len (by decide +kernel) (pa_cons (pv 0) pa_nil)) pa_nil)))) pa_nil)) (pg_name (i := 2) nd rfl (.inl rfl))
      (pss_cons (ps_par (i := 3) (j := 4) (by rfl) nd rfl rfl (by decide) rfl rfl (pa_cons (pe_has h__law_draw (hr.mono (by omega)) (by rfl) (pa_cons (pv 1) (pa_cons pe_int pa_nil))) (pa_cons (pe_op op_add pe_int (pe_has h__law_draw (hr.mono (by omega)) (by rfl) (pa_cons (pv 1) (pa_cons pe_int pa_nil)))) pa_nil)) (by rfl))
    (pss_cons (ps_set (i := 5) nd rfl (.inl rfl) (pe_has h__law_draw (hr.mono (by omega)) (by rfl) (pa_cons (pv 1) (pa_cons (pe_op op_add (pv 4) pe_int) pa_nil))))
    (C8.pss_cut (ps_if (pt_cmpR op_eq (pv 3) pe_int (nomark _)) (pss_cons (ps_set (i := 6) nd rfl (.inl rfl) (pe_lst (pa_cons (pe_tup (pa_cons pe_int (pa_cons pe_int pa_nil))) (pa_cons (pe_tup (pa_cons pe_int (pa_cons pe_int pa_nil))) (pa_cons (pe_tup (pa_cons pe_int (pa_cons pe_int pa_nil))) (pa_cons (pe_tup (pa_cons pe_int (pa_cons pe_int pa_nil))) (pa_cons (pe_tup (pa_cons pe_int (pa_cons pe_int pa_nil))) (pa_cons (pe_tup (pa_cons pe_int (pa_cons pe_int pa_nil))) (pa_cons (pe_tup (pa_cons pe_int (pa_cons pe_int pa_nil))) (pa_cons (pe_tup (pa_cons pe_int (pa_cons pe_int pa_nil))) (pa_cons (pe_tup (pa_cons pe_int (pa_cons pe_int pa_nil))) pa_nil)))))))))))
    (pss_one (ps_asg (pe_has h__law_pick (hr.mono (by omega)) (by rfl) (pa_cons (pv 1) (pa_cons (pe_op op_cat (pe_op op_cat (pv 6) (pe_lst (pa_cons (pe_tup (pa_cons pe_int (pa_cons pe_int pa_nil))) (pa_cons (pe_tup (pa_cons pe_int (pa_cons pe_int pa_nil))) pa_nil)))) (pe_op op_rep (pe_lst (pa_cons (pe_tup (pa_cons pe_int (pa_cons pe_int pa_nil))) pa_nil)) pe_int)) pa_nil))) (pg_tup (by rfl) (pgs_cons (pg_name (i := 4) nd rfl (.inl rfl)) (pgs_cons (pg_name (i := 5) nd rfl (.inl rfl)) pgs_nil)))))) pss_nil)
    (pss_cons (ps_set (i := 7) nd rfl (.inl rfl) (pe_has h__law_marks (hr.mono (by omega)) (by rfl) (pa_cons (pv 1) (pa_cons (pv 4) pa_nil))))
    (pss_cons (ps_set (i := 8) nd rfl (.inl rfl) (pe_has h__law_number (hr.mono (by omega)) (by rfl) (pa_cons (pv 4) (pa_cons (pe_op op_add (pv 5) pe_int) pa_nil))))
    (pss_cons (ps_set (i := 9) nd rfl (.inl rfl) (pe_callTy call_list_of (by rfl) T.b_list (by decide +kernel) (pa_cons (pv 7) pa_nil)))
    (C8.pss_cut (ps_if (pt_cmpR op_gt (pv 8) pe_int (nomark _)) (pss_one (ps_if (PW.pt (pw_or (pt_cmpR (op_neD hr.units) (pe_has h__law_refused (hr.mono (by omega)) (by rfl) (pa_cons (pv 9) (pa_cons (pv 5) pa_nil))) (pv 8) (nomark _)) (pw_or1 (pt_cmpR (op_neD hr.units) (pv 9) (pv 7) (nomark _))))) (pss_one (ps_ret pe_bl)) pss_nil)) (pss_cons (ps_set (i := 10) nd rfl (.inl rfl) (pe_hasX0 h_apart (hr.mono (by omega)) (by rfl) (pa_cons (pv 9) (pa_cons (pv 5) pa_nil))))
    (pss_cons (ps_if (PW.pt (pw_or (pt_cmpR (op_neD hr.units) (pv 9) (pv 7) (nomark _)) (pw_or (pt_not (pt_val (pe_callB call_isi (by rfl) T.b_isinstance (by decide +kernel) (pa_cons (pv 10) (pa_cons (pe_bltn (v := .ty "list") (u := .type "list") (by rfl) T.b_list (by decide +kernel) (by rfl)) pa_nil))))) (pw_or (pt_cmpR op_ne (pe_callB call_len_seq (by rfl) T.b_len (by decide +kernel) (pa_cons (pv 10) pa_nil)) (pv 8) (nomark _)) (pw_or1 (pt_not (pt_val (pe_has h__law_chosen (hr.mono (by omega)) (by rfl) (pa_cons (pv 7) (pa_cons (pv 10) pa_nil)))))))))) (pss_one (ps_ret pe_bl)) pss_nil)
    (pss_cons (ps_set (i := 11) nd rfl (.inl rfl) (pe_has h__law_bent (hr.mono (by omega)) (by rfl) (pa_cons (pv 1) (pa_cons (pv 7) (pa_cons (pv 5) (pa_cons (pv 10) pa_nil))))))
    (pss_one (ps_if (pt_cmpR op_le (pv 8) pe_int (nomark _)) (pss_cons (ps_set (i := 12) nd rfl (.inl rfl) (pe_lst (pa_cons (pe_has h__law_apart (hr.mono (by omega)) (by rfl) (pa_cons (pv 7) (pa_cons (pv 5) (pa_cons (pv 10) pa_nil)))) (pa_cons (pe_has h__law_apart (hr.mono (by omega)) (by rfl) (pa_cons (pv 7) (pa_cons (pv 5) (pa_cons (pv 11) pa_nil)))) (pa_cons (pe_cmpR op_lt (pv 8) pe_int (nomark _)) pa_nil)))))
    (pss_one (ps_for PassesOwn.never rfl (pi_zipW (K := K) rfl (by rfl) T.b_zip (pa_cons (pe_tup (pa_cons (pv 10) (pa_cons (pv 11) (pa_cons (pe_op op_cat (pe_slice sl_list (pv 10) po_none (po_some (pe_un un_neg pe_int))) (pe_slice sl_list (pv 10) po_none (po_some pe_int))) pa_nil)))) (pa_cons (pv 12) pa_nil))) (pg_tup (by rfl) (pgs_cons (pg_name (i := 13) nd rfl (.inl rfl)) (pgs_cons (pg_name (i := 14) nd rfl (.inl rfl)) pgs_nil)))
      (pss_cons (ps_setLc (i := 15) (own := [("_law_some", 6)]) (by rfl) nd rfl rfl (sw_true rfl rfl rfl (by decide +kernel)) (pi_list (pv 13)) (blkOk_by (own := [("_law_some", 6)]) (N := nm_law) (sc := defScope s_law) (by decide +kernel)) (fun _ _ _ _ _ => pg_name (i := 6) nd rfl (.inl rfl)) (fun _ _ _ _ _ => pts_nil) (fun _ _ _ _ _ => (pe_callTy (call_list_ofK (K := K) rfl) (by rfl) T.b_list (by decide +kernel) (pa_cons (pv 6) pa_nil))))
    (pss_cons (ps_if (PW.pt (pw_or (pt_not (pt_val (pe_ix ix_list (pv 12) pe_int (fun _ _ => rfl)))) (pw_or1 (pt_cmpR op_ne (pe_callB call_repr_bool (by rfl) T.b_repr (by decide +kernel) (pa_cons (pe_has h_are_apart (hr.mono (by omega)) (by rfl) (pa_cons (pv 9) (pa_cons (pv 5) (pa_cons (pv 15) pa_nil)))) pa_nil)) (pe_callB call_repr_bool (by rfl) T.b_repr (by decide +kernel) (pa_cons (pv 14) pa_nil)) (nomark _))))) (pss_one (ps_ret pe_bl)) pss_nil)
    (pss_one (ps_if (PW.pt (pw_or (pt_cmpR (op_neD hr.units) (pv 15) (pv 13) (nomark _)) (pw_or1 (pt_cmpR (op_neD hr.units) (pv 9) (pv 7) (nomark _))))) (pss_one (ps_ret pe_bl)) pss_nil))))))) pss_nil))))))
    (pss_one (ps_if (pt_not (pt_val (pe_has h__law_any_sizes_right (hr.mono (by omega)) (by rfl) (pa_cons (pv 1) pa_nil)))) (pss_one (ps_ret pe_bl)) pss_nil))))))))))
    (pss_one (ps_ret pe_bl)))), ?_⟩
    have line : (5000000 : Nat) < sizeLine := by decide
    refine ⟨_, rfl, a, ns, rfl, hS, hl, fun H1 t c ht hc sm tp => ?_⟩
    refine ⟨_, rfl, a, _, rfl, .inl (sm.seq hS), _, _, rfl, _, _, rfl, rfl, _, rfl, ?_, ?_, for_range (lo := 0) (fun i σ H2 => P2 a t c (3000 * i) σ H2) ⟨none, none, none, none, none, none, none, none, none, none, none, none, none, none, rfl, tp⟩ ?_ ?_⟩
    · split <;> omega
    · split <;> omega
    rotate_left
    · rintro σ H' _
      exact k H'
    rintro i σ H2 hi ⟨v2, v3, v4, v5, v6, v7, v8, v9, v10, v11, v12, v13, v14, v15, rfl, tp2⟩
    have hi2 : i < 6 := by split at hi <;> omega
    refine ⟨_, rfl, t, c, 8, _, rfl, tp2, by omega, by decide, pow8000 (by decide), fun H3 r3 a3 b3 tp3 kp3 => ⟨_, rfl, t, c, 8, _, rfl, tp3, by omega, by decide, pow8000 (by decide), fun H4 r4 a4 b4 tp4 kp4 => ⟨_, _, rfl, rfl, _, _, rfl, ?_⟩⟩⟩
    obtain ⟨n0, en⟩ : ∃ n0 : Nat, 1 + r4 = (n0 : Int) := ⟨(1 + r4).toNat, by omega⟩
    generalize hv : (fun i j : Int => V.int (i + j)) 1 r4 = nv
    obtain rfl : nv = V.int (n0 : Int) := hv.symm.trans (congrArg V.int en)
    clear hv
    refine ⟨_, rfl, _, rfl, _, _, rfl, rfl, t, c, _, _, rfl, tp4, by omega, by omega, pow8000 (by omega), fun H5 r5 a5 b5 tp5 kp5 => ?_⟩
    obtain ⟨mo0, rfl⟩ : ∃ mo0 : Nat, r5 = (mo0 : Int) := ⟨r5.toNat, by omega⟩
    refine ⟨P1 a t c (3000 * i + 10), ?_, ?_⟩
    · refine ⟨_, rfl, rfl, _, rfl, ite2 (fun _ => ?_) (fun _ => ⟨_, _, n0, mo0, _, _, _, _, _, _, _, _, _, _, rfl, tp5.le (by omega), .inl ⟨by omega, by omega, by omega⟩⟩)⟩
      refine ⟨by show 2 ≤ sizeLine; decide, fun p1 m1 => ⟨by show 2 ≤ sizeLine; decide, fun p2 m2 => ⟨by show 2 ≤ sizeLine; decide, fun p3 m3 => ⟨by show 2 ≤ sizeLine; decide, fun p4 m4 => ⟨by show 2 ≤ sizeLine; decide, fun p5 m5 => ⟨by show 2 ≤ sizeLine; decide, fun p6 m6 => ⟨by show 2 ≤ sizeLine; decide, fun p7 m7 => ⟨by show 2 ≤ sizeLine; decide, fun p8 m8 => ⟨by show 2 ≤ sizeLine; decide, fun p9 m9 => ⟨by show 9 ≤ sizeLine; decide, fun L0 nL0 => ?_⟩⟩⟩⟩⟩⟩⟩⟩⟩⟩
      have z9 := same_new nL0 (o := .lst [V.ref p1, .ref p2, .ref p3, .ref p4, .ref p5, .ref p6, .ref p7, .ref p8, .ref p9])
      have z8 := (same_new m9 (o := .tup [V.int 60, .int 59])).trans z9
      have z7 := (same_new m8 (o := .tup [V.int 60, .int 60])).trans z8
      have z6 := (same_new m7 (o := .tup [V.int 16, .int 4])).trans z7
      have z5 := (same_new m6 (o := .tup [V.int 15, .int 9])).trans z6
      have z4 := (same_new m5 (o := .tup [V.int 14, .int 6])).trans z5
      have z3 := (same_new m4 (o := .tup [V.int 14, .int 5])).trans z4
      have z2 := (same_new m3 (o := .tup [V.int 60, .int 30])).trans z3
      have z1 := (same_new m2 (o := .tup [V.int 60, .int 2])).trans z2
      have z0 := (same_new m1 (o := .tup [V.int 60, .int 1])).trans z1
      have f1 := z1 p1 _ (upd_same : (upd H5 p1 (.tup [V.int 60, .int 1])) p1 = some (.tup [V.int 60, .int 1]))
      have f2 := z2 p2 _ (upd_same : (upd (upd H5 p1 (.tup [V.int 60, .int 1])) p2 (.tup [V.int 60, .int 2])) p2 = some (.tup [V.int 60, .int 2]))
      have f3 := z3 p3 _ (upd_same : (upd (upd (upd H5 p1 (.tup [V.int 60, .int 1])) p2 (.tup [V.int 60, .int 2])) p3 (.tup [V.int 60, .int 30])) p3 = some (.tup [V.int 60, .int 30]))
      have f4 := z4 p4 _ (upd_same : (upd (upd (upd (upd H5 p1 (.tup [V.int 60, .int 1])) p2 (.tup [V.int 60, .int 2])) p3 (.tup [V.int 60, .int 30])) p4 (.tup [V.int 14, .int 5])) p4 = some (.tup [V.int 14, .int 5]))
      have f5 := z5 p5 _ (upd_same : (upd (upd (upd (upd (upd H5 p1 (.tup [V.int 60, .int 1])) p2 (.tup [V.int 60, .int 2])) p3 (.tup [V.int 60, .int 30])) p4 (.tup [V.int 14, .int 5])) p5 (.tup [V.int 14, .int 6])) p5 = some (.tup [V.int 14, .int 6]))
      have f6 := z6 p6 _ (upd_same : (upd (upd (upd (upd (upd (upd H5 p1 (.tup [V.int 60, .int 1])) p2 (.tup [V.int 60, .int 2])) p3 (.tup [V.int 60, .int 30])) p4 (.tup [V.int 14, .int 5])) p5 (.tup [V.int 14, .int 6])) p6 (.tup [V.int 15, .int 9])) p6 = some (.tup [V.int 15, .int 9]))
      have f7 := z7 p7 _ (upd_same : (upd (upd (upd (upd (upd (upd (upd H5 p1 (.tup [V.int 60, .int 1])) p2 (.tup [V.int 60, .int 2])) p3 (.tup [V.int 60, .int 30])) p4 (.tup [V.int 14, .int 5])) p5 (.tup [V.int 14, .int 6])) p6 (.tup [V.int 15, .int 9])) p7 (.tup [V.int 16, .int 4])) p7 = some (.tup [V.int 16, .int 4]))
      have f8 := z8 p8 _ (upd_same : (upd (upd (upd (upd (upd (upd (upd (upd H5 p1 (.tup [V.int 60, .int 1])) p2 (.tup [V.int 60, .int 2])) p3 (.tup [V.int 60, .int 30])) p4 (.tup [V.int 14, .int 5])) p5 (.tup [V.int 14, .int 6])) p6 (.tup [V.int 15, .int 9])) p7 (.tup [V.int 16, .int 4])) p8 (.tup [V.int 60, .int 60])) p8 = some (.tup [V.int 60, .int 60]))
      have f9 := z9 p9 _ (upd_same : (upd (upd (upd (upd (upd (upd (upd (upd (upd H5 p1 (.tup [V.int 60, .int 1])) p2 (.tup [V.int 60, .int 2])) p3 (.tup [V.int 60, .int 30])) p4 (.tup [V.int 14, .int 5])) p5 (.tup [V.int 14, .int 6])) p6 (.tup [V.int 15, .int 9])) p7 (.tup [V.int 16, .int 4])) p8 (.tup [V.int 60, .int 60])) p9 (.tup [V.int 60, .int 59])) p9 = some (.tup [V.int 60, .int 59]))
      have hL0 : (upd (upd (upd (upd (upd (upd (upd (upd (upd (upd H5 p1 (.tup [V.int 60, .int 1])) p2 (.tup [V.int 60, .int 2])) p3 (.tup [V.int 60, .int 30])) p4 (.tup [V.int 14, .int 5])) p5 (.tup [V.int 14, .int 6])) p6 (.tup [V.int 15, .int 9])) p7 (.tup [V.int 16, .int 4])) p8 (.tup [V.int 60, .int 60])) p9 (.tup [V.int 60, .int 59])) L0 (.lst [V.ref p1, .ref p2, .ref p3, .ref p4, .ref p5, .ref p6, .ref p7, .ref p8, .ref p9])) L0 = some (.lst [V.ref p1, .ref p2, .ref p3, .ref p4, .ref p5, .ref p6, .ref p7, .ref p8, .ref p9]) := upd_same
      have tp6 := tp5.same z0
      generalize (upd (upd (upd (upd (upd (upd (upd (upd (upd (upd H5 p1 (.tup [V.int 60, .int 1])) p2 (.tup [V.int 60, .int 2])) p3 (.tup [V.int 60, .int 30])) p4 (.tup [V.int 14, .int 5])) p5 (.tup [V.int 14, .int 6])) p6 (.tup [V.int 15, .int 9])) p7 (.tup [V.int 16, .int 4])) p8 (.tup [V.int 60, .int 60])) p9 (.tup [V.int 60, .int 59])) L0 (.lst [V.ref p1, .ref p2, .ref p3, .ref p4, .ref p5, .ref p6, .ref p7, .ref p8, .ref p9])) = H6 at z0 f1 f2 f3 f4 f5 f6 f7 f8 f9 hL0 tp6 ⊢
      clear z9 z8 z7 z6 z5 z4 z3 z2 z1 m1 m2 m3 m4 m5 m6 m7 m8 m9 nL0
      have ap0 : APs H6 [V.ref p1, .ref p2, .ref p3, .ref p4, .ref p5, .ref p6, .ref p7, .ref p8, .ref p9] := fun v hv => by
        simp only [List.mem_cons, List.not_mem_nil, or_false] at hv
        rcases hv with e | e | e | e | e | e | e | e | e
        · exact ⟨p1, 60, 1, e, f1, by decide⟩
        · exact ⟨p2, 60, 2, e, f2, by decide⟩
        · exact ⟨p3, 60, 30, e, f3, by decide⟩
        · exact ⟨p4, 14, 5, e, f4, by decide⟩
        · exact ⟨p5, 14, 6, e, f5, by decide⟩
        · exact ⟨p6, 15, 9, e, f6, by decide⟩
        · exact ⟨p7, 16, 4, e, f7, by decide⟩
        · exact ⟨p8, 60, 60, e, f8, by decide⟩
        · exact ⟨p9, 60, 59, e, f9, by decide⟩
      clear f1 f2 f3 f4 f5 f6 f7 f8 f9
      refine ⟨_, rfl, _, rfl, by show 2 ≤ sizeLine; decide, fun q1 k1 => ⟨by show 2 ≤ sizeLine; decide, fun q2 k2 => ⟨by show 2 ≤ sizeLine; decide, fun L1 nL1 => ⟨L0, L1, _, _, rfl, rfl, same_new nL1 _ _ (same_new k2 _ _ (same_new k1 _ _ hL0)), upd_same, by show 9 + 2 ≤ sizeLine; decide, fun L2 nL2 => ⟨by show 2 ≤ sizeLine; decide, fun q3 k3 => ⟨by show 1 ≤ sizeLine; decide, fun L3 nL3 => ⟨L3, 3, [.ref q3], rfl, rfl, upd_same, by decide, by decide, by show 1 * 3 ≤ sizeLine; decide, fun L4 nL4 => ⟨L2, L4, _, _, rfl, rfl, same_new nL4 _ _ (same_new nL3 _ _ (same_new k3 _ _ upd_same)), upd_same, by show 11 + 3 ≤ sizeLine; decide, fun L5 nL5 => ?_⟩⟩⟩⟩⟩⟩⟩⟩
      have y1 := ((same_new k2 (o := .tup [V.int 28, .int 2])).trans (same_new nL1 (o := .lst [V.ref q1, .ref q2]))).trans (same_new nL2 (o := .lst ([V.ref p1, .ref p2, .ref p3, .ref p4, .ref p5, .ref p6, .ref p7, .ref p8, .ref p9] ++ [V.ref q1, .ref q2])))
      have y2 := (same_new nL1 (o := .lst [V.ref q1, .ref q2])).trans (same_new nL2 (o := .lst ([V.ref p1, .ref p2, .ref p3, .ref p4, .ref p5, .ref p6, .ref p7, .ref p8, .ref p9] ++ [V.ref q1, .ref q2])))
      have y3 := ((same_new nL3 (o := .lst [V.ref q3])).trans (same_new nL4 (o := .lst (List.replicate (3 : Int).toNat [V.ref q3]).flatten))).trans (same_new nL5 (o := .lst ([V.ref p1, .ref p2, .ref p3, .ref p4, .ref p5, .ref p6, .ref p7, .ref p8, .ref p9] ++ [V.ref q1, .ref q2] ++ (List.replicate (3 : Int).toNat [V.ref q3]).flatten)))
      have y4 := (same_new k3 (o := .tup [V.int 21, .int 1])).trans y3
      have g1 := y4 _ _ (y1 q1 _ (upd_same : (upd H6 q1 (.tup [V.int 18, .int 3])) q1 = some (.tup [V.int 18, .int 3])))
      have g2 := y4 _ _ (y2 q2 _ (upd_same : (upd (upd H6 q1 (.tup [V.int 18, .int 3])) q2 (.tup [V.int 28, .int 2])) q2 = some (.tup [V.int 28, .int 2])))
      have g3 := y3 q3 _ upd_same
      have y0 := (same_new k1 (o := .tup [V.int 18, .int 3])).trans (y1.trans y4)
      have ap1 := ap0.same y0
      have tp7 := tp6.same y0
      have hL5 := (upd_same : (upd (upd (upd (upd (upd (upd (upd (upd H6 q1 (.tup [V.int 18, .int 3])) q2 (.tup [V.int 28, .int 2])) L1 (.lst [V.ref q1, .ref q2])) L2 (.lst ([V.ref p1, .ref p2, .ref p3, .ref p4, .ref p5, .ref p6, .ref p7, .ref p8, .ref p9] ++ [V.ref q1, .ref q2]))) q3 (.tup [V.int 21, .int 1])) L3 (.lst [V.ref q3])) L4 (.lst (List.replicate (3 : Int).toNat [V.ref q3]).flatten)) L5 (.lst ([V.ref p1, .ref p2, .ref p3, .ref p4, .ref p5, .ref p6, .ref p7, .ref p8, .ref p9] ++ [V.ref q1, .ref q2] ++ (List.replicate (3 : Int).toNat [V.ref q3]).flatten))) L5 = _)
      generalize upd (upd (upd (upd (upd (upd (upd (upd H6 q1 (.tup [V.int 18, .int 3])) q2 (.tup [V.int 28, .int 2])) L1 (.lst [V.ref q1, .ref q2])) L2 (.lst ([V.ref p1, .ref p2, .ref p3, .ref p4, .ref p5, .ref p6, .ref p7, .ref p8, .ref p9] ++ [V.ref q1, .ref q2]))) q3 (.tup [V.int 21, .int 1])) L3 (.lst [V.ref q3])) L4 (.lst (List.replicate (3 : Int).toNat [V.ref q3]).flatten)) L5 (.lst ([V.ref p1, .ref p2, .ref p3, .ref p4, .ref p5, .ref p6, .ref p7, .ref p8, .ref p9] ++ [V.ref q1, .ref q2] ++ (List.replicate (3 : Int).toNat [V.ref q3]).flatten)) = H7 at g1 g2 g3 ap1 tp7 hL5 ⊢
      have ap2 : APs H7 ([V.ref p1, .ref p2, .ref p3, .ref p4, .ref p5, .ref p6, .ref p7, .ref p8, .ref p9] ++ [V.ref q1, .ref q2] ++ (List.replicate (3 : Int).toNat [V.ref q3]).flatten) := fun v hv => by
        rcases List.mem_append.mp hv with z | z
        · rcases List.mem_append.mp z with z | z
          · exact ap1 v z
          · simp only [List.mem_cons, List.not_mem_nil, or_false] at z
            rcases z with e | e
            · exact ⟨q1, 18, 3, e, g1, by decide⟩
            · exact ⟨q2, 28, 2, e, g2, by decide⟩
        · rw [flat_one] at z
          exact ⟨q3, 21, 1, (List.mem_replicate.mp z).2, g3, by decide⟩
      refine ⟨t, c, L5, _, _, rfl, tp7, by omega, fun H' kp => .inl (SqL.of (tp7.sq hL5 kp)), by show 0 < 14; decide, by show 14 ≤ 1000000; decide, fun H8 i8 v8' g8 tp8 kp8 => ?_⟩
      obtain ⟨pp, n', m', e8, hp8, hin⟩ := ap2 _ (List.mem_of_getElem? g8)
      subst e8
      have hp8 := KT.kp tp7 kp8 _ _ hp8
      exact ⟨pp, _, rfl, SqT.of hp8, rfl, _, _, rfl, _, _, rfl, rfl, _, _, n', m', _, _, _, _, _, _, _, _, _, _, rfl, tp8.le (by omega), .inr hin⟩
    clear tp5 tp4 tp3 tp2 kp3 kp4 kp5 en a5 b5 a4 b4
    rintro σ H3 ⟨i', wy, n, mo, v6, v7, v8, v9, v10, v11, v12, v13, v14, v15, rfl, tp3, okp⟩
    obtain ⟨num, n18, n1, n60, m60⟩ := ok_num okp
    refine ⟨_, rfl, _, rfl, t, c, (n : Int), _, rfl, tp3, by omega, by omega, by omega, fun H4 M ms nM hM lm un lim tp4 kp4 => ?_⟩
    have lm2 : ms.length = n := by omega
    subst lm2
    have ndm := un.nodup
    refine ⟨_, rfl, _, rfl, _, _, rfl, rfl, ms.length, mo + 1, rfl, by omega, by omega, ?_⟩
    refine ⟨_, rfl, M, _, rfl, .inl (SqL.of hM), fun h0 n0' => ?_⟩
    have s4 := same_new n0' (o := .lst (ms.map V.int))
    have hh0 : (upd H4 h0 (.lst (ms.map V.int))) h0 = some (.lst (ms.map V.int)) := upd_same
    have tp5 : Tape (upd H4 h0 (.lst (ms.map V.int))) t c (3000 * i + 130) := (tp4.same s4).le (by omega)
    have hM5 := s4 _ _ hM
    generalize upd H4 h0 (.lst (ms.map V.int)) = H5 at s4 hh0 tp5 hM5 ⊢
    clear tp4 tp3 kp4 nM hM s4
    refine ⟨P2 a t c (3000 * i + 200), ?_, ?_⟩
    · refine ⟨_, rfl, _, _, rfl, rfl, _, rfl, ite2 (fun big => ?_) (fun few => ?_)⟩
      · have big := of_decide_eq_true big
        refine ⟨_, rfl, _, rfl, h0, ms, mo, rfl, hh0, n60, by omega, by rw [num]; exact big, by rw [num]; exact n18, fun H6 s6 => ?_⟩
        refine ⟨_, rfl, .int (lnum ms.length (mo + 1)), .int (lnum ms.length (mo + 1)), by rw [num]; exact .int _, .int _, rfl, rfl, _, rfl, ?_⟩
        rw [SeqAt.eqv_refl _ (show (PyData.int (lnum ms.length (mo + 1))).canLay0 = true from rfl)]
        refine iteF ⟨_, rfl, _, rfl, lstD ms, lstD ms, dp_lst (s6 _ _ hh0), dp_lst (s6 _ _ hM5), shape_lst ms, shape_lst ms, _, rfl, ?_⟩
        rw [SeqAt.eqv_refl _ (lay_lst ms)]
        exact iteF ⟨_, _, _, _, _, _, _, _, _, _, _, _, _, _, rfl, (tp5.same s6).le (by omega)⟩
      · have few : ¬ (3003 : Int) < lnum ms.length (mo + 1) := fun z => few (decide_eq_true z)
        have few' : wAll (onesI ms.length) ((mo : Int) + 1) ≤ 3003 := by
          rw [num]
          omega
        have cnt := told_count (ms := ms) (most := mo)
        rw [num] at cnt
        have S := told_sets (most := mo) ndm
        have ap := told_apart (most := mo) ndm
        have th := told_third (most := mo) ndm
        have wS : ∀ {ss : List (List Int)}, SetsOf ms ss → ∀ l ∈ ss, l.length ≤ 1000 := fun {ss} so l hl => by
          have := nodup_len (so l hl).1 (so l hl).2
          omega
        refine ⟨_, rfl, _, rfl, h0, ms, mo, rfl, hh0, n60, by omega, .inl ⟨few', fun H6 D qs s6 nD hLs => ?_⟩⟩
        refine ⟨_, rfl, _, rfl, lstD ms, lstD ms, dp_lst (s6 _ _ hh0), dp_lst (s6 _ _ hM5), shape_lst ms, shape_lst ms, _, rfl, ?_⟩
        rw [SeqAt.eqv_refl _ (lay_lst ms)]
        refine iteF ⟨_, rfl, _, .ty "list", _, _, _, rfl, .ty _, .base (.lst hLs.l), kt_list, _, rfl, iteF ?_⟩
        refine ⟨_, rfl, D, _, rfl, .inl (SqL.of hLs.l), _, rfl, rfl, _, rfl, iteNS (congrArg V.int (by rw [List.length_map, hLs.n, cnt])) ?_⟩
        have lenT : (toldL ms mo).length ≤ 3003 := by omega
        refine ⟨_, rfl, _, rfl, M, D, ms, qs, toldL ms mo, rfl, s6 _ _ hM5, hLs, S, by omega, fun H7 s7 => ⟨true, rfl, iteF ?_⟩⟩
        have s57 := s6.trans s7
        have tp7 := tp5.same s57
        have hM7 := s57 _ _ hM5
        have hh7 := s57 _ _ hh0
        have hL7 := hLs.same s7
        clear tp5 hM5 hh0 hLs s57 s6 s7 nD
        refine ⟨_, rfl, _, rfl, _, rfl, _, rfl, t, c, M, D, ms, mo, _, qs, toldL ms mo, rfl, tp7, by omega, hM7, n1, n60, ndm, by omega, hL7, by omega, S, fun H8 Bt qs2 ss2 tp8 kp8 hL2 l2 so2 => ?_⟩
        have kl : ∀ {p : Addr} {xs : List V}, H7 p = some (.lst xs) → H8 p = some (.lst xs) := fun e => tp7.sq e kp8
        have hM8 := kl hM7
        have hh8 := kl hh7
        have hL8 : Ls H8 D qs (toldL ms mo) := ⟨kl hL7.l, hL7.n, fun i q l hq hl => kl (hL7.t i q l hq hl)⟩
        have tp8 : Tape H8 t c (3000 * i + 150) := tp8.le (by omega)
        clear tp7 hM7 hh7 hL7 kp8 kl
        refine ⟨_, rfl, _, _, rfl, rfl, _, rfl, ite2 (fun le => ?_) (fun _ => ⟨_, _, _, _, _, _, _, _, _, _, _, _, _, _, rfl, tp8.le (by omega)⟩)⟩
        refine ⟨_, rfl, _, rfl, _, rfl, M, D, mo, ms, qs, toldL ms mo, rfl, hM8, hL8, by omega, wS S, fun H9 s9 => ⟨_, rfl, _, rfl, _, rfl, M, Bt, mo, ms, qs2, ss2, rfl, s9 _ _ hM8, hL2.same s9, by omega, wS so2, fun H10 s10 => ⟨_, rfl, _, _, rfl, rfl, by show 3 ≤ sizeLine; decide, fun X nX => ?_⟩⟩⟩
        have s11 := (s9.trans s10).trans (same_new nX (o := .lst [V.bl (apB mo (toldL ms mo)), .bl (apB mo ss2), .bl (decide (lnum ms.length (mo + 1) < 2))]))
        have hX : (upd H10 X (.lst [V.bl (apB mo (toldL ms mo)), .bl (apB mo ss2), .bl (decide (lnum ms.length (mo + 1) < 2))])) X = some (.lst [V.bl (apB mo (toldL ms mo)), .bl (apB mo ss2), .bl (decide (lnum ms.length (mo + 1) < 2))]) := upd_same
        have hM11 := s11 _ _ hM8
        have hh11 := s11 _ _ hh8
        have hLT := hL8.same s11
        have hLB := hL2.same s11
        have tp11 := tp8.same s11
        generalize upd H10 X (.lst [V.bl (apB mo (toldL ms mo)), .bl (apB mo ss2), .bl (decide (lnum ms.length (mo + 1) < 2))]) = H11 at s11 hX hM11 hh11 hLT hLB tp11 ⊢
        clear s11 s9 s10 nX hM8 hh8 hL8 hL2 tp8
        refine ⟨_, rfl, _, rfl, _, rfl, _, rfl, (-1), rfl, D, _, rfl, SqL.of hLT.l, fun p1 m1 => ⟨_, rfl, 1, rfl, D, _, rfl, SqL.of (same_new m1 _ _ hLT.l), fun p2 m2 => ⟨p1, p2, _, _, rfl, rfl, same_new m2 _ _ upd_same, upd_same, ?_, fun p3 m3 => ⟨by show 3 ≤ sizeLine; decide, fun Z nZ => ?_⟩⟩⟩⟩
        · rw [cut_last]
          show _ + (cutV _ none (some ((1 : Nat) : Int))).length ≤ _
          have := hLT.n
          rw [cut_0j, List.length_dropLast, List.length_take, List.length_map]
          omega
        have e3 : cutV (qs.map V.ref) none (some (-1)) ++ cutV (qs.map V.ref) none (some 1) = (qs.dropLast ++ qs.take 1).map V.ref := by
          rw [cut_last]
          show _ ++ cutV _ none (some ((1 : Nat) : Int)) = _
          rw [cut_0j, List.map_append, List.map_dropLast, List.map_take]
        have s12 := (((same_new m1 (o := .lst (cutV (qs.map V.ref) none (some (-1))))).trans (same_new m2 (o := .lst (cutV (qs.map V.ref) none (some 1))))).trans (same_new m3 (o := .lst (cutV (qs.map V.ref) none (some (-1)) ++ cutV (qs.map V.ref) none (some 1))))).trans (same_new nZ (o := .tup [V.ref D, .ref Bt, .ref p3]))
        have hp3 := same_new nZ (o := .tup [V.ref D, .ref Bt, .ref p3]) _ _ (upd_same : (upd (upd (upd H11 p1 (.lst (cutV (qs.map V.ref) none (some (-1))))) p2 (.lst (cutV (qs.map V.ref) none (some 1)))) p3 (.lst (cutV (qs.map V.ref) none (some (-1)) ++ cutV (qs.map V.ref) none (some 1)))) p3 = some (.lst (cutV (qs.map V.ref) none (some (-1)) ++ cutV (qs.map V.ref) none (some 1))))
        have hZ : (upd (upd (upd (upd H11 p1 (.lst (cutV (qs.map V.ref) none (some (-1))))) p2 (.lst (cutV (qs.map V.ref) none (some 1)))) p3 (.lst (cutV (qs.map V.ref) none (some (-1)) ++ cutV (qs.map V.ref) none (some 1)))) Z (.tup [V.ref D, .ref Bt, .ref p3])) Z = some (.tup [V.ref D, .ref Bt, .ref p3]) := upd_same
        have hX12 := s12 _ _ hX
        have hM12 := s12 _ _ hM11
        have hh12 := s12 _ _ hh11
        have hLT12 := hLT.same s12
        have hLB12 := hLB.same s12
        have tp12 := tp11.same s12
        generalize upd (upd (upd (upd H11 p1 (.lst (cutV (qs.map V.ref) none (some (-1))))) p2 (.lst (cutV (qs.map V.ref) none (some 1)))) p3 (.lst (cutV (qs.map V.ref) none (some (-1)) ++ cutV (qs.map V.ref) none (some 1)))) Z (.tup [V.ref D, .ref Bt, .ref p3]) = H12 at s12 hp3 hZ hX12 hM12 hh12 hLT12 hLB12 tp12 ⊢
        rw [e3] at hp3
        have hL3 := hLT12.third hp3
        have S3 : SetsOf ms ((toldL ms mo).dropLast ++ (toldL ms mo).take 1) := fun l hl => by
          rcases List.mem_append.mp hl with z | z
          · exact S l ((List.dropLast_sublist _).subset z)
          · exact S l (List.mem_of_mem_take z)
        clear s12 e3 m1 m2 m3 nZ hX hM11 hh11 hLT hLB tp11
        refine ⟨_, rfl, .tp, .ls, Z, X, _, _, rfl, SqT.of hZ, SqL.of hX12, for_zipw (xs := [V.ref D, .ref Bt, .ref p3]) (ys := [V.bl (apB mo (toldL ms mo)), .bl (apB mo ss2), .bl (decide (lnum ms.length (mo + 1) < 2))]) (by rfl) (fun j σ H' => ∃ (v13 v14 v15 : Option V), σ = [some (.ref a), some (.ref t), some (.int i'), some (.int wy), some (.int ms.length), some (.int mo), v6, some (.ref M), some (.int (lnum ms.length (mo + 1))), some (.ref h0), some (.ref D), some (.ref Bt), some (.ref X), v13, v14, v15] ∧ Same H12 H') ⟨v13, v14, v15, rfl, Same.refl _⟩ (fun j σ H' ⟨_, _, _, _, s⟩ => ⟨SqT.of (s _ _ hZ), SqL.of (s _ _ hX12)⟩) ?_ ?_⟩
        · rintro j x y pp σ H13 hx hy ⟨v13, v14, v15, rfl, s13⟩ npp
          obtain ⟨T', qj, sj, rfl, hj, soj, lj, rfl⟩ : ∃ (T' : Addr) (qj : List Addr) (sj : List (List Int)), x = .ref T' ∧ Ls H12 T' qj sj ∧ SetsOf ms sj ∧ sj.length ≤ 100000 ∧ y = .bl (apB mo sj) := by
            match j, hx, hy with
            | 0, hx, hy => exact ⟨D, qs, _, (Option.some.inj hx).symm, hLT12, S, by omega, (Option.some.inj hy).symm⟩
            | 1, hx, hy => exact ⟨Bt, qs2, ss2, (Option.some.inj hx).symm, hLB12, so2, by omega, (Option.some.inj hy).symm⟩
            | 2, hx, hy =>
              refine ⟨p3, _, _, (Option.some.inj hx).symm, hL3, S3, by rw [List.length_append, List.length_dropLast, List.length_take]; omega, ?_⟩
              rw [← Option.some.inj hy, th]
              exact congrArg V.bl (decide_eq_decide.mpr (by omega))
            | j + 3, hx, hy => exact absurd hx (by simp)
          refine ⟨pp, _, rfl, SqT.of upd_same, rfl, _, _, rfl, _, _, rfl, rfl, ?_⟩
          have s14 := s13.trans (same_new npp (o := .tup [V.ref T', .bl (apB mo sj)]))
          generalize upd H13 pp (.tup [V.ref T', .bl (apB mo sj)]) = H14 at s14 ⊢
          have hj14 := hj.same s14
          refine ⟨_, rfl, T', rfl, ⟨_, SqL.of hj14.l⟩, fun Zc nZc => lc_relD (fun m y H'' => ∃ p l, y = .ref p ∧ p ≠ Zc ∧ sj[m]? = some l ∧ H'' p = some (.lst (l.map V.int))) (fun j y H1 H2 ⟨q, l, e, ne, h1, h2⟩ s' => ⟨q, l, e, ne, h1, s' _ _ h2⟩) (fun j y H1 l' o hZ ⟨q, l, e, ne, h1, h2⟩ => ⟨q, l, e, ne, h1, by rw [upd_ne ne]; exact h2⟩) (SqL.of hj14.l) nZc (by rw [List.length_map, hj14.n]; omega) (fun x => rfl) (fun m x hx H15 s15 hz R g => ?_) (fun H15 zs s15 hZc lz rz => ?_)⟩
          · obtain ⟨q, l, rfl, hq, hl, hql⟩ := (hj14.same s15).at hx
            obtain ⟨lz, hz⟩ := hz
            exact ⟨_, rfl, q, _, rfl, .inl (SqL.of hql), fun L nL => g _ _ (same_new nL) ⟨L, l, rfl, (ne_of_none hz nL).symm, hl, upd_same⟩⟩
          obtain ⟨ps, rfl, rs⟩ := refs_of (R := fun m p => ∃ l, sj[m]? = some l ∧ H15 p = some (.lst (l.map V.int))) (ys := zs) (k := 0) fun m y hy => by
            obtain ⟨p, c, e, _, h1, h2⟩ := rz m y hy
            exact ⟨p, e, c, by rw [Nat.zero_add]; exact h1, h2⟩
          rw [List.length_map, List.length_map] at lz
          have hLc : Ls H15 Zc ps sj := ⟨hZc, by rw [lz, hj14.n], fun m p l hp hl => by
            obtain ⟨c, h1, h2⟩ := rs m p hp
            rw [Nat.zero_add, hl] at h1
            cases h1
            exact h2⟩
          have s16 := s14.trans s15
          refine ⟨_, rfl, X, _, _, _, rfl, rfl, SqL.of (s16 _ _ hX12), at_of (j := 0) rfl rfl, _, rfl, ?_⟩
          rw [ap]
          refine iteF ?_
          refine ⟨_, rfl, _, rfl, _, rfl, h0, Zc, mo, ms, ps, sj, rfl, s16 _ _ hh12, by omega, by omega, hLc, lj, soj, fun H17 s17 => ⟨_, rfl, _, rfl, _, rfl, rfl, _, rfl, iteNS rfl ?_⟩⟩
          have s18 := s16.trans s17
          refine ⟨_, rfl, _, rfl, lssD sj, lssD sj, dp_lss (hLc.same s17), dp_lss (hj.same s18), shape_lss sj, shape_lss sj, _, rfl, ?_⟩
          rw [SeqAt.eqv_refl _ (lay_lss sj)]
          refine iteF ⟨_, rfl, _, rfl, lstD ms, lstD ms, dp_lst (s18 _ _ hh12), dp_lst (s18 _ _ hM12), shape_lst ms, shape_lst ms, _, rfl, ?_⟩
          rw [SeqAt.eqv_refl _ (lay_lst ms)]
          exact iteF ⟨_, _, _, rfl, s18⟩
        · rintro σ H13 ⟨v13, v14, v15, rfl, s13⟩
          exact ⟨_, _, _, _, _, _, _, _, _, _, _, _, _, _, rfl, (tp12.same s13).le (by omega)⟩
    rintro σ H6 ⟨v2, v3, v4, v5, v6, v7, v8, v9, v10, v11, v12, v13, v14, v15, rfl, tp6⟩
    refine ⟨_, rfl, t, c, _, rfl, tp6, by omega, fun H7 tp7 kp7 => ⟨true, rfl, iteF ?_⟩⟩
    exact ⟨_, _, _, _, _, _, _, _, _, _, _, _, _, _, rfl, tp7.le (by omega)⟩
theorem at_law {f : Addr} {fd : FuncData} (F : Fun K "law" "law" s_law f fd) (T : Top K mg cs) : RunAt P w K mg base f fd ["_law_script"] (spLaw K) :=
  have d := has_draw T
  have p := has_pick T d
  have m := has_far T d p
  have ch := has_choices T (hc_TooMany T) (has_how T (has_ways T (has_one T)))
  have ap := has_apart T ch
  have ar := has_are T (has_more T)
  have la := has_lapart T
  (ok_law F T (has_begun T) d p m (has_number T) (has_refused T ap) ap (has_chosen T) (has_bent T d p) la ar (has_any T d p m (has_stretches T d p (has_shuf T d)) (has_right T ar la))).at_ ⟨rfl, by decide, by decide⟩
end

theorem all_mk {l : PySem.W.OpenLaw} {w : World} {K : PySem.W.Frag} {h : Heap} {mg : Str → Option Value} {fa : Addr} (X : K.In h) (G : h.Ns mainGlobals mg) (hfa : mg "law" = some (.ref fa))
    {f0 : Addr} {od0 an0 : Option Addr} {sl0 : Array (Option Value)} {oc0 kV0 dc0 pm0 cd0 ct0 : Value}
    (a0 : PySem.W.nsIn K mainGlobals "ways" = some (some (.ref f0))) (l0 : K.lookup f0 = some ⟨oc0, od0, .func (PySem.W.fnOf "ways" "ways" (defArgs s_ways) (defBody s_ways) (defScope s_ways) .none kV0 dc0 pm0 an0 cd0 ct0), sl0⟩) (cc0 : PySem.W.codeIn K cd0 "ways" = true) (k0 : PySem.W.keepIn K (.ref f0) = true)
    {f1 : Addr} {od1 an1 : Option Addr} {sl1 : Array (Option Value)} {oc1 kV1 dc1 pm1 cd1 ct1 : Value}
    (a1 : PySem.W.nsIn K mainGlobals "how_many" = some (some (.ref f1))) (l1 : K.lookup f1 = some ⟨oc1, od1, .func (PySem.W.fnOf "how_many" "how_many" (defArgs s_how_many) (defBody s_how_many) (defScope s_how_many) .none kV1 dc1 pm1 an1 cd1 ct1), sl1⟩) (cc1 : PySem.W.codeIn K cd1 "how_many" = true) (k1 : PySem.W.keepIn K (.ref f1) = true)
    {f2 : Addr} {od2 an2 : Option Addr} {sl2 : Array (Option Value)} {oc2 kV2 dc2 pm2 cd2 ct2 : Value}
    (a2 : PySem.W.nsIn K mainGlobals "choices" = some (some (.ref f2))) (l2 : K.lookup f2 = some ⟨oc2, od2, .func (PySem.W.fnOf "choices" "choices" (defArgs s_choices) (defBody s_choices) (defScope s_choices) .none kV2 dc2 pm2 an2 cd2 ct2), sl2⟩) (cc2 : PySem.W.codeIn K cd2 "choices" = true) (k2 : PySem.W.keepIn K (.ref f2) = true)
    {f3 : Addr} {od3 an3 : Option Addr} {sl3 : Array (Option Value)} {oc3 kV3 dc3 pm3 cd3 ct3 : Value}
    (a3 : PySem.W.nsIn K mainGlobals "_with_one_more" = some (some (.ref f3))) (l3 : K.lookup f3 = some ⟨oc3, od3, .func (PySem.W.fnOf "_with_one_more" "_with_one_more" (defArgs s__with_one_more) (defBody s__with_one_more) (defScope s__with_one_more) .none kV3 dc3 pm3 an3 cd3 ct3), sl3⟩) (cc3 : PySem.W.codeIn K cd3 "_with_one_more" = true) (k3 : PySem.W.keepIn K (.ref f3) = true)
    {f4 : Addr} {od4 an4 : Option Addr} {sl4 : Array (Option Value)} {oc4 kV4 dc4 pm4 cd4 ct4 : Value}
    (a4 : PySem.W.nsIn K mainGlobals "apart" = some (some (.ref f4))) (l4 : K.lookup f4 = some ⟨oc4, od4, .func (PySem.W.fnOf "apart" "apart" (defArgs s_apart) (defBody s_apart) (defScope s_apart) .none kV4 dc4 pm4 an4 cd4 ct4), sl4⟩) (cc4 : PySem.W.codeIn K cd4 "apart" = true) (k4 : PySem.W.keepIn K (.ref f4) = true)
    {f5 : Addr} {od5 an5 : Option Addr} {sl5 : Array (Option Value)} {oc5 kV5 dc5 pm5 cd5 ct5 : Value}
    (a5 : PySem.W.nsIn K mainGlobals "are_apart" = some (some (.ref f5))) (l5 : K.lookup f5 = some ⟨oc5, od5, .func (PySem.W.fnOf "are_apart" "are_apart" (defArgs s_are_apart) (defBody s_are_apart) (defScope s_are_apart) .none kV5 dc5 pm5 an5 cd5 ct5), sl5⟩) (cc5 : PySem.W.codeIn K cd5 "are_apart" = true) (k5 : PySem.W.keepIn K (.ref f5) = true)
    {f6 : Addr} {od6 an6 : Option Addr} {sl6 : Array (Option Value)} {oc6 kV6 dc6 pm6 cd6 ct6 : Value}
    (a6 : PySem.W.nsIn K mainGlobals "_having_more" = some (some (.ref f6))) (l6 : K.lookup f6 = some ⟨oc6, od6, .func (PySem.W.fnOf "_having_more" "_having_more" (defArgs s__having_more) (defBody s__having_more) (defScope s__having_more) .none kV6 dc6 pm6 an6 cd6 ct6), sl6⟩) (cc6 : PySem.W.codeIn K cd6 "_having_more" = true) (k6 : PySem.W.keepIn K (.ref f6) = true)
    {f7 : Addr} {od7 an7 : Option Addr} {sl7 : Array (Option Value)} {oc7 kV7 dc7 pm7 cd7 ct7 : Value}
    (a7 : PySem.W.nsIn K mainGlobals "_law_begun" = some (some (.ref f7))) (l7 : K.lookup f7 = some ⟨oc7, od7, .func (PySem.W.fnOf "_law_begun" "_law_begun" (defArgs s__law_begun) (defBody s__law_begun) (defScope s__law_begun) .none kV7 dc7 pm7 an7 cd7 ct7), sl7⟩) (cc7 : PySem.W.codeIn K cd7 "_law_begun" = true) (k7 : PySem.W.keepIn K (.ref f7) = true)
    {f8 : Addr} {od8 an8 : Option Addr} {sl8 : Array (Option Value)} {oc8 kV8 dc8 pm8 cd8 ct8 : Value}
    (a8 : PySem.W.nsIn K mainGlobals "_law_draw" = some (some (.ref f8))) (l8 : K.lookup f8 = some ⟨oc8, od8, .func (PySem.W.fnOf "_law_draw" "_law_draw" (defArgs s__law_draw) (defBody s__law_draw) (defScope s__law_draw) .none kV8 dc8 pm8 an8 cd8 ct8), sl8⟩) (cc8 : PySem.W.codeIn K cd8 "_law_draw" = true) (k8 : PySem.W.keepIn K (.ref f8) = true)
    {f9 : Addr} {od9 an9 : Option Addr} {sl9 : Array (Option Value)} {oc9 kV9 dc9 pm9 cd9 ct9 : Value}
    (a9 : PySem.W.nsIn K mainGlobals "_law_pick" = some (some (.ref f9))) (l9 : K.lookup f9 = some ⟨oc9, od9, .func (PySem.W.fnOf "_law_pick" "_law_pick" (defArgs s__law_pick) (defBody s__law_pick) (defScope s__law_pick) .none kV9 dc9 pm9 an9 cd9 ct9), sl9⟩) (cc9 : PySem.W.codeIn K cd9 "_law_pick" = true) (k9 : PySem.W.keepIn K (.ref f9) = true)
    {f10 : Addr} {od10 an10 : Option Addr} {sl10 : Array (Option Value)} {oc10 kV10 dc10 pm10 cd10 ct10 : Value}
    (a10 : PySem.W.nsIn K mainGlobals "_law_marks" = some (some (.ref f10))) (l10 : K.lookup f10 = some ⟨oc10, od10, .func (PySem.W.fnOf "_law_marks" "_law_marks" (defArgs s__law_marks) (defBody s__law_marks) (defScope s__law_marks) .none kV10 dc10 pm10 an10 cd10 ct10), sl10⟩) (cc10 : PySem.W.codeIn K cd10 "_law_marks" = true) (k10 : PySem.W.keepIn K (.ref f10) = true)
    {f11 : Addr} {od11 an11 : Option Addr} {sl11 : Array (Option Value)} {oc11 kV11 dc11 pm11 cd11 ct11 : Value}
    (a11 : PySem.W.nsIn K mainGlobals "_law_number" = some (some (.ref f11))) (l11 : K.lookup f11 = some ⟨oc11, od11, .func (PySem.W.fnOf "_law_number" "_law_number" (defArgs s__law_number) (defBody s__law_number) (defScope s__law_number) .none kV11 dc11 pm11 an11 cd11 ct11), sl11⟩) (cc11 : PySem.W.codeIn K cd11 "_law_number" = true) (k11 : PySem.W.keepIn K (.ref f11) = true)
    {f12 : Addr} {od12 an12 : Option Addr} {sl12 : Array (Option Value)} {oc12 kV12 dc12 pm12 cd12 ct12 : Value}
    (a12 : PySem.W.nsIn K mainGlobals "_law_apart" = some (some (.ref f12))) (l12 : K.lookup f12 = some ⟨oc12, od12, .func (PySem.W.fnOf "_law_apart" "_law_apart" (defArgs s__law_apart) (defBody s__law_apart) (defScope s__law_apart) .none kV12 dc12 pm12 an12 cd12 ct12), sl12⟩) (cc12 : PySem.W.codeIn K cd12 "_law_apart" = true) (k12 : PySem.W.keepIn K (.ref f12) = true)
    {f13 : Addr} {od13 an13 : Option Addr} {sl13 : Array (Option Value)} {oc13 kV13 dc13 pm13 cd13 ct13 : Value}
    (a13 : PySem.W.nsIn K mainGlobals "_law_bent" = some (some (.ref f13))) (l13 : K.lookup f13 = some ⟨oc13, od13, .func (PySem.W.fnOf "_law_bent" "_law_bent" (defArgs s__law_bent) (defBody s__law_bent) (defScope s__law_bent) .none kV13 dc13 pm13 an13 cd13 ct13), sl13⟩) (cc13 : PySem.W.codeIn K cd13 "_law_bent" = true) (k13 : PySem.W.keepIn K (.ref f13) = true)
    {f14 : Addr} {od14 an14 : Option Addr} {sl14 : Array (Option Value)} {oc14 kV14 dc14 pm14 cd14 ct14 : Value}
    (a14 : PySem.W.nsIn K mainGlobals "_law_shuffled" = some (some (.ref f14))) (l14 : K.lookup f14 = some ⟨oc14, od14, .func (PySem.W.fnOf "_law_shuffled" "_law_shuffled" (defArgs s__law_shuffled) (defBody s__law_shuffled) (defScope s__law_shuffled) .none kV14 dc14 pm14 an14 cd14 ct14), sl14⟩) (cc14 : PySem.W.codeIn K cd14 "_law_shuffled" = true) (k14 : PySem.W.keepIn K (.ref f14) = true)
    {f15 : Addr} {od15 an15 : Option Addr} {sl15 : Array (Option Value)} {oc15 kV15 dc15 pm15 cd15 ct15 : Value}
    (a15 : PySem.W.nsIn K mainGlobals "_law_stretches" = some (some (.ref f15))) (l15 : K.lookup f15 = some ⟨oc15, od15, .func (PySem.W.fnOf "_law_stretches" "_law_stretches" (defArgs s__law_stretches) (defBody s__law_stretches) (defScope s__law_stretches) .none kV15 dc15 pm15 an15 cd15 ct15), sl15⟩) (cc15 : PySem.W.codeIn K cd15 "_law_stretches" = true) (k15 : PySem.W.keepIn K (.ref f15) = true)
    {f16 : Addr} {od16 an16 : Option Addr} {sl16 : Array (Option Value)} {oc16 kV16 dc16 pm16 cd16 ct16 : Value}
    (a16 : PySem.W.nsIn K mainGlobals "_law_told_right" = some (some (.ref f16))) (l16 : K.lookup f16 = some ⟨oc16, od16, .func (PySem.W.fnOf "_law_told_right" "_law_told_right" (defArgs s__law_told_right) (defBody s__law_told_right) (defScope s__law_told_right) .none kV16 dc16 pm16 an16 cd16 ct16), sl16⟩) (cc16 : PySem.W.codeIn K cd16 "_law_told_right" = true) (k16 : PySem.W.keepIn K (.ref f16) = true)
    {f17 : Addr} {od17 an17 : Option Addr} {sl17 : Array (Option Value)} {oc17 kV17 dc17 pm17 cd17 ct17 : Value}
    (a17 : PySem.W.nsIn K mainGlobals "_law_any_sizes_right" = some (some (.ref f17))) (l17 : K.lookup f17 = some ⟨oc17, od17, .func (PySem.W.fnOf "_law_any_sizes_right" "_law_any_sizes_right" (defArgs s__law_any_sizes_right) (defBody s__law_any_sizes_right) (defScope s__law_any_sizes_right) .none kV17 dc17 pm17 an17 cd17 ct17), sl17⟩) (cc17 : PySem.W.codeIn K cd17 "_law_any_sizes_right" = true) (k17 : PySem.W.keepIn K (.ref f17) = true)
    {f18 : Addr} {od18 an18 : Option Addr} {sl18 : Array (Option Value)} {oc18 kV18 dc18 pm18 cd18 ct18 : Value}
    (a18 : PySem.W.nsIn K mainGlobals "_law_chosen" = some (some (.ref f18))) (l18 : K.lookup f18 = some ⟨oc18, od18, .func (PySem.W.fnOf "_law_chosen" "_law_chosen" (defArgs s__law_chosen) (defBody s__law_chosen) (defScope s__law_chosen) .none kV18 dc18 pm18 an18 cd18 ct18), sl18⟩) (cc18 : PySem.W.codeIn K cd18 "_law_chosen" = true) (k18 : PySem.W.keepIn K (.ref f18) = true)
    {f19 : Addr} {od19 an19 : Option Addr} {sl19 : Array (Option Value)} {oc19 kV19 dc19 pm19 cd19 ct19 : Value}
    (a19 : PySem.W.nsIn K mainGlobals "_law_refused" = some (some (.ref f19))) (l19 : K.lookup f19 = some ⟨oc19, od19, .func (PySem.W.fnOf "_law_refused" "_law_refused" (defArgs s__law_refused) (defBody s__law_refused) (defScope s__law_refused) .none kV19 dc19 pm19 an19 cd19 ct19), sl19⟩) (cc19 : PySem.W.codeIn K cd19 "_law_refused" = true) (k19 : PySem.W.keepIn K (.ref f19) = true)
    {f20 : Addr} {od20 an20 : Option Addr} {sl20 : Array (Option Value)} {oc20 kV20 dc20 pm20 cd20 ct20 : Value}
    (a20 : PySem.W.nsIn K mainGlobals "law" = some (some (.ref f20))) (l20 : K.lookup f20 = some ⟨oc20, od20, .func (PySem.W.fnOf "law" "law" (defArgs s_law) (defBody s_law) (defScope s_law) .none kV20 dc20 pm20 an20 cd20 ct20), sl20⟩) (cc20 : PySem.W.codeIn K cd20 "law" = true) (k20 : PySem.W.keepIn K (.ref f20) = true)
    {C0 G0 : Addr} {nm0 q0 : Str} {N0 : Addr} {bs0 : List Value} {sn0 : List Str} {sub0 : List Value} {ab0 : Bool} {col0 : Option Bool} {dd0 : Option Addr} {ka0 kb0 kc0 kd0 ke0 : Option Value}
    {mod0 man0 : Option Addr} {msl0 : Array (Option Value)} {moc0 mkV0 mdc0 mpm0 mcd0 mct0 : Value}
    (m0 : PySem.W.nsIn K mainGlobals "TooMany" = some (some (.ref C0))) (o0 : K.lookup C0 = some (excClassObj nm0 q0 C0 N0 bs0 bmI true sn0 sub0 ab0 col0 dd0 ka0 kb0 kc0 kd0 ke0 "IndexError.__new__"))
    (i0 : PySem.W.findIn K (.ref C0) "__init__" = some (some (.ref G0))) (t0 : PySem.W.typeIn K (.ref G0) = some (.type "function"))
    (ml0 : K.lookup G0 = some ⟨moc0, mod0, .func (PySem.W.fnOf "__init__" "TooMany.__init__" (defArgs s_TooMany___init__) (defBody s_TooMany___init__) (defScope s_TooMany___init__) .none mkV0 mdc0 mpm0 man0 mcd0 mct0), msl0⟩) (mc0 : PySem.W.codeIn K mcd0 "TooMany.__init__" = true) (mk0 : PySem.W.keepIn K (.ref G0) = true)
    (sa0 : PySem.W.findIn K (.ref C0) "__setattr__" = some (some (.builtin "object.__setattr__")))
    (sb0 : PySem.W.subIn K (.ref C0) (.type "BaseException") = some true)
    (sc0 : PySem.W.typeIn K (.ref C0) = some (.type "type"))
    (sd0 : PySem.W.keepIn K (.ref C0) = true)
    (se0 : PySem.W.findIn K (.ref C0) "__getattribute__" = some (some (.builtin "BaseException.__getattribute__")))
    (sf0 : PySem.W.findIn K (.ref C0) "__getattr__" = some none)
    (sg0 : PySem.W.hasDictIn K C0 = true)
    (sh0 : PySem.W.findIn K (.ref C0) "__class__" = some (some (.builtin "object.__class__")))
    (si0 : PySem.W.mroIn K C0 (.type "object") = some true)
    (fn0_0 : PySem.W.findIn K (.ref C0) "many" = some none)
    (nd : [C0].Nodup)
    (ea : PySem.W.specialIn K (.builtin "object.__class__") "__get__" = some (some (.builtin "getset_descriptor.__get__"))) (eb : PySem.W.takesIn K (.builtin "object.__class__") = some true)
    (u0 : PySem.W.findCls K (.type "ValueError") (.type "type") "__init__" = some (.val (.builtin "ValueError.__init__")))
    (u1 : PySem.W.findCls K (.type "IndexError") (.type "type") "__init__" = some (.val (.builtin "IndexError.__init__")))
    (u2 : PySem.W.findCls K (.type "KeyError") (.type "type") "__init__" = some (.val (.builtin "KeyError.__init__")))
    (u3 : PySem.W.findCls K (.type "LookupError") (.type "type") "__init__" = some (.val (.builtin "LookupError.__init__")))
    {tk0 : Tok} (v0 : PySem.W.nsIn K mainGlobals "MOST_CHOICES" = some (some (.int 3003 tk0)))
    (z0 : PySem.W.nsIn K mainGlobals "len" = some none)
    (z1 : PySem.W.nsIn K mainGlobals "sum" = some none)
    (z2 : PySem.W.nsIn K mainGlobals "range" = some none)
    (z3 : PySem.W.nsIn K mainGlobals "min" = some none)
    (z4 : PySem.W.nsIn K mainGlobals "max" = some none)
    (z5 : PySem.W.nsIn K mainGlobals "zip" = some none)
    (z6 : PySem.W.nsIn K mainGlobals "enumerate" = some none)
    (z7 : PySem.W.nsIn K mainGlobals "list" = some none)
    (z8 : PySem.W.nsIn K mainGlobals "repr" = some none)
    (z9 : PySem.W.nsIn K mainGlobals "isinstance" = some none)
    (z10 : PySem.W.nsIn K mainGlobals "set" = some none)
    (z11 : PySem.W.nsIn K mainGlobals "IndexError" = some none)
    : ∃ fd : FuncData, (∀ (s : Shared) (v : Value), BindsTo s fd ⟨[v], []⟩ [("_law_script", v)]) ∧ ∀ base : Heap, K.In base → base.Ns mainGlobals mg → RunAt l.prog w K mg base fa fd ["_law_script"] (spLaw K) := by
  have e := hfa.symm.trans (PySem.W.mg_of X G a20)
  cases e
  have T : Top K mg (fun i => [C0].getD i 0) := ⟨⟨⟨_, _, PySem.W.mg_of X G a0, fun_mk (st := s_ways) l0 cc0 k0⟩⟩, ⟨⟨_, _, PySem.W.mg_of X G a1, fun_mk (st := s_how_many) l1 cc1 k1⟩⟩, ⟨⟨_, _, PySem.W.mg_of X G a2, fun_mk (st := s_choices) l2 cc2 k2⟩⟩, ⟨⟨_, _, PySem.W.mg_of X G a3, fun_mk (st := s__with_one_more) l3 cc3 k3⟩⟩, ⟨⟨_, _, PySem.W.mg_of X G a4, fun_mk (st := s_apart) l4 cc4 k4⟩⟩, ⟨⟨_, _, PySem.W.mg_of X G a5, fun_mk (st := s_are_apart) l5 cc5 k5⟩⟩, ⟨⟨_, _, PySem.W.mg_of X G a6, fun_mk (st := s__having_more) l6 cc6 k6⟩⟩, ⟨⟨_, _, PySem.W.mg_of X G a7, fun_mk (st := s__law_begun) l7 cc7 k7⟩⟩, ⟨⟨_, _, PySem.W.mg_of X G a8, fun_mk (st := s__law_draw) l8 cc8 k8⟩⟩, ⟨⟨_, _, PySem.W.mg_of X G a9, fun_mk (st := s__law_pick) l9 cc9 k9⟩⟩, ⟨⟨_, _, PySem.W.mg_of X G a10, fun_mk (st := s__law_marks) l10 cc10 k10⟩⟩, ⟨⟨_, _, PySem.W.mg_of X G a11, fun_mk (st := s__law_number) l11 cc11 k11⟩⟩, ⟨⟨_, _, PySem.W.mg_of X G a12, fun_mk (st := s__law_apart) l12 cc12 k12⟩⟩, ⟨⟨_, _, PySem.W.mg_of X G a13, fun_mk (st := s__law_bent) l13 cc13 k13⟩⟩, ⟨⟨_, _, PySem.W.mg_of X G a14, fun_mk (st := s__law_shuffled) l14 cc14 k14⟩⟩, ⟨⟨_, _, PySem.W.mg_of X G a15, fun_mk (st := s__law_stretches) l15 cc15 k15⟩⟩, ⟨⟨_, _, PySem.W.mg_of X G a16, fun_mk (st := s__law_told_right) l16 cc16 k16⟩⟩, ⟨⟨_, _, PySem.W.mg_of X G a17, fun_mk (st := s__law_any_sizes_right) l17 cc17 k17⟩⟩, ⟨⟨_, _, PySem.W.mg_of X G a18, fun_mk (st := s__law_chosen) l18 cc18 k18⟩⟩, ⟨⟨_, _, PySem.W.mg_of X G a19, fun_mk (st := s__law_refused) l19 cc19 k19⟩⟩, ⟨⟨_, _, PySem.W.mg_of X G a20, fun_mk (st := s_law) l20 cc20 k20⟩⟩, cls_mk base_I (PySem.W.mg_of X G m0) o0 i0 t0 (fun_mk (st := s_TooMany___init__) ml0 mc0 mk0) sa0 sb0 sc0 sd0 se0 sf0 sg0 sh0 si0 ea eb (no1 fn0_0), getD_inj nd, u0, u1, u2, u3, ⟨_, PySem.W.mg_of X G v0⟩, PySem.W.mg_none_of X G z0, PySem.W.mg_none_of X G z1, PySem.W.mg_none_of X G z2, PySem.W.mg_none_of X G z3, PySem.W.mg_none_of X G z4, PySem.W.mg_none_of X G z5, PySem.W.mg_none_of X G z6, PySem.W.mg_none_of X G z7, PySem.W.mg_none_of X G z8, PySem.W.mg_none_of X G z9, PySem.W.mg_none_of X G z10, PySem.W.mg_none_of X G z11⟩
  exact ⟨_, fun s v => .of_eq rfl, fun base _ _ => at_law (fun_mk (st := s_law) l20 cc20 k20) T⟩
end Mc
open PySem PySem.W PyProof.Rows
set_option maxRecDepth 100000 in
set_option maxHeartbeats 0 in
theorem PySem.Challenge.cw_mostclauses_k41_apart_holds : PySem.Challenge.rw_mostclauses_k41_apart.Holds := by
  w_on; o_law; k_head; (case hw => w_witness2)
  k_fill
  refine Mc.walk_at (l := PySem.Challenge.rw_mostclauses_k41_apart) (n := 63) (x := "_law_script") (sp := fun w => Mc.spLaw _) rfl (by decide) rfl (fun w h Y => PySem.W.kIn_of Y) ?F (fun _ _ a ns hl _ hS => ⟨a, ns, rfl, hS, hl, fun _ => rfl⟩)
  case F =>
    intro w mg fa h KX G hmg
    refine' Mc.all_mk KX G hmg ?a0 ?l0 ?cc0 ?k0 ?a1 ?l1 ?cc1 ?k1 ?a2 ?l2 ?cc2 ?k2 ?a3 ?l3 ?cc3 ?k3 ?a4 ?l4 ?cc4 ?k4 ?a5 ?l5 ?cc5 ?k5 ?a6 ?l6 ?cc6 ?k6 ?a7 ?l7 ?cc7 ?k7 ?a8 ?l8 ?cc8 ?k8 ?a9 ?l9 ?cc9 ?k9 ?a10 ?l10 ?cc10 ?k10 ?a11 ?l11 ?cc11 ?k11 ?a12 ?l12 ?cc12 ?k12 ?a13 ?l13 ?cc13 ?k13 ?a14 ?l14 ?cc14 ?k14 ?a15 ?l15 ?cc15 ?k15 ?a16 ?l16 ?cc16 ?k16 ?a17 ?l17 ?cc17 ?k17 ?a18 ?l18 ?cc18 ?k18 ?a19 ?l19 ?cc19 ?k19 ?a20 ?l20 ?cc20 ?k20 ?m0 ?o0 ?i0 ?t0 ?ml0 ?mc0 ?mk0 ?sa0 ?sb0 ?sc0 ?sd0 ?se0 ?sf0 ?sg0 ?sh0 ?si0 ?fn0_0 ?nd ?ea ?eb ?u0 ?u1 ?u2 ?u3 ?v0 ?z0 ?z1 ?z2 ?z3 ?z4 ?z5 ?z6 ?z7 ?z8 ?z9 ?z10 ?z11
    (case a0 => k_is)
    (case l0 => k_is)
    (case cc0 => k_is)
    (case k0 => k_is)
    (case a1 => k_is)
    (case l1 => k_is)
    (case cc1 => k_is)
    (case k1 => k_is)
    (case a2 => k_is)
    (case l2 => k_is)
    (case cc2 => k_is)
    (case k2 => k_is)
    (case a3 => k_is)
    (case l3 => k_is)
    (case cc3 => k_is)
    (case k3 => k_is)
    (case a4 => k_is)
    (case l4 => k_is)
    (case cc4 => k_is)
    (case k4 => k_is)
    (case a5 => k_is)
    (case l5 => k_is)
    (case cc5 => k_is)
    (case k5 => k_is)
    (case a6 => k_is)
    (case l6 => k_is)
    (case cc6 => k_is)
    (case k6 => k_is)
    (case a7 => k_is)
    (case l7 => k_is)
    (case cc7 => k_is)
    (case k7 => k_is)
    (case a8 => k_is)
    (case l8 => k_is)
    (case cc8 => k_is)
    (case k8 => k_is)
    (case a9 => k_is)
    (case l9 => k_is)
    (case cc9 => k_is)
    (case k9 => k_is)
    (case a10 => k_is)
    (case l10 => k_is)
    (case cc10 => k_is)
    (case k10 => k_is)
    (case a11 => k_is)
    (case l11 => k_is)
    (case cc11 => k_is)
    (case k11 => k_is)
    (case a12 => k_is)
    (case l12 => k_is)
    (case cc12 => k_is)
    (case k12 => k_is)
    (case a13 => k_is)
    (case l13 => k_is)
    (case cc13 => k_is)
    (case k13 => k_is)
    (case a14 => k_is)
    (case l14 => k_is)
    (case cc14 => k_is)
    (case k14 => k_is)
    (case a15 => k_is)
    (case l15 => k_is)
    (case cc15 => k_is)
    (case k15 => k_is)
    (case a16 => k_is)
    (case l16 => k_is)
    (case cc16 => k_is)
    (case k16 => k_is)
    (case a17 => k_is)
    (case l17 => k_is)
    (case cc17 => k_is)
    (case k17 => k_is)
    (case a18 => k_is)
    (case l18 => k_is)
    (case cc18 => k_is)
    (case k18 => k_is)
    (case a19 => k_is)
    (case l19 => k_is)
    (case cc19 => k_is)
    (case k19 => k_is)
    (case a20 => k_is)
    (case l20 => k_is)
    (case cc20 => k_is)
    (case k20 => k_is)
    (case m0 => k_is)
    (case o0 => k_is)
    (case i0 => k_is)
    (case t0 => k_is)
    (case ml0 => k_is)
    (case mc0 => k_is)
    (case mk0 => k_is)
    (case sa0 => k_is)
    (case sb0 => k_is)
    (case sc0 => k_is)
    (case sd0 => k_is)
    (case se0 => k_is)
    (case sf0 => k_is)
    (case sg0 => k_is)
    (case sh0 => k_is)
    (case si0 => k_is)
    (case fn0_0 => k_is)
    (case nd => decide)
    (case ea => k_is)
    (case eb => k_is)
    (case u0 => k_is)
    (case u1 => k_is)
    (case u2 => k_is)
    (case u3 => k_is)
    (case v0 => k_is)
    (case z0 => k_is)
    (case z1 => k_is)
    (case z2 => k_is)
    (case z3 => k_is)
    (case z4 => k_is)
    (case z5 => k_is)
    (case z6 => k_is)
    (case z7 => k_is)
    (case z8 => k_is)
    (case z9 => k_is)
    (case z10 => k_is)
    (case z11 => k_is)
