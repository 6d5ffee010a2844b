import PyProof.Rows.All
import Wide.All
import OpenK.AllK
import Wide.FinOn
import HandS.ForMost
import HandS.Flow
import HandS.Wide
import HandS.Small
import HandS.Style
import HandS.IsInst
import HandS.RaiseMore
import HandS.Codes
import HandS.ExcInit
import HandS.ExcIs
import HandS.ExcField
import HandS.FStr
import KE.KExcInit
import PyProof.ReprRoads
import PyProof.Rows.ReprShort
import PyProof.Rows.RegFStrParts
import PyProof.FString2
import PyProof.ExcBaseAll.ValueError
import PyProof.ExcBaseAll.IndexError
import PyProof.ExcBaseAll.LookupError
import PyProof.Rows.FactsExc_KeyError
import PyProof.Rows.FactsExc_ValueError
import PyProof.Rows.FactsExc_IndexError
import PyProof.Rows.FactsExc_LookupError
import HandS.WordsExc
import HandS.ExcOwn
import HandS.TryMany
import HandS.Star
import HandS.TupMul
import HandS.Iter
import HandS.Text
import HandS.TupAny
import HandS.Conv
import PyProof.ReprBulk
import HandS.MakeKwOnly
import HandS.WideBits
import HandS.TupLe
import HandS.Zip
import HandS.Walk
import HandS.DictComp
import HandS.SetBool
import HandS.Strs
import HandS.SetFor
import HandS.NoneIn
import PySem.Challenge.RW_mostclauses_k88_what_added_refuses
set_option Elab.async false
set_option linter.all false
set_option maxRecDepth 100000
set_option maxHeartbeats 4000000
namespace Mc
open PySem PySem.Spec PyProof.Rows L2
/-! ### the text by places -/
def top (i : Nat) : Stmt := PySem.Challenge.pw_mostclauses_k88_what_added_refuses.main.body.getD i (.Pass ⟨0, 0, 0, 0⟩)

abbrev s__wall : Stmt := top 0
abbrev nm__wall : List Str := ["k"]
theorem sc__wall : FnScope nm__wall ["k"] (defScope s__wall) := ⟨rfl, rfl, rfl, by decide +kernel, rfl, by decide +kernel, by decide +kernel⟩
abbrev s_is_whole : Stmt := top 10
abbrev nm_is_whole : List Str := ["thing"]
theorem sc_is_whole : FnScope nm_is_whole ["thing"] (defScope s_is_whole) := ⟨rfl, rfl, rfl, by decide +kernel, rfl, by decide +kernel, by decide +kernel⟩
abbrev s_is_mark : Stmt := top 11
abbrev nm_is_mark : List Str := ["thing"]
theorem sc_is_mark : FnScope nm_is_mark ["thing"] (defScope s_is_mark) := ⟨rfl, rfl, rfl, by decide +kernel, rfl, by decide +kernel, by decide +kernel⟩
abbrev s_others : Stmt := top 12
abbrev nm_others : List Str := ["marks", "mark"]
theorem sc_others : FnScope nm_others ["marks"] (defScope s_others) := ⟨rfl, rfl, rfl, by decide +kernel, rfl, by decide +kernel, by decide +kernel⟩
abbrev s_are_marks : Stmt := top 16
abbrev nm_are_marks : List Str := ["marks", "mark"]
theorem sc_are_marks : FnScope nm_are_marks ["marks"] (defScope s_are_marks) := ⟨rfl, rfl, rfl, by decide +kernel, rfl, by decide +kernel, by decide +kernel⟩
abbrev s_greatest_name : Stmt := top 17
abbrev nm_greatest_name : List Str := ["marks", "mark"]
theorem sc_greatest_name : FnScope nm_greatest_name ["marks"] (defScope s_greatest_name) := ⟨rfl, rfl, rfl, by decide +kernel, rfl, by decide +kernel, by decide +kernel⟩
abbrev s_first_new : Stmt := top 18
abbrev nm_first_new : List Str := ["marks", "fresh", "lowest"]
theorem sc_first_new : FnScope nm_first_new ["marks", "fresh"] (defScope s_first_new) := ⟨rfl, rfl, rfl, by decide +kernel, rfl, by decide +kernel, by decide +kernel⟩
abbrev s_show_marks : Stmt := top 19
abbrev nm_show_marks : List Str := ["marks", "mark"]
theorem sc_show_marks : FnScope nm_show_marks ["marks"] (defScope s_show_marks) := ⟨rfl, rfl, rfl, by decide +kernel, rfl, by decide +kernel, by decide +kernel⟩
abbrev s__sum_tuples : Stmt := top 23
abbrev nm__sum_tuples : List Str := ["marks", "a", "b", "c", "by_on", "by_off"]
theorem sc__sum_tuples : FnScope nm__sum_tuples ["marks"] (defScope s__sum_tuples) := ⟨rfl, rfl, rfl, by decide +kernel, rfl, by decide +kernel, by decide +kernel⟩
abbrev s__carry_tuples : Stmt := top 24
abbrev nm__carry_tuples : List Str := ["marks", "a", "b", "c", "by_on", "both"]
theorem sc__carry_tuples : FnScope nm__carry_tuples ["marks"] (defScope s__carry_tuples) := ⟨rfl, rfl, rfl, by decide +kernel, rfl, by decide +kernel, by decide +kernel⟩
abbrev s__last_clauses : Stmt := top 25
abbrev nm__last_clauses : List Str := ["bits", "most", "clauses", "place", "bit", "higher", "at", "one"]
theorem sc__last_clauses : FnScope nm__last_clauses ["bits", "most"] (defScope s__last_clauses) := ⟨rfl, rfl, rfl, by decide +kernel, rfl, by decide +kernel, by decide +kernel⟩
abbrev s__law_begun : Stmt := top 27
abbrev nm__law_begun : List Str := ["_law_script"]
theorem sc__law_begun : FnScope nm__law_begun ["_law_script"] (defScope s__law_begun) := ⟨rfl, rfl, rfl, by decide +kernel, rfl, by decide +kernel, by decide +kernel⟩
abbrev s__law_draw : Stmt := top 28
abbrev nm__law_draw : List Str := ["_law_tape", "_law_many", "_law_spot", "_law_most", "_law_cell", "_law_found"]
theorem sc__law_draw : FnScope nm__law_draw ["_law_tape", "_law_many"] (defScope s__law_draw) := ⟨rfl, rfl, rfl, by decide +kernel, rfl, by decide +kernel, by decide +kernel⟩
abbrev s__law_pick : Stmt := top 29
abbrev nm__law_pick : List Str := ["_law_tape", "_law_some"]
theorem sc__law_pick : FnScope nm__law_pick ["_law_tape", "_law_some"] (defScope s__law_pick) := ⟨rfl, rfl, rfl, by decide +kernel, rfl, by decide +kernel, by decide +kernel⟩
abbrev s__law_marks : Stmt := top 30
abbrev nm__law_marks : List Str := ["_law_tape", "_law_many", "_law_by", "_law_leap", "_law_first", "_law_names", "_law_signs", "_law_name", "_law_k"]
theorem sc__law_marks : FnScope nm__law_marks ["_law_tape", "_law_many"] (defScope s__law_marks) := ⟨rfl, rfl, rfl, by decide +kernel, rfl, by decide +kernel, by decide +kernel⟩
abbrev s__law_asked : Stmt := top 31
abbrev nm__law_asked : List Str := ["_law_marks_here", "_law_most", "_law_begin", "_law_kept", "_law_found", "e"]
theorem sc__law_asked : FnScope nm__law_asked ["_law_marks_here", "_law_most", "_law_begin"] (defScope s__law_asked) := ⟨rfl, rfl, rfl, by decide +kernel, rfl, by decide +kernel, by decide +kernel⟩
abbrev s__law_spoilt : Stmt := top 32
abbrev nm__law_spoilt : List Str := ["_law_tape", "_law_marks_here", "_law_at", "_law_way", "_law_behind", "_law_k"]
theorem sc__law_spoilt : FnScope nm__law_spoilt ["_law_tape", "_law_marks_here"] (defScope s__law_spoilt) := ⟨rfl, rfl, rfl, by decide +kernel, rfl, by decide +kernel, by decide +kernel⟩
abbrev s_law : Stmt := top 33
abbrev nm_law : List Str := ["_law_script", "_law_tape", "_law_turn", "_law_spoils", "_law_many", "_law_due", "_law_marks_here", "_law_most", "_law_low", "_law_begin", "_law_k", "_law_mark"]
theorem sc_law : FnScope nm_law ["_law_script"] (defScope s_law) := ⟨rfl, rfl, rfl, by decide +kernel, rfl, by decide +kernel, by decide +kernel⟩
/-- an inner statement of a class -/
def inner (s : Stmt) (j : Nat) : Stmt := match s with
  | .ClassDef _ _ _ b _ _ _ _ _ _ _ => b.getD j (.Pass ⟨0, 0, 0, 0⟩)
  | z => z
abbrev s_NoMarks___init__ : Stmt := inner (top 2) 0
abbrev nm_NoMarks___init__ : List Str := ["self"]
theorem sc_NoMarks___init__ : FnScope nm_NoMarks___init__ ["self"] (defScope s_NoMarks___init__) := ⟨rfl, rfl, rfl, by decide +kernel, rfl, by decide +kernel, by decide +kernel⟩
abbrev s_NoPlan___init__ : Stmt := inner (top 3) 0
abbrev nm_NoPlan___init__ : List Str := ["self"]
theorem sc_NoPlan___init__ : FnScope nm_NoPlan___init__ ["self"] (defScope s_NoPlan___init__) := ⟨rfl, rfl, rfl, by decide +kernel, rfl, by decide +kernel, by decide +kernel⟩
abbrev s_NoText___init__ : Stmt := inner (top 4) 0
abbrev nm_NoText___init__ : List Str := ["self"]
theorem sc_NoText___init__ : FnScope nm_NoText___init__ ["self"] (defScope s_NoText___init__) := ⟨rfl, rfl, rfl, by decide +kernel, rfl, by decide +kernel, by decide +kernel⟩
abbrev s_NoFresh___init__ : Stmt := inner (top 5) 0
abbrev nm_NoFresh___init__ : List Str := ["self", "lowest"]
theorem sc_NoFresh___init__ : FnScope nm_NoFresh___init__ ["self", "lowest"] (defScope s_NoFresh___init__) := ⟨rfl, rfl, rfl, by decide +kernel, rfl, by decide +kernel, by decide +kernel⟩
abbrev s_NoBound___init__ : Stmt := inner (top 6) 0
abbrev nm_NoBound___init__ : List Str := ["self", "low", "high"]
theorem sc_NoBound___init__ : FnScope nm_NoBound___init__ ["self", "low", "high"] (defScope s_NoBound___init__) := ⟨rfl, rfl, rfl, by decide +kernel, rfl, by decide +kernel, by decide +kernel⟩
abbrev s_TooMany___init__ : Stmt := inner (top 7) 0
abbrev nm_TooMany___init__ : List Str := ["self", "many"]
theorem sc_TooMany___init__ : FnScope nm_TooMany___init__ ["self", "many"] (defScope s_TooMany___init__) := ⟨rfl, rfl, rfl, by decide +kernel, rfl, by decide +kernel, by decide +kernel⟩
abbrev s_Adding___init__ : Stmt := inner (top 21) 0
abbrev nm_Adding___init__ : List Str := ["self", "marks", "first", "column", "carries", "taken"]
theorem sc_Adding___init__ : FnScope nm_Adding___init__ ["self", "marks", "first"] (defScope s_Adding___init__) := ⟨rfl, rfl, rfl, by decide +kernel, rfl, by decide +kernel, by decide +kernel⟩
abbrev s_Adding__name : Stmt := inner (top 21) 1
abbrev nm_Adding__name : List Str := ["self", "tuples", "by_on", "by_off", "name", "marks"]
theorem sc_Adding__name : FnScope nm_Adding__name ["self", "tuples"] (defScope s_Adding__name) := ⟨rfl, rfl, rfl, by decide +kernel, rfl, by decide +kernel, by decide +kernel⟩
abbrev s_Added___init__ : Stmt := inner (top 22) 0
abbrev nm_Added___init__ : List Str := ["self", "marks", "most", "fresh", "adding"]
theorem sc_Added___init__ : FnScope nm_Added___init__ ["self", "marks", "most", "fresh"] (defScope s_Added___init__) := ⟨rfl, rfl, rfl, by decide +kernel, rfl, by decide +kernel, by decide +kernel⟩
/-! ### a def that stands in the top and keeps a promise -/
structure At (K : PySem.W.Frag) (mg : Str → Option Value) (x : Str) (st : Stmt) : Prop where
  ex : ∃ f fd, mg x = some (.ref f) ∧ Fun K x x st f fd
structure Has (P : Program) (w : World) (K : PySem.W.Frag) (mg : Str → Option Value) (base : Heap) (k : Nat) (x : Str) (ps : List Str) (sp : Sp) : Prop where
  ex : ∃ f fd, mg x = some (.ref f) ∧ PySem.W.keepIn K (.ref f) = true ∧ Binds K fd ps [] ∧ FnOk P w K mg base CX0 k f fd ps sp
theorem pe_has {X : Cx} {k : Nat} {x : Str} {ps : List Str} {sp : Sp} {e : Expr} {es : List Expr} {t : TA} {p pos : Pos} (h : Has X.prog X.w X.K X.mg X.base k x ps sp) (hr : Room k X.A) (hg : Gl X x) (ha : PA X (e :: es) t)
    (hdb : (x == ("__debug__" : Str)) = false := by decide) (he : starEach (e :: es) X.env = (false, eval e X.env) :: starEach es X.env := by rfl) (hpl : (backTo pos (starEach es X.env)).any (·.1) = false := by rfl) :
    PE X (.Call (.Name x p) (e :: es) [] pos) (tCall sp [] E0 t) := by
  obtain ⟨f, fd, hm, hk, hb, F⟩ := h.ex
  exact pe_call F hr hg hm hk hb .nil pass0 ha hdb he hpl
abbrev BindsAll (x : Str) (st : Stmt) (ps : List Str) : Prop :=
  ∀ (kV doc pm : Value) (an : Option Addr) (cdv ct : Value) (us : List Value), us.length = ps.length → bindArgs (PySem.W.fnOf x x (defArgs st) (defBody st) (defScope st) .none kV doc pm an cdv ct) ⟨us, []⟩ = pure (ps.zip us)
section
variable {P : Program} {w : World} {K : PySem.W.Frag} {mg : Str → Option Value} {base : Heap}
theorem has_of {x : Str} {st : Stmt} {N ps : List Str} {k : Nat} {sp : Sp} (A : At K mg x st) (S : FnScope N ps (defScope st)) (B : BindsAll x st ps) (len : ∀ vs H Q E, sp vs H Q E → vs.length = ps.length)
    (hbody : ∀ (f : Addr) (cdv : Value) (A : Around) (outer : List Env) (s : Shared) (H : Hp) (vs : List V) (Q : VK) (E : XK), Room k (A.deeper (envOfC x (defScope st) s.heap.objs.size f cdv)) → sp vs H Q E →
      ∃ t, PSs (cxOf CX0 P w K mg base N x (defScope st) f cdv A outer s H E).nox (defBody st) t ∧ t { nx := fun _ H' => Q .non H', rt := Q } (start N vs) H) : Has P w K mg base (k + 1) x ps sp := by
  obtain ⟨f, fd, hm, F⟩ := A.ex
  exact ⟨f, fd, hm, F.kp, F.binds B, F.ok S len fun cdv A outer s H vs Q E hr h => hbody f cdv A outer s H vs Q E hr h⟩
end
theorem pe_const {X : Cx} {x : Str} {i : Int} {pos : Pos} (hm : ∃ t, X.mg x = some (.int i t)) (hg : Gl X x) (hd : (x == ("__debug__" : Str)) = false := by decide) : PE X (.Name x pos) (tC (.int i)) := by
  obtain ⟨t, hm⟩ := hm
  exact pe_glob hg hm ⟨t, rfl⟩ hd
/-! ### repr of a truth -/
def boolText (b : Bool) : Str := if b then "True" else "False"
theorem boolText_inj {a b : Bool} (h : boolText a = boolText b) : a = b := by
  cases a <;> cases b <;> first | rfl | exact absurd h (by decide +kernel)
theorem call_repr_bool {X : Cx} : CallR X (.builtin "repr") (fun xs H Q => ∃ b, xs = [.bl b] ∧ Q (.str (boolText b)) H) := by
  intro pins s σ H xs us Q I r h
  obtain ⟨b, rfl, q⟩ := h
  obtain ⟨u, rfl, ru⟩ := vals1 r
  cases ru
  cases b with
  | true => exact PySem.P.repr_of_bool ⟨.str (boolText true), H, I.tok _, ⟨_, rfl⟩, q⟩
  | false => exact PySem.P.repr_of_bool ⟨.str (boolText false), H, I.tok _, ⟨_, rfl⟩, q⟩
/-! ### heaps -/
/-- all that is known stays, but for what stands at t -/
def Kp (t : Addr) (H H' : Hp) : Prop := ∀ b o, H b = some o → b ≠ t → H' b = some o
theorem Kp.refl {t : Addr} (H : Hp) : Kp t H H := fun _ _ h _ => h
theorem Kp.trans {t : Addr} {H H1 H2 : Hp} (a : Kp t H H1) (b : Kp t H1 H2) : Kp t H H2 := fun c o h n => b c o (a c o h n) n
theorem Kp.new {t p : Addr} {H : Hp} {o : HO} (h : H p = none) : Kp t H (upd H p o) := fun b u e _ => by
  rw [upd_ne (ne_of_none e h)]
  exact e
theorem Kp.at {t : Addr} {H : Hp} {o : HO} : Kp t H (upd H t o) := fun b u e n => by
  rw [upd_ne n]
  exact e
theorem Kp.same {t : Addr} {H H' : Hp} (s : Same H H') : Kp t H H' := fun b o e _ => s b o e
theorem same_new {H : Hp} {p : Addr} {o : HO} (h : H p = none) : Same H (upd H p o) := fun b u e => by
  rw [upd_ne (ne_of_none e h)]
  exact e
/-! ### the tape -/
def tk (c : Addr) (spot left : Int) : List (Key × V) := [(.inr "cells", .ref c), (.inr "spot", .int spot), (.inr "left", .int left)]
structure TapeC (H : Hp) (t c : Addr) (ns : List Int) (spot left : Int) : Prop where
  d : H t = some (.dK (tk c spot left))
  l : H c = some (.lst (ns.map V.int))
  ne : 0 < ns.length
  lt : ns.length ≤ 63
  s0 : 0 ≤ spot
  l0 : 0 ≤ left
/-- a tape at t, its cells at c, of which at most n draws are taken -/
def Tape (H : Hp) (t c : Addr) (n : Nat) : Prop := ∃ ns spot left, TapeC H t c ns spot left ∧ spot ≤ n
theorem Tape.ne {H : Hp} {t c : Addr} {n : Nat} (h : Tape H t c n) : t ≠ c := by
  obtain ⟨ns, spot, left, h, _⟩ := h
  exact ne_of h.d h.l (by intro z; cases z)
theorem Tape.le {H : Hp} {t c : Addr} {n m : Nat} (h : Tape H t c n) (l : n ≤ m) : Tape H t c m := by
  obtain ⟨ns, spot, left, h, e⟩ := h
  exact ⟨ns, spot, left, h, by omega⟩
theorem Tape.stay {H H' : Hp} {t c : Addr} {n : Nat} (h : Tape H t c n) (k : ∀ b o, H b = some o → b = t ∨ b = c → H' b = some o) : Tape H' t c n := by
  obtain ⟨ns, spot, left, h, e⟩ := h
  exact ⟨ns, spot, left, ⟨k _ _ h.d (.inl rfl), k _ _ h.l (.inr rfl), h.ne, h.lt, h.s0, h.l0⟩, e⟩
theorem Tape.same {H H' : Hp} {t c : Addr} {n : Nat} (h : Tape H t c n) (s : Same H H') : Tape H' t c n := h.stay fun b o e _ => s b o e
theorem Tape.new {H : Hp} {t c p : Addr} {n : Nat} {o : HO} (h : Tape H t c n) (hp : H p = none) : Tape (upd H p o) t c n := h.same (same_new hp)
theorem Tape.at_t {H : Hp} {t c : Addr} {n : Nat} (h : Tape H t c n) : ∃ o, H t = some o := by
  obtain ⟨ns, spot, left, h, _⟩ := h
  exact ⟨_, h.d⟩
theorem Tape.at_c {H : Hp} {t c : Addr} {n : Nat} (h : Tape H t c n) : ∃ o, H c = some o := by
  obtain ⟨ns, spot, left, h, _⟩ := h
  exact ⟨_, h.l⟩
theorem k_cells : ¬ (("cells" : Str) = "spot") := by decide +kernel
theorem k_cells2 : ¬ (("cells" : Str) = "left") := by decide +kernel
theorem k_spot : ¬ (("spot" : Str) = "left") := by decide +kernel
theorem tk_cells (c : Addr) (a b : Int) : valV (tk c a b) (Sum.inr "cells" : Key) = some (.ref c) := valV_pos rfl
theorem tk_spot (c : Addr) (a b : Int) : valV (tk c a b) (Sum.inr "spot" : Key) = some (.int a) := by
  unfold tk
  rw [valV_neg (fun e => k_cells (Sum.inr.inj e)), valV_pos rfl]
theorem tk_left (c : Addr) (a b : Int) : valV (tk c a b) (Sum.inr "left" : Key) = some (.int b) := by
  unfold tk
  rw [valV_neg (fun e => k_cells2 (Sum.inr.inj e)), valV_neg (fun e => k_spot (Sum.inr.inj e)), valV_pos rfl]
theorem tk_put_spot (c : Addr) (a b x : Int) : putK (tk c a b) (Sum.inr "spot" : Key) (.int x) = tk c x b := by
  rfl
theorem tk_put_left (c : Addr) (a b x : Int) : putK (tk c a b) (Sum.inr "left" : Key) (.int x) = tk c a x := by
  rfl
theorem dg_cells {H : Hp} {t c : Addr} {a b : Int} (h : H t = some (.dK (tk c a b))) : DGet H t (.str "cells") (some (.ref c)) := by
  have g := DGet.k (k := (Sum.inr "cells" : Key)) h
  rw [tk_cells] at g
  exact g
theorem dg_spot {H : Hp} {t c : Addr} {a b : Int} (h : H t = some (.dK (tk c a b))) : DGet H t (.str "spot") (some (.int a)) := by
  have g := DGet.k (k := (Sum.inr "spot" : Key)) h
  rw [tk_spot] at g
  exact g
theorem dg_left {H : Hp} {t c : Addr} {a b : Int} (h : H t = some (.dK (tk c a b))) : DGet H t (.str "left") (some (.int b)) := by
  have g := DGet.k (k := (Sum.inr "left" : Key)) h
  rw [tk_left] at g
  exact g
theorem dp_spot {H : Hp} {t c : Addr} {a b : Int} (x : Int) (h : H t = some (.dK (tk c a b))) : DPut H t (.str "spot") (.int x) (upd H t (.dK (tk c x b))) := by
  have g := DPut.k (k := (Sum.inr "spot" : Key)) (v := .int x) h (small1000 (by show 3 ≤ 1000; decide))
  rw [tk_put_spot] at g
  exact g
theorem dp_left {H : Hp} {t c : Addr} {a b : Int} (x : Int) (h : H t = some (.dK (tk c a b))) : DPut H t (.str "left") (.int x) (upd H t (.dK (tk c a x))) := by
  have g := DPut.k (k := (Sum.inr "left" : Key)) (v := .int x) h (small1000 (by show 3 ≤ 1000; decide))
  rw [tk_put_left] at g
  exact g
theorem Tape.fresh {H : Hp} {t c p : Addr} {n : Nat} (h : Tape H t c n) (hp : H p = none) : p ≠ t := by
  obtain ⟨o, e⟩ := h.at_t
  exact (ne_of_none e hp).symm
theorem Tape.fresh_c {H : Hp} {t c p : Addr} {n : Nat} (h : Tape H t c n) (hp : H p = none) : p ≠ c := by
  obtain ⟨o, e⟩ := h.at_c
  exact (ne_of_none e hp).symm
/-! ### a list beside the empty list -/
section
variable {X : Cx}
def rEqNil (K : PySem.W.Frag) (neg : Bool) : R2 := fun x y H Q => ∃ a b xs, x = .ref a ∧ y = .ref b ∧ SqL K H a xs ∧ SqL K H b [] ∧ Q (.bl (if neg = true then !xs.isEmpty else xs.isEmpty)) H
theorem op_eqNil (hu : X.A.units + 1 < cLine) : OpR X (compareOp .Eq) (rEqNil X.K false) := by
  intro pins s σ H x y v u Q I rx ry h
  obtain ⟨a, b, xs, rfl, rfl, ha, hb, q⟩ := h
  cases rx
  cases ry
  obtain ⟨us, vs, pl, _⟩ := I.list ha
  obtain ⟨ws, vs2, pl2, _⟩ := I.list hb
  cases vs2
  have l := vs.length
  cases xs with
  | nil =>
    cases vs
    exact SeqAt.RcAt.lists (e := fun _ => true) pl.isList pl2.isList rfl (by omega) (fun j h1 => absurd h1 (Nat.not_lt_zero _)) _ _ _ _ ⟨.bl true, H, I, rfl, q⟩
  | cons z zs => exact SeqAt.RcAt.lists_lengths pl.isList pl2.isList (by rw [List.size_toArray, ← l]; rfl) (by omega) _ _ _ _ ⟨.bl false, H, I, rfl, q⟩
theorem op_neNil (hu : X.A.units + 1 < cLine) : OpR X (compareOp .NotEq) (rEqNil X.K true) := by
  intro pins s σ H x y v u Q I rx ry h
  obtain ⟨a, b, xs, rfl, rfl, ha, hb, q⟩ := h
  cases rx
  cases ry
  obtain ⟨us, vs, pl, _⟩ := I.list ha
  obtain ⟨ws, vs2, pl2, _⟩ := I.list hb
  cases vs2
  have l := vs.length
  cases xs with
  | nil =>
    cases vs
    exact SeqAt.RcNeAt.lists (e := fun _ => true) pl.isList pl2.isList rfl (by omega) (fun j h1 => absurd h1 (Nat.not_lt_zero _)) _ _ _ _ ⟨.bl false, H, I, rfl, q⟩
  | cons z zs => exact SeqAt.RcNeAt.lists_lengths pl.isList pl2.isList (by rw [List.size_toArray, ← l]; rfl) (by omega) _ _ _ _ ⟨.bl true, H, I, rfl, q⟩
end
/-! ### comprehensions that leave what is known as it is -/
theorem take_sel {α β : Type} (t : α → Bool) (f : α → β) {xs : List α} {i : Nat} {x : α} (h : xs[i]? = some x) :
    ((xs.take (i + 1)).filter t).map f = ((xs.take i).filter t).map f ++ (if t x = true then [f x] else []) := by
  rw [List.take_add_one, h, List.filter_append, List.map_append]
  by_cases ht : t x = true
  · rw [if_pos ht]
    simp [ht]
  · rw [if_neg ht]
    simp [ht]
section
variable {K : PySem.W.Frag} {a : Addr} {xs : List V} {tt : TT} {te : TE} {vs : List Nat} {σ : L2.St} {H : Hp} {D : Addr} {Qd : Hp → Prop} {j : Nat}
/-- what a turn asks: the test, the item -/
structure SelT (H : Hp) (σ : L2.St) (vs : List Nat) (j : Nat) (tt : TT) (te : TE) (x : V) (b : Bool) (y : V) : Prop where
  wip : wipe ((wipe σ vs).set j (some x)) vs = wipe σ vs
  tst : ∀ H', Same H H' → ∀ R : Bool → Hp → Prop, (∀ H'', Same H' H'' → R b H'') → tt ((wipe σ vs).set j (some x)) H' R
  elt : b = true → ∀ H', Same H H' → ∀ R : VK, (∀ H'', Same H' H'' → R y H'') → te ((wipe σ vs).set j (some x)) H' R
theorem sel_turn {x y : V} {b : Bool} {acc : List V} {H' : Hp} {P : Hp → Prop} (hD : H D = none) (s : SelT H σ vs j tt te x b y) (hs : Same H H') (ha : H' D = some (.lst acc)) (hz : acc.length < sizeLine)
    (k : ∀ H'', Same H H'' → H'' D = some (.lst (acc ++ (if b = true then [y] else []))) → P H'') :
    gName j x (wipe σ vs) H' fun σ2 H2 => wipe σ2 vs = wipe σ vs ∧ tt σ2 H2 fun c H3 => if c = true then te σ2 H3 fun y H4 => ∃ acc, H4 D = some (.lst acc) ∧ acc.length < sizeLine ∧ P (upd H4 D (.lst (acc ++ [y]))) else P H3 := by
  refine ⟨s.wip, s.tst H' hs _ fun H3 s3 => ?_⟩
  have h3 := s3 D _ ha
  cases b with
  | false =>
    refine iteF (k H3 (hs.trans s3) ?_)
    rw [h3, if_neg Bool.false_ne_true, List.append_nil]
  | true =>
    refine iteT (s.elt rfl H3 (hs.trans s3) _ fun H4 s4 => ⟨acc, s4 D _ h3, hz, k _ (fun c o e => ?_) ?_⟩)
    · rw [upd_ne (ne_of_none e hD)]
      exact s4 c o (s3 c o (hs c o e))
    · rw [upd_same, if_pos rfl]
theorem lc_sel_list (t : V → Bool) (f : V → V) (hx : SqL K H a xs) (hD : H D = none) (hz : xs.length ≤ 1000000) (hs : ∀ x ∈ xs, SelT H σ vs j tt te x (t x) (f x)) (k : ∀ H', Same H H' → H' D = some (.lst ((xs.filter t).map f)) → Qd H') :
    ∃ W : Nat → Nat → Hp → Prop, (∃ m, W 0 m (upd H D (.lst []))) ∧ ∀ i m H, W i m H →
      ((Itl K a).stop i H ∧ Qd H) ∨ ((Itl K a).go i H ∧ ∃ Nx : Hp → Prop, (∀ H', Nx H' → ∃ m', m' < m ∧ W (i + 1) m' H') ∧ ∀ x H', (Itl K a).yld i H x H' → gName j x (wipe σ vs) H' fun σ2 H2 => wipe σ2 vs = wipe σ vs ∧ tt σ2 H2 fun b H3 =>
        if b = true then te σ2 H3 fun y H4 => ∃ acc, H4 D = some (.lst acc) ∧ acc.length < sizeLine ∧ Nx (upd H4 D (.lst (acc ++ [y]))) else Nx H3) := by
  have line : 1000000 < sizeLine := by decide
  refine lc_list (xs := xs) (fun i H' => Same H H' ∧ H' D = some (.lst (((xs.take i).filter t).map f))) ⟨same_new hD, upd_same⟩ (fun i H' _ p => p.1.seq hx) (fun i x H' hi p => ?_) fun H' p => k H' p.1 (by rw [p.2, List.take_length])
  refine sel_turn hD (hs x (List.mem_of_getElem? hi)) p.1 p.2 ?_ fun H'' s'' e => ⟨s'', by rw [e, take_sel t f hi]⟩
  have l1 := List.length_filter_le t (xs.take i)
  have l2 := List.length_take_le i xs
  have l3 : (xs.take i).length ≤ xs.length := by rw [List.length_take]; omega
  rw [List.length_map]
  omega
theorem Same.seqT {H H' : Hp} (e : Same H H') (h : SqT K H a xs) : SqT K H' a xs := by
  rcases h with (h | ⟨o, h⟩) | h
  · exact .inl (.inl (e _ _ h))
  · exact .inl (.inr ⟨o, e _ _ h⟩)
  · exact .inr h
theorem lc_sel_tup (t : V → Bool) (f : V → V) (hx : SqT K H a xs) (hD : H D = none) (hz : xs.length ≤ 1000000) (hs : ∀ x ∈ xs, SelT H σ vs j tt te x (t x) (f x)) (k : ∀ H', Same H H' → H' D = some (.lst ((xs.filter t).map f)) → Qd H') :
    ∃ W : Nat → Nat → Hp → Prop, (∃ m, W 0 m (upd H D (.lst []))) ∧ ∀ i m H, W i m H →
      ((Itt K a).stop i H ∧ Qd H) ∨ ((Itt K a).go i H ∧ ∃ Nx : Hp → Prop, (∀ H', Nx H' → ∃ m', m' < m ∧ W (i + 1) m' H') ∧ ∀ x H', (Itt K a).yld i H x H' → gName j x (wipe σ vs) H' fun σ2 H2 => wipe σ2 vs = wipe σ vs ∧ tt σ2 H2 fun b H3 =>
        if b = true then te σ2 H3 fun y H4 => ∃ acc, H4 D = some (.lst acc) ∧ acc.length < sizeLine ∧ Nx (upd H4 D (.lst (acc ++ [y]))) else Nx H3) := by
  have line : 1000000 < sizeLine := by decide
  refine lc_tup (xs := xs) (fun i H' => Same H H' ∧ H' D = some (.lst (((xs.take i).filter t).map f))) ⟨same_new hD, upd_same⟩ (fun i H' _ p => Same.seqT p.1 hx) (fun i x H' hi p => ?_) fun H' p => k H' p.1 (by rw [p.2, List.take_length])
  refine sel_turn hD (hs x (List.mem_of_getElem? hi)) p.1 p.2 ?_ fun H'' s'' e => ⟨s'', by rw [e, take_sel t f hi]⟩
  have l1 := List.length_filter_le t (xs.take i)
  have l3 : (xs.take i).length ≤ xs.length := by rw [List.length_take]; omega
  rw [List.length_map]
  omega
theorem take_range {n i : Nat} (h : i < n) : (List.range n)[i]? = some i := by
  rw [List.getElem?_range h]
theorem lc_sel_range {lo : Int} {n : Nat} (t : Nat → Bool) (f : Nat → V) (hD : H D = none) (hz : n ≤ 1000000) (hs : ∀ i, i < n → SelT H σ vs j tt te (.int (lo + i)) (t i) (f i)) (k : ∀ H', Same H H' → H' D = some (.lst (((List.range n).filter t).map f)) → Qd H') :
    ∃ W : Nat → Nat → Hp → Prop, (∃ m, W 0 m (upd H D (.lst []))) ∧ ∀ i m H, W i m H →
      ((Itr lo n).stop i H ∧ Qd H) ∨ ((Itr lo n).go i H ∧ ∃ Nx : Hp → Prop, (∀ H', Nx H' → ∃ m', m' < m ∧ W (i + 1) m' H') ∧ ∀ x H', (Itr lo n).yld i H x H' → gName j x (wipe σ vs) H' fun σ2 H2 => wipe σ2 vs = wipe σ vs ∧ tt σ2 H2 fun b H3 =>
        if b = true then te σ2 H3 fun y H4 => ∃ acc, H4 D = some (.lst acc) ∧ acc.length < sizeLine ∧ Nx (upd H4 D (.lst (acc ++ [y]))) else Nx H3) := by
  have line : 1000000 < sizeLine := by decide
  refine lc_range (fun i H' => Same H H' ∧ H' D = some (.lst ((((List.range n).take i).filter t).map f))) ⟨same_new hD, upd_same⟩ (fun i H' hi p => ?_) fun H' p => k H' p.1 (by rw [p.2, List.take_of_length_le (by rw [List.length_range]; omega)])
  refine sel_turn hD (hs i hi) p.1 p.2 ?_ fun H'' s'' e => ⟨s'', by rw [e, take_sel t f (take_range hi)]⟩
  have l1 := List.length_filter_le t ((List.range n).take i)
  have l3 : ((List.range n).take i).length ≤ n := by rw [List.length_take, List.length_range]; omega
  rw [List.length_map]
  omega
end
theorem filter_all {α : Type} (xs : List α) : xs.filter (fun _ => true) = xs := List.filter_eq_self.mpr fun _ _ => rfl
theorem Kp.free {t D : Addr} {H H' : Hp} (k : Kp t H H') (h : H' D = none) (n : D ≠ t) : H D = none := by
  cases e : H D with
  | none => rfl
  | some o =>
    rw [k D o e n] at h
    cases h
theorem Kp.mut {t p : Addr} {H H' : Hp} {o : HO} (k : Kp t H H') (h : H p = none) : Kp t H (upd H' p o) := fun b u e n => by
  rw [upd_ne (ne_of_none e h)]
  exact k b u e n
theorem Tape.mut {H : Hp} {t c p : Addr} {n : Nat} {o : HO} (h : Tape H t c n) (n1 : p ≠ t) (n2 : p ≠ c) : Tape (upd H p o) t c n := h.stay fun b u e z => by
  rw [upd_ne]
  · exact e
  · rcases z with rfl | rfl
    · exact n1.symm
    · exact n2.symm
theorem yes_go {σ : L2.St} {H : Hp} {A B : Hp → Prop} (h : A H) : tYes σ H (fun b H' => if b = true then A H' else B H') := by
  show (if true = true then A H else B H)
  rw [if_pos rfl]
  exact h
/-! ### d.update(e) of two dicts -/
theorem mt_update {X : Cx} : MtR X "dict.update" (fun x xs H Q => ∃ (a b : Addr) (ks ms : List (Key × V)), x = .ref a ∧ xs = [.ref b] ∧ H a = some (.dK ks) ∧ H b = some (.dK ms) ∧ a ≠ b ∧ ks.length + ms.length ≤ sizeLine ∧
    Q .non (upd H a (.dK (mergeK ks ms)))) := by
  intro pins s σ H x xs v us Q I rx rxs h
  obtain ⟨a, b, ks, ms, rfl, rfl, ha, hb, ne, few, q⟩ := h
  cases rx
  obtain ⟨u, rfl, ru⟩ := vals1 rxs
  cases ru
  obtain ⟨za, da, va, ra, dda⟩ := dk_of I.hok ha
  obtain ⟨zb, db, vb, rb, ddb⟩ := dk_of I.hok hb
  refine call_meetsIn PySem.F.slot_dict_update dda.typeIs PySem.F.entry_dict_update (PySem.F.args_dict_update_2 _ _) (meets_dict_update (mixKind X.prog X.w) a b ne db) ⟨va, vb, dda, ddb, by rw [← ra.length, ← rb.length]; exact few, fun h' d1 d2 same => ?_⟩
  have there : ∃ o, h'.get? a = some o := by
    obtain ⟨o, _, _, ho, _⟩ := id d1
    exact ⟨o, ho⟩
  have small : (mergeK ks ms).length ≤ sizeLine := Nat.le_trans (length_mergeK ms ks) few
  exact ⟨.non, _, d_write (t' := s.toks) I (by rw [ha]; exact True.intro) same there (dk_new small da (rb.merge ra) d1), rfl, q⟩
/-! ### rules whose reading names the written part, for use within a comprehension -/
section
variable {X : Cx} {K : PySem.W.Frag}
theorem op_inK (h : X.K = K) : OpR X (compareOp .In) (rIn K false) := h ▸ op_in_seq
theorem op_notInK (h : X.K = K) : OpR X (compareOp .NotIn) (rIn K true) := h ▸ op_notIn_seq
theorem op_eqNilK (h : X.K = K) (hu : X.A.units + 1 < cLine) : OpR X (compareOp .Eq) (rEqNil K false) := h ▸ op_eqNil hu
theorem op_neNilK (h : X.K = K) (hu : X.A.units + 1 < cLine) : OpR X (compareOp .NotEq) (rEqNil K true) := h ▸ op_neNil hu
theorem ix_listK (h : X.K = K) : IxR X (rIxL K) := h ▸ ix_list
theorem ix_tupK (h : X.K = K) : IxR X (rIxT K) := h ▸ ix_tup
theorem ix_seqK (h : X.K = K) : IxR X (rIx K) := h ▸ ix_seq
theorem len_seqK (h : X.K = K) : CallR X (.builtin "len") (fun xs H Q => ∃ p ys, xs = [.ref p] ∧ (SqL K H p ys ∨ SqT K H p ys) ∧ Q (.int (ys.length : Nat)) H) := h ▸ call_len_seq
theorem pi_listK {tg l : Expr} {tl : TE} (h : X.K = K) (hl : PE X l tl) : PI X tg l (iList K tl) := h ▸ pi_list hl
theorem pi_tupK {tg l : Expr} {tl : TE} (h : X.K = K) (hl : PE X l tl) : PI X tg l (iTup K tl) := h ▸ pi_tup hl
theorem sl_listK (h : X.K = K) : SlR X (rSlL K) := h ▸ sl_list
theorem sl_tupK (h : X.K = K) : SlR X (rSlT K) := h ▸ sl_tup
theorem cr_sumK (h : X.K = K) (hc : X.calm = true) : CallR X (.builtin "sum") (rSum K) := h ▸ cr_sum hc
theorem cr_maxL (h : X.K = K) (hc : X.calm = true) : CallR X (.builtin "max") (rMax K) := h ▸ cr_max hc
theorem cr_minL (h : X.K = K) (hc : X.calm = true) : CallR X (.builtin "min") (rMin K) := h ▸ cr_min hc
theorem cr_allK (h : X.K = K) (hc : X.calm = true) : CallR X (.builtin "all") (rAll K) := h ▸ cr_all hc
theorem cr_anyK (h : X.K = K) (hc : X.calm = true) : CallR X (.builtin "any") (rAny K) := h ▸ cr_any hc
theorem call_list_ofK (h : X.K = K) : CallR X (.type "list") (fun xs H Q => ∃ p ys, xs = [.ref p] ∧ (SqL K H p ys ∨ SqT K H p ys) ∧ ∀ l, H l = none → Q (.ref l) (upd H l (.lst ys))) := h ▸ call_list_of
theorem call_tuple_ofK (h : X.K = K) : CallR X (.type "tuple") (fun xs H Q => ∃ p ys, xs = [.ref p] ∧ ((SqL K H p ys ∧ ∀ l, H l = none → Q (.ref l) (upd H l (.tup ys))) ∨ (SqT K H p ys ∧ Q (.ref p) H))) := h ▸ call_tuple_of
theorem op_catTK (h : X.K = K) : OpR X (binaryOp .Add) (rCatT K) := h ▸ op_catT
end
theorem bd__wall : BindsAll "_wall" s__wall ["k"] := fun _ _ _ _ _ _ us hl => match us, hl with | [_], _ => rfl
theorem bd_is_whole : BindsAll "is_whole" s_is_whole ["thing"] := fun _ _ _ _ _ _ us hl => match us, hl with | [_], _ => rfl
theorem bd_is_mark : BindsAll "is_mark" s_is_mark ["thing"] := fun _ _ _ _ _ _ us hl => match us, hl with | [_], _ => rfl
theorem bd_others : BindsAll "others" s_others ["marks"] := fun _ _ _ _ _ _ us hl => match us, hl with | [_], _ => rfl
theorem bd_are_marks : BindsAll "are_marks" s_are_marks ["marks"] := fun _ _ _ _ _ _ us hl => match us, hl with | [_], _ => rfl
theorem bd_greatest_name : BindsAll "greatest_name" s_greatest_name ["marks"] := fun _ _ _ _ _ _ us hl => match us, hl with | [_], _ => rfl
theorem bd_first_new : BindsAll "first_new" s_first_new ["marks", "fresh"] := fun _ _ _ _ _ _ us hl => match us, hl with | [_, _], _ => rfl
theorem bd_show_marks : BindsAll "show_marks" s_show_marks ["marks"] := fun _ _ _ _ _ _ us hl => match us, hl with | [_], _ => rfl
theorem bd__sum_tuples : BindsAll "_sum_tuples" s__sum_tuples ["marks"] := fun _ _ _ _ _ _ us hl => match us, hl with | [_], _ => rfl
theorem bd__carry_tuples : BindsAll "_carry_tuples" s__carry_tuples ["marks"] := fun _ _ _ _ _ _ us hl => match us, hl with | [_], _ => rfl
theorem bd__last_clauses : BindsAll "_last_clauses" s__last_clauses ["bits", "most"] := fun _ _ _ _ _ _ us hl => match us, hl with | [_, _], _ => rfl
theorem bd__law_begun : BindsAll "_law_begun" s__law_begun ["_law_script"] := fun _ _ _ _ _ _ us hl => match us, hl with | [_], _ => rfl
theorem bd__law_draw : BindsAll "_law_draw" s__law_draw ["_law_tape", "_law_many"] := fun _ _ _ _ _ _ us hl => match us, hl with | [_, _], _ => rfl
theorem bd__law_pick : BindsAll "_law_pick" s__law_pick ["_law_tape", "_law_some"] := fun _ _ _ _ _ _ us hl => match us, hl with | [_, _], _ => rfl
theorem bd__law_marks : BindsAll "_law_marks" s__law_marks ["_law_tape", "_law_many"] := fun _ _ _ _ _ _ us hl => match us, hl with | [_, _], _ => rfl
theorem bd__law_asked : BindsAll "_law_asked" s__law_asked ["_law_marks_here", "_law_most", "_law_begin"] := fun _ _ _ _ _ _ us hl => match us, hl with | [_, _, _], _ => rfl
theorem bd__law_spoilt : BindsAll "_law_spoilt" s__law_spoilt ["_law_tape", "_law_marks_here"] := fun _ _ _ _ _ _ us hl => match us, hl with | [_, _], _ => rfl
theorem bd_law : BindsAll "law" s_law ["_law_script"] := fun _ _ _ _ _ _ us hl => match us, hl with | [_], _ => rfl
/-! ### making an exception of an own class, over any of the builtin ones -/
/-- by which __new__ an own class is made, and what its mro must tell -/
structure NewBy (bm : List Value) (nB newId : String) : Prop where
  f : ∃ i l, ExcBaseFacts nB newId i l
  b : bm.contains (.type nB) = true
  a : bm.contains (.type "AttributeError") = false
  n : bm.contains (.type "NameError") = false
section
variable {M : Model} {A : Around} {E : Value → Shared → Prop} {h : Heap} {g : Array GenState} {d : Drawn} {t : Nat} {os : OsState}
variable {nm q : Str} {C N : Addr} {bs bm : List Value} {hdct : Bool} {sn : List Str} {sub : List Value} {ab : Bool} {col : Option Bool} {dd : Option Addr} {k0 k1 k2 k3 k5 : Option Value} {nB newId iB initId : String}
theorem new_checked (Y : NewBy bm nB newId) {rest : List Value} {Q : Unit → Shared → Prop} (o : h.get? C = some (excClassObj nm q C N bs bm hdct sn sub ab col dd k0 k1 k2 k3 k5 newId))
    (k : Q () ⟨h, g, d, t, os⟩) : wpAny M A (checkBuiltinCall newId ⟨.ref C :: rest, []⟩) Q E ⟨h, g, d, t, os⟩ := by
  obtain ⟨⟨i, l, F⟩, yb, _, _⟩ := Y
  have own : (Value.ref C :: bm).contains (.type nB) = true := by
    rw [List.contains_cons, yb]
    exact Bool.or_true _
  have star := F.noStar
  simp only [F.newRow, F.newSplit, F.newKind, checkBuiltinCall]
  repeat (first
    | refine wpAny_loadPart_at o ?_
    | (refine wpAny_isSubtype_exc o ?_; rw [own])
    | refine wpAny_staticBase_exc o ?_
    | refine wpAny_madeBy_exc o ?_
    | simp only [Bool.false_eq_true, if_false, bne_self_eq_false]
    | wp_step)
  exact k
end
section
variable {prog : Program} {w : World} {A : Around} {E : Value → Shared → Prop} {R : Result → Shared → Prop} {h : Heap} {g : Array GenState} {d : Drawn} {t : Nat} {os : OsState}
variable {nm q : Str} {C N : Addr} {bs bm : List Value} {hdct : Bool} {sn : List Str} {sub : List Value} {ab : Bool} {col : Option Bool} {dd : Option Addr} {k0 k1 k2 k3 k5 : Option Value} {nB newId iB initId : String}
/-- the new object, its args aside -/
abbrev bare (C t : Addr) : Obj := { cls := .ref C, data := .fields #[.ref t, .none, .none, .none, .bool false, .none] }
theorem new_made (Y : NewBy bm nB newId) {rest : List Value} (o : h.get? C = some (excClassObj nm q C N bs bm hdct sn sub ab col dd k0 k1 k2 k3 k5 newId))
    (k : R (.ok (.ret (.ref (h.objs.size + 1)))) ⟨(h.push (PySem.W.kdv_tup rest)).push (bare C h.objs.size), g, d, t, os⟩) (few : rest.length ≤ sizeLine) :
    codeAny (model prog w) A (.builtin newId ⟨.ref C :: rest, []⟩) R ⟨h, g, d, t, os⟩ := by
  obtain ⟨⟨i, l, F⟩, yb, ya, yn⟩ := Y
  have e1 := F.ends
  have m1 : (Value.ref C :: bm).contains (.type nB) = true := by
    rw [List.contains_cons, yb]
    exact Bool.or_true _
  have m2 : (Value.ref C :: bm).contains (.type "AttributeError") = false := by
    rw [List.contains_cons, ya]
    rfl
  have m3 : (Value.ref C :: bm).contains (.type "NameError") = false := by
    rw [List.contains_cons, yn]
    rfl
  refine codeAny_builtinAt F.entry ?_
  unfold Builtin.«BaseException.__new__»
  refine PySem.wpAt_bind ?_
  show PySem.wpAt _ _ _ (stack >>= _) _ _ _
  refine PySem.wpAt_bind (PySem.wpAt_stack fun p1 p2 => PySem.wpAt_of_wpAny ?_)
  wp_walk
  refine PySem.wpAt_of_wpAny ?_
  rw [F.owner]
  repeat (first
    | with_reducible refine wpAny_madeHere_exc F.canon o ?_
    | with_reducible refine wpAny_loadPart_at o ?_
    | (with_reducible refine wpAny_isSubtype_exc o ?_; first | rw [m1] | rw [m2] | rw [m3])
    | wp_step)
  show R _ _
  rw [Heap.size_push]
  exact k
theorem type_made (Y : NewBy bm nB newId) {rest : List Value} {fI : Addr} {Q : Fin → Shared → Prop} (o : h.get? C = some (excClassObj nm q C N bs bm hdct sn sub ab col dd k0 k1 k2 k3 k5 newId))
    (hi : PySem.W.Looks (model prog w) h (typeLookup (.ref C) "__init__") (some (.ref fI))) (hb : ∀ x, PySem.W.Looks (model prog w) h (bindSpecial (.ref fI) x) (.ref fI, [x])) (few : rest.length ≤ sizeLine)
    (k : codeAny (model prog w) A (.call (.ref fI) ⟨.ref (h.objs.size + 1) :: rest, []⟩) (fun r s' => match r with | .ok (.ret v) => v = .none ∧ Q (.done (.ret (.ref (h.objs.size + 1)))) s' | .ok _ => False | .error e => E e s')
      ⟨(h.push (PySem.W.kdv_tup rest)).push (bare C h.objs.size), g, d, t, os⟩) :
    wpAny (model prog w) A (Builtin.«type.__call__» ⟨.ref C :: rest, []⟩) Q E ⟨h, g, d, t, os⟩ := by
  obtain ⟨i, l, F⟩ := Y.f
  repeat (first
    | with_reducible refine wpAny_loadPart_at o ?_
    | with_reducible refine wpAny_madeBy_exc o ?_
    | wp_step)
  refine codeAny_call_builtin_code (Code.quiet_builtin _ F.quiet) (new_checked Y o ?_)
  refine new_made Y o ?_ few
  show wpAny _ _ _ _ _ _
  have up : ∀ b u, h.get? b = some u → ((h.push (PySem.W.kdv_tup rest)).push (bare C h.objs.size)).get? b = some u := fun b u e => Heap.get?_push_of_some _ (Heap.get?_push_of_some _ e)
  have o2 := up _ _ o
  have at2 : ((h.push (PySem.W.kdv_tup rest)).push (bare C h.objs.size)).get? (h.objs.size + 1) = some (bare C h.objs.size) := by heap_get
  have self : (Value.ref C :: bm).contains (.ref C) = true := by simp
  have i2 := hi.keeps up
  have b2 := (hb (.ref (h.objs.size + 1))).keeps up
  unfold isInstance
  repeat (first
    | with_reducible refine wpAny_loadPart_at at2 ?_
    | (with_reducible refine wpAny_isSubtype_exc o2 ?_; rw [self])
    | wp_step)
  show wpAny _ _ (typeLookup (.ref C) _) _ _ _
  refine i2.at ?_
  refine wpAny_holding (wpAny_bind (b2.at ?_))
  refine wpAny_bind (wpAny_call (codeAny_mono k fun r s2 z => ?_))
  rcases r with e | (v | _ | _ | _)
  all_goals first
    | exact z
    | exact z.elim
    | skip
  obtain ⟨rfl, z⟩ := z
  first
    | exact wpAny_pure (wpAny_pure z)
    | (wp_walk; done)
    | (wp_walk; exact z)
theorem call_made (Y : NewBy bm nB newId) {rest : List Value} {fI : Addr} (o : h.get? C = some (excClassObj nm q C N bs bm hdct sn sub ab col dd k0 k1 k2 k3 k5 newId))
    (hi : PySem.W.Looks (model prog w) h (typeLookup (.ref C) "__init__") (some (.ref fI))) (hb : ∀ x, PySem.W.Looks (model prog w) h (bindSpecial (.ref fI) x) (.ref fI, [x])) (few : rest.length ≤ sizeLine)
    (k : codeAny (model prog w) (A.under (.builtin "type.__call__" ⟨.ref C :: rest, []⟩)) (.call (.ref fI) ⟨.ref (h.objs.size + 1) :: rest, []⟩) (PySem.W.InitBack (h.objs.size + 1) R)
      ⟨(h.push (PySem.W.kdv_tup rest)).push (bare C h.objs.size), g, d, t, os⟩) :
    codeAny (model prog w) A (.call (.ref C) ⟨rest, []⟩) R ⟨h, g, d, t, os⟩ := by
  have t1 := tc_lookup
  have t2 := tc_bind (.ref C)
  have ty : (⟨h, g, d, t, os⟩ : Shared).TypeIs (.ref C) "type" := ⟨_, o, rfl⟩
  refine codeAny_of_tree ?_
  show wpAny _ _ (callAny (.ref C) _) _ _ _
  repeat (any_goals (first
    | assumption
    | with_reducible refine wpAny_loadPart_at o ?_
    | wp_step))
  refine ⟨rfl, ?_⟩
  refine codeAny_call_builtin_at (Code.quiet_builtin _ (by decide +kernel)) entry_typeCall (wpAny_check_type_call_sub o (type_made Y o hi hb few ?_))
  refine codeAny_mono k fun r s2 z => ?_
  rcases r with e | (v | _ | _ | _)
  all_goals exact z
end

/-! ### the builtin __init__ that an own one calls -/
structure InitBy (bm : List Value) (iB initId : String) : Prop where
  c : ∃ n, ExcClass iB n initId
  b : bm.contains (.type iB) = true
section
variable {prog : Program} {w : World} {A : Around} {E : Value → Shared → Prop} {R : Result → Shared → Prop} {h : Heap} {g : Array GenState} {d : Drawn} {t : Nat} {os : OsState}
variable {nm q : Str} {C N : Addr} {bs bm : List Value} {hdct : Bool} {sn : List Str} {sub : List Value} {ab : Bool} {col : Option Bool} {dd : Option Addr} {k0 k1 k2 k3 k5 : Option Value} {newId iB initId : String}
theorem init_checked {M : Model} (Y : InitBy bm iB initId) {e : Addr} {oe : Obj} {rest : List Value} {Q : Unit → Shared → Prop} (o : h.get? C = some (excClassObj nm q C N bs bm hdct sn sub ab col dd k0 k1 k2 k3 k5 newId)) (he : h.get? e = some oe) (hc : oe.cls = .ref C)
    (k : Q () ⟨h, g, d, t, os⟩) : wpAny M A (checkBuiltinCall initId ⟨.ref e :: rest, []⟩) Q E ⟨h, g, d, t, os⟩ := by
  obtain ⟨⟨n, F⟩, yb⟩ := Y
  have own : (Value.ref C :: bm).contains (.type iB) = true := by
    rw [List.contains_cons, yb]
    exact Bool.or_true _
  have star := F.notStar
  simp only [F.initSig, F.initSplit, F.initKind, checkBuiltinCall]
  repeat (first
    | (with_reducible refine wpAny_loadPart_at he ?_; rw [hc])
    | with_reducible refine wpAny_loadPart_at o ?_
    | (with_reducible refine wpAny_isSubtype_exc o ?_; rw [own])
    | wp_step)
  refine wpAny_onRaise ?_
  rw [show ∀ (x y : String) (n : Nat), Bind.check ⟨.positional, "*", iB, .self, [⟨"args", .varPos, false⟩]⟩ x y n (List.map (fun z => z.fst) ({ pos := Value.ref e :: rest } : Args).kw) = pure () from
    fun x y n => check_star_args _ _ _ _ _ _]
  exact wpAny_pure k
theorem init_done (Y : InitBy bm iB initId) {e t0 : Addr} {rest : List Value} (o : h.get? C = some (excClassObj nm q C N bs bm hdct sn sub ab col dd k0 k1 k2 k3 k5 newId)) (he : h.get? e = some (bare C t0)) (few : rest.length ≤ sizeLine)
    (k : ∀ h2 t1, (∀ b u, b ≠ e → h.get? b = some u → h2.get? b = some u) → h2.get? e = some (bare C t1) → R (.ok (.ret .none)) ⟨h2, g, d, t, os⟩) :
    codeAny (model prog w) A (.call (.builtin initId) ⟨.ref e :: rest, []⟩) R ⟨h, g, d, t, os⟩ := by
  obtain ⟨n, F⟩ := Y.c
  refine codeAny_call_builtin F.init.plain F.initEntry (init_checked Y o he rfl ?_)
  wp_walk
  refine k _ h.objs.size (fun b u hb hu => ?_) ?_
  · rw [Heap.get?_update_other _ _ (Ne.symm hb)]
    exact Heap.get?_push_of_some _ hu
  · rw [Heap.get?_update_self _ (Heap.get?_push_of_some _ he) rfl]
    rfl
end
/-! ### an own class, as the written part tells it -/
structure OwnC (K : PySem.W.Frag) (C : Addr) (B newId initId : String) (bm : List Value) : Prop where
  cls : ∃ nm q N bs sn sub ab col dd k0 k1 k2 k3 k5, K.lookup C = some (excClassObj nm q C N bs bm true sn sub ab col dd k0 k1 k2 k3 k5 newId)
  new : ∃ nB, NewBy bm nB newId
  ini : InitBy bm B initId
  sto : ∃ S, StoreFacts S bm "object.__setattr__" "object"
  sa : PySem.W.findIn K (.ref C) "__setattr__" = some (some (.builtin "object.__setattr__"))
  tl : PySem.W.excTail bm bm = true
  ob : bm.contains (.type "object") = true
  exC : PySem.W.subIn K (.ref C) (.type "BaseException") = some true
  tyC : PySem.W.typeIn K (.ref C) = some (.type "type")
  kC : PySem.W.keepIn K (.ref C) = true
section
variable {X : Cx} {pins : List (Addr × Obj)} {σ : L2.St} {H : Hp} {s : Shared} {a C dx : Addr} {f : Str} {y : V} {u : Value} {fs : List (Str × V)} {A : Around} {B newId initId : String} {bm : List Value}
/-- B.__init__(self, ..) tells nothing -/
theorem own_init {us : List Value} {E : Value → Shared → Prop} {Q : Value → Shared → Prop} (T : OwnC X.K C B newId initId bm) (I : Inv X pins σ H s) (e : H a = some (exo a C none)) (few : us.length ≤ sizeLine) (k : ∀ s', Inv X pins σ H s' → Q .none s') :
    wpAny (model X.prog X.w) A (call (.builtin initId) (.ref a :: us)) Q E s := by
  obtain ⟨nm, q, N, bs, sn, sub, ab, col, dd, k0, k1, k2, k3, k5, o⟩ := T.cls
  obtain ⟨t1, at1⟩ := exo_at I.hok e
  obtain ⟨hp, g, d, t, os⟩ := s
  refine wpAny_call (init_done T.ini (I.kIn _ _ o) at1 few fun h2 t2 stay at2 => ?_)
  have J := I.write (t' := t) (x := a) (e := a) (o := exo a C none) (by rw [e]; exact True.intro) (.inl rfl) stay ⟨_, at2⟩ (exo_ok at2)
  have same : upd H a (exo a C none) = H := funext fun b => by
    by_cases hb : b = a
    · subst hb
      rw [upd_same, e]
    · rw [upd_ne hb]
  rw [same] at J
  exact k _ J
end
def tOwnI (K : PySem.W.Frag) (B newId initId : String) (bm : List Value) (ta : TA) : TE := fun σ H Q => ta σ H fun vs H1 => ∃ (a C : Addr) (ws : List V), vs = .ref a :: ws ∧ ws.length ≤ 1000 ∧ OwnC K C B newId initId bm ∧ H1 a = some (exo a C none) ∧ Q .non H1
section
variable {X : Cx} {o e : Expr} {es : List Expr} {to te : TE} {ta : TA} {f : Str} {p p' p1 p2 pos : Pos} {B newId initId : String} {bm : List Value}
/-- B.__init__(self, ..), B builtin -/
theorem pe_ownInit {x : Str} {pl : Sem Bool} (hg : Gl X x) (hm : X.mg x = none) (hb : bootBuiltins x = some (.type B)) (ty : typeOf (.type B) = pure (.type "type")) (st : Manifest.isStub B = false)
    (vV : PySem.W.findCls X.K (.type B) (.type "type") "__init__" = some (.val (.builtin initId))) (kb : PySem.W.handedIn (.builtin initId) = true) (ha : PA X (e :: es) ta) (n1 : x ≠ "__name__" := by decide) (n2 : (x == ("__debug__" : Str)) = false := by decide)
    (hc : eval (.Call (.Attribute (.Name x p1) "__init__" p2) (e :: es) [] pos) X.env = (do
      let ov ← eval (.Name x p1) X.env
      standAt p2.atName
      let (f, first) ← holding [ov] (getMethod ov "__init__" pl)
      callWith pos f first (backTo pos (starEach (e :: es) X.env)) (backToKw pos (keywordEach [] X.env))) := by rfl)
    (he : starEach (e :: es) X.env = (false, eval e X.env) :: starEach es X.env := by rfl) (hpl : (backTo pos (starEach es X.env)).any (·.1) = false := by rfl) :
    PE X (.Call (.Attribute (.Name x p1) "__init__" p2) (e :: es) [] pos) (tOwnI X.K B newId initId bm ta) := by
  refine ⟨fun pins s σ H Q I h => ?_⟩
  refine PySem.W.methodCall_KW (ld_blt I hg hm hb ?_ n1 n2) hc
  obtain ⟨m, fr⟩ := I.fr
  refine PySem.W.method_type fr I.ok.mod.kin ty st vV kb ?_
  show wpAny _ _ (callWith pos (Value.builtin initId) [] (backTo pos (starEach (e :: es) X.env)) []) _ _ _
  refine PyProof.Rows.callWith_method1 (thn (ha.run pos pins _ σ H _ (I.tok _) h) fun us s1 ⟨vs, H1, I1, r1, a, C, ws, ev, few, T, ea, k⟩ => ?_) he hpl
  subst ev
  cases r1 with
  | @cons _ u0 _ ur ra rw' =>
    obtain rfl : u0 = Value.ref a := ra
    have fit : ur.length ≤ sizeLine := by
      rw [← Paired.length rw', sizeLine_eq]
      omega
    exact own_init T I1 ea fit fun s2 J => ⟨.non, H1, J, rfl, k⟩
/-- C(e, ..) as a value: a new exception -/
def tOwnV (C : Addr) (sp : Sp) (ta : TA) : TE := fun σ H Q => ta σ H fun vs H1 => vs.length ≤ 1000 ∧ ∀ a, H1 a = none → sp (.ref a :: vs) (upd H1 a (exo a C none)) (fun v H2 => v = .non ∧ Q (.ref a) H2) (fun _ _ _ => False)
theorem own_call {CX : CXT} {C fI : Addr} {k : Nat} {fd : FuncData} {ps : List Str} {sp : Sp} (T : OwnC X.K C B newId initId bm) (iC : PySem.W.findIn X.K (.ref C) "__init__" = some (some (.ref fI))) (tI : PySem.W.typeIn X.K (.ref fI) = some (.type "function"))
    (F1 : FnOk X.prog X.w X.K X.mg X.base CX k fI fd ps sp) (hr : Room (k + 1) X.A) (hb : Binds X.K fd ps []) (hx : Passes CX X (fun _ _ _ => False)) {pins : List (Addr × Obj)} {σ : L2.St} {H : Hp} {s : Shared} {Q : VK} {us : List Value} {vs : List V}
    (I : Inv X pins σ H s) (r : Vals vs us) (few : vs.length ≤ 1000) (h : ∀ a, H a = none → sp (.ref a :: vs) (upd H a (exo a C none)) (fun v H2 => v = .non ∧ Q (.ref a) H2) (fun _ _ _ => False)) :
    wpAny (model X.prog X.w) X.A (call (.ref C) us) (EP X pins σ Q) X.xe s := by
  obtain ⟨nm, q, N, bs, sn, sub, ab, col, dd, k0, k1, k2, k3, k5, o⟩ := T.cls
  obtain ⟨nB, Y⟩ := T.new
  obtain ⟨hp, g, dr, tk, os⟩ := s
  have lt : hp.objs.size ≤ hp.objs.size + 1 := Nat.le_succ _
  have no : H (hp.objs.size + 1) = none := I.hok.fresh lt
  have hq := h (hp.objs.size + 1) no
  have up : ∀ b u, hp.get? b = some u → ((hp.push (PySem.W.kdv_tup us)).push (bare C hp.objs.size)).get? b = some u := fun b u e => Heap.get?_push_of_some _ (Heap.get?_push_of_some _ e)
  have at2 : ((hp.push (PySem.W.kdv_tup us)).push (bare C hp.objs.size)).get? (hp.objs.size + 1) = some (bare C hp.objs.size) := by heap_get
  have I2 : Inv X pins σ (upd H (hp.objs.size + 1) (exo (hp.objs.size + 1) C none)) ⟨(hp.push (PySem.W.kdv_tup us)).push (bare C hp.objs.size), g, dr, tk, os⟩ :=
    I.laid (t' := tk) (a := hp.objs.size + 1) (o := exo (hp.objs.size + 1) C none) (h' := (hp.push (PySem.W.kdv_tup us)).push (bare C hp.objs.size)) up lt (exo_ok at2)
  have r2 : Vals (V.ref (hp.objs.size + 1) :: vs) (Value.ref (hp.objs.size + 1) :: us) := .cons rfl r
  have hl : (Value.ref (hp.objs.size + 1) :: us).length = ps.length := by
    rw [← r2.length]
    exact F1.len _ _ _ _ hq
  have fit : us.length ≤ sizeLine := by
    rw [← Paired.length r, sizeLine_eq]
    omega
  have hbd := hb ⟨(hp.push (PySem.W.kdv_tup us)).push (bare C hp.objs.size), g, dr, tk, os⟩ (Value.ref (hp.objs.size + 1) :: us) I2.kIn (by rw [List.append_nil]; exact hl)
  rw [List.append_nil] at hbd
  refine wpAny_call (call_made Y (I.kIn _ _ o) (PySem.W.looks_findIn I.kIn iC) (fun x => PySem.W.bind_fn I.kIn x tI) fit
    (codeAny_mono (F1.run _ X.stack _ _ ⟨Value.ref (hp.objs.size + 1) :: us, []⟩ (Value.ref (hp.objs.size + 1) :: us) _ _ (fun _ _ _ => False) (hr.make C us []) (I2.env0.make C us []) hbd r2 hq) fun r s2 z => ?_))
  cases r with
  | error er => exact hx pins σ _ _ er s2 I2 z
  | ok fl =>
    cases fl with
    | ret u =>
      obtain ⟨v, H2, J, rv, ev, k⟩ := I2.after z
      subst ev
      exact ⟨rv, .ref (hp.objs.size + 1), H2, J, rfl, k⟩
    | next => exact False.elim z
    | brk => exact False.elim z
    | cont => exact False.elim z
theorem pe_own {CX : CXT} {x : Str} {C fI : Addr} {k : Nat} {fd : FuncData} {ps : List Str} {sp : Sp} (T : OwnC X.K C B newId initId bm) (iC : PySem.W.findIn X.K (.ref C) "__init__" = some (some (.ref fI))) (tI : PySem.W.typeIn X.K (.ref fI) = some (.type "function"))
    (F1 : FnOk X.prog X.w X.K X.mg X.base CX k fI fd ps sp) (hr : Room (k + 1) X.A) (hb : Binds X.K fd ps []) (hx : Passes CX X (fun _ _ _ => False)) (hg : Gl X x) (hm : X.mg x = some (.ref C)) (ha : PA X (e :: es) ta)
    (hdb : (x == ("__debug__" : Str)) = false := by decide) (he : starEach (e :: es) X.env = (false, eval e X.env) :: starEach es X.env := by rfl) (hpl : (backTo pos (starEach es X.env)).any (·.1) = false := by rfl) :
    PE X (.Call (.Name x p) (e :: es) [] pos) (tOwnV C sp ta) := by
  refine ⟨fun pins s σ H Q I h => ?_⟩
  refine wpAny_Call_Name_kw (ld_glob I hg hm ?_ hdb)
  refine PySem.W.callWith_K (h₀ := X.base) I.ok.mod.kin T.kC (thn (ha.run pos pins s σ H _ I h) fun us s1 ⟨vs, H1, I1, r1, hz, q1⟩ => ⟨I1.kIn, ?_⟩) he hpl
  exact own_call T iC tI F1 hr hb hx I1 r1 hz q1
theorem pe_own0 {CX : CXT} {x : Str} {C fI : Addr} {k : Nat} {fd : FuncData} {ps : List Str} {sp : Sp} (T : OwnC X.K C B newId initId bm) (iC : PySem.W.findIn X.K (.ref C) "__init__" = some (some (.ref fI))) (tI : PySem.W.typeIn X.K (.ref fI) = some (.type "function"))
    (F1 : FnOk X.prog X.w X.K X.mg X.base CX k fI fd ps sp) (hr : Room (k + 1) X.A) (hb : Binds X.K fd ps []) (hx : Passes CX X (fun _ _ _ => False)) (hg : Gl X x) (hm : X.mg x = some (.ref C)) (hdb : (x == ("__debug__" : Str)) = false := by decide) :
    PE X (.Call (.Name x p) [] [] pos) (tOwnV C sp tNil) := by
  refine ⟨fun pins s σ H Q I h => ?_⟩
  refine wpAny_Call_Name_kw (ld_glob I hg hm ?_ hdb)
  exact PySem.W.callWith_K0 I.kIn T.kC (own_call (us := []) T iC tI F1 hr hb hx I .nil h.1 h.2)
end

/-! ### self.f = e on such -/
section
open PySem.Builtin PySem.Builtin.ObjectAttr
variable {prog : Program} {w : World} {A : Around} {R : Result → Shared → Prop} {hp : Heap} {g : Array GenState} {d : Drawn} {t : Nat} {os : OsState} {K : PySem.W.Frag} {C x dx : Addr} {B newId initId : String} {bm : List Value} {name : Str} {tk : Tok} {v : Value} {fv : Array Value}
theorem OwnC.clsIn (T : OwnC K C B newId initId bm) : ∃ cd : ClassData, PySem.W.clsIn K C = some cd ∧ cd.mro = .ref C :: bm ∧ cd.hasDict = true := by
  obtain ⟨nm, q, N, bs, sn, sub, ab, col, dd, k0, k1, k2, k3, k5, o⟩ := T.cls
  refine ⟨{ name := nm, bases := bs, mro := .ref C :: bm, ns := N, qualname := q, hasDict := true, slotNames := sn, subclasses := sub, abstract := ab, collection := col, hasDel := false }, ?_, rfl, rfl⟩
  unfold PySem.W.clsIn
  rw [o] <;> rfl
theorem OwnC.over (T : OwnC K C B newId initId bm) : PySem.W.excOver K C bm = true := by
  obtain ⟨cd, hc, hm, _⟩ := T.clsIn
  unfold PySem.W.excOver
  rw [hc]
  show (match cd.mro with | .ref C' :: l => C' == C && PySem.W.excTail bm l | _ => false) = true
  rw [hm]
  show (C == C && PySem.W.excTail bm bm) = true
  rw [T.tl, Bool.and_true]
  exact beq_self_eq_true C
theorem taker_none (h : PySem.W.findIn K (.ref C) name = some none) : PySem.W.takerIn K C name = some none := by
  unfold PySem.W.takerIn
  rw [h]
  rfl
theorem own_sa0 (T : OwnC K C B newId initId bm) (X : K.In hp) (hx : hp.get? x = some { cls := .ref C, data := .fields fv }) (no : PySem.W.findIn K (.ref C) name = some none)
    (k : ∀ h2 t2 dx, (∀ b u, b ≠ x → hp.get? b = some u → h2.get? b = some u) → hp.objs.size ≤ dx → dx ≠ x → h2.get? x = some { cls := .ref C, dict := some dx, data := .fields fv } →
      h2.Ns1 dx (fun y => if y = name then some v else none) → R (.ok (.ret .none)) ⟨h2, g, d, t2, os⟩) :
    codeAny (model prog w) A (.call (.builtin "object.__setattr__") ⟨[.ref x, .str name tk, v], []⟩) R ⟨hp, g, d, t, os⟩ := by
  obtain ⟨S, SF⟩ := T.sto
  obtain ⟨cd, hc, hm, hh⟩ := T.clsIn
  have far : x ≠ hp.objs.size := Nat.ne_of_lt (Heap.lt_size hx)
  have lk : PySem.W.Looks (model prog w) hp (classData C) cd := PySem.W.looks_clsIn X hc
  refine PySem.W.osa_openX (s := ⟨hp, g, d, t, os⟩) (ox := { cls := .ref C, data := .fields fv }) (od := none) SF X ⟨hx, rfl, rfl, trivial⟩ T.over (taker_none no) fun b => ?_
  show wpAny _ _ (storeInOwnDict (.ref x) (.ref C) (.str name tk) name v b) _ _ _
  obtain ⟨c1, c2, c3, c4, c5, hd, c7, c8, c9, c10, c11⟩ := cd
  dsimp only at hh
  subst hh
  unfold storeInOwnDict ownDictForStores
  repeat (first
    | with_reducible refine PySem.HandSPX.store_in_new ?_ ?_
    | with_reducible refine wpAny_loadPart_at hx ?_
    | with_reducible refine lk.at ?_
    | wp_step)
  · exact ⟨_, #[], _, (Heap.get?_update_ne _ _ _ _ far.symm).trans (Heap.get?_push_at rfl rfl), rfl, fun e he => absurd he (by simp), fun _ => rfl⟩
  · intro h2 t2 hn hs
    have hx1 : (hp.push { cls := .type "dict", data := .dict #[] }).get? x = some { cls := .ref C, data := .fields fv } := Heap.get?_push_of_some _ hx
    refine k h2 t2 hp.objs.size (fun b u hb hu => ?_) (Nat.le_refl _) far.symm ?_ hn
    · exact (hs.2 b (Nat.ne_of_lt (Heap.lt_size hu))).trans ((Heap.get?_update_ne _ _ _ _ hb).trans (Heap.get?_push_of_some _ hu))
    · exact (hs.2 x far).trans (Heap.get?_update_self _ hx1 rfl)
theorem own_sa1 {m0 : Str → Option Value} {nl : List Str} (T : OwnC K C B newId initId bm) (X : K.In hp) (hx : hp.get? x = some { cls := .ref C, dict := some dx, data := .fields fv }) (hns : hp.Ns1 dx m0) (hw : Within m0 nl) (hz : nl.length ≤ 1000)
    (no : PySem.W.findIn K (.ref C) name = some none)
    (k : ∀ h2 t2, (∀ b u, b ≠ dx → hp.get? b = some u → h2.get? b = some u) → h2.Ns1 dx (fun y => if y = name then some v else m0 y) → R (.ok (.ret .none)) ⟨h2, g, d, t2, os⟩) :
    codeAny (model prog w) A (.call (.builtin "object.__setattr__") ⟨[.ref x, .str name tk, v], []⟩) R ⟨hp, g, d, t, os⟩ := by
  obtain ⟨S, SF⟩ := T.sto
  obtain ⟨cd, hc, hm, hh⟩ := T.clsIn
  obtain ⟨oD, _, _, hoD, _, _⟩ := hns.count hw
  have lk : PySem.W.Looks (model prog w) hp (classData C) cd := PySem.W.looks_clsIn X hc
  refine PySem.W.osa_openX (s := ⟨hp, g, d, t, os⟩) (ox := { cls := .ref C, dict := some dx, data := .fields fv }) (od := some oD) SF X ⟨hx, rfl, rfl, hoD⟩ T.over (taker_none no) fun b => ?_
  show wpAny _ _ (storeInOwnDict (.ref x) (.ref C) (.str name tk) name v b) _ _ _
  obtain ⟨c1, c2, c3, c4, c5, hd, c7, c8, c9, c10, c11⟩ := cd
  dsimp only at hh
  subst hh
  unfold storeInOwnDict ownDictForStores
  repeat (first
    | with_reducible refine PySem.OEX.store_in_old hns hw hz ?_
    | with_reducible refine wpAny_loadPart_at hx ?_
    | with_reducible refine lk.at ?_
    | wp_step)
  intro h2 t2 hn hs
  exact k h2 t2 (fun b u hb hu => (hs.2 b hb).trans hu) hn
end
section
variable {X : Cx} {pins : List (Addr × Obj)} {σ : L2.St} {H : Hp} {s : Shared} {a C dx : Addr} {f : Str} {y : V} {u : Value} {fs : List (Str × V)} {Q : Unit → Shared → Prop} {E : Value → Shared → Prop} {A : Around} {B newId initId : String} {bm : List Value}
theorem own_st0 (T : OwnC X.K C B newId initId bm) (I : Inv X pins σ H s) (e : H a = some (exo a C none)) (no : PySem.W.findIn X.K (.ref C) f = some none) (ry : RelV y u)
    (k : ∀ dx s', H dx = none → dx ≠ a → Inv X pins σ (upd (upd H dx (exd dx [(f, y)])) a (exo a C (some dx))) s' → Q () s') : wpAny (model X.prog X.w) A (setAttr (.ref a) f u) Q E s := by
  obtain ⟨t1, ho⟩ := exo_at I.hok e
  obtain ⟨hp, g, d, t, os⟩ := s
  refine PySem.W.set_plain I.kIn (ox := { cls := .ref C, dict := none, data := .fields #[.ref t1, .none, .none, .none, .bool false, .none] }) (od := none) ⟨ho, rfl, rfl, trivial⟩ T.sa ?_
  refine own_sa0 T I.kIn ho no fun h2 t2 dx stay dn dne hx hn => ?_
  have nodx : H dx = none := I.hok.fresh dn
  have ndx : ∀ {b : Addr} {o : Obj}, hp.get? b = some o → b ≠ dx := fun {b o} z => Nat.ne_of_lt (Nat.lt_of_lt_of_le (Heap.lt_size z) dn)
  have na : ∀ {b : Addr}, H b = none → b ≠ a := fun {b} n z => by
    rw [z, e] at n
    cases n
  have un : Un X.fs [] H (upd (upd H dx (exd dx [(f, y)])) a (exo a C (some dx))) hp h2 := {
    keep := fun b o z n _ _ => stay b o (na n) z
    slot := fun b o z n _ _ => ⟨o.slots, stay b o (na n) z⟩
    free := fun b o z n _ => by
      rw [upd_ne (na n), upd_ne (ndx z)]
      exact n
    there := fun b o z _ => by
      by_cases hb : b = a
      · subst hb
        exact ⟨_, hx⟩
      · exact ⟨o, stay b o hb z⟩
    tups := fun b xs z => by
      rw [upd_ne (L2.at_ne e z exo_tup), upd_ne (ne_of_none z nodx)]
      exact z
    frzs := fun b o v z => by
      rw [upd_ne (L2.at_ne e z exo_frz), upd_ne (ne_of_none z nodx)]
      exact z
    tbls := fun b ps z => ⟨#[], by
      rw [upd_ne (L2.at_ne e z exo_tbl), upd_ne (ne_of_none z nodx), z]
      simp⟩ }
  refine k dx _ nodx dne (I.un (t' := t2) un fun b o z => ?_)
  by_cases hb : b = a
  · subst hb
    rw [upd_same] at z
    cases z
    exact exo_ok hx
  · rw [upd_ne hb] at z
    by_cases hd : b = dx
    · subst hd
      rw [upd_same] at z
      cases z
      exact exd_ok hn (relO_put (fs := []) ry fun g => True.intro)
    · rw [upd_ne hd] at z
      refine (I.hok b o z).stay (fun c v hc q => stay c v ?_ q) (fun c hc => ?_) fun c xs hc => ?_
      · rcases hc with hc | hc
        · subst hc
          exact hb
        · exact L2.at_ne e hc exo_own
      · rw [upd_ne (L2.at_ne e hc exo_own), upd_ne (ne_of_none hc nodx)]
        exact hc
      · rw [upd_ne (L2.at_ne e hc exo_tup), upd_ne (ne_of_none hc nodx)]
        exact hc
theorem own_st1 (T : OwnC X.K C B newId initId bm) (I : Inv X pins σ H s) (e : H a = some (exo a C (some dx))) (ed : H dx = some (exd dx fs)) (hl : fs.length ≤ 900) (no : PySem.W.findIn X.K (.ref C) f = some none) (ry : RelV y u)
    (k : ∀ s', Inv X pins σ (upd H dx (exd dx ((f, y) :: fs))) s' → Q () s') : wpAny (model X.prog X.w) A (setAttr (.ref a) f u) Q E s := by
  obtain ⟨t1, ho⟩ := exo_at I.hok e
  obtain ⟨mA, hns, rel⟩ := exd_at I.hok ed
  have hw := within_of rel
  obtain ⟨hp, g, d, t, os⟩ := s
  obtain ⟨oD, _, _, hoD, _, _⟩ := hns.count hw
  refine PySem.W.set_plain I.kIn (ox := { cls := .ref C, dict := some dx, data := .fields #[.ref t1, .none, .none, .none, .bool false, .none] }) (od := some oD) ⟨ho, rfl, rfl, hoD⟩ T.sa ?_
  refine own_sa1 T I.kIn ho hns hw (by rw [List.length_map]; omega) no fun h2 t2 stay hn => ?_
  have there : ∃ o, h2.get? dx = some o := by
    obtain ⟨o, _, _, z, _⟩ := id hn
    exact ⟨o, z⟩
  exact k _ (I.write (t' := t2) (x := dx) (e := dx) (o := exd dx ((f, y) :: fs)) (by rw [ed]; exact True.intro) (.inl rfl) stay there (exd_ok hn (relO_put ry rel)))
end
def tOwnS (K : PySem.W.Frag) (B newId initId : String) (bm : List Value) (f : Str) (to te : TE) : TS := fun D σ H => te σ H fun y H1 => to σ H1 fun x H2 => ∃ a C : Addr, x = .ref a ∧ OwnC K C B newId initId bm ∧ PySem.W.findIn K (.ref C) f = some none ∧
  ((H2 a = some (exo a C none) ∧ ∀ dx, H2 dx = none → dx ≠ a → D.nx σ (upd (upd H2 dx (exd dx [(f, y)])) a (exo a C (some dx)))) ∨
    ∃ (dx : Addr) (fs : List (Str × V)), H2 a = some (exo a C (some dx)) ∧ H2 dx = some (exd dx fs) ∧ fs.length ≤ 900 ∧ D.nx σ (upd H2 dx (exd dx ((f, y) :: fs))))
theorem ps_ownS {X : Cx} {o e : Expr} {to te : TE} {f : Str} {p' pos : Pos} {B newId initId : String} {bm : List Value} (ho : PE X o to) (he : PE X e te) (hs : swapsWith e (some (.Attribute o f p')) pos.line X.env = pure false := by rfl) :
    PS X (.Assign [.Attribute o f p'] e pos) (tOwnS X.K B newId initId bm f to te) := by
  refine ⟨fun pins s σ H D I h => ?_⟩
  refine plainObj_wpAny_Assign_Attribute (thn (he.run pins s σ H _ I h) fun v s1 ⟨y, H1, I1, r1, q1⟩ => thn (ho.run pins s1 σ H1 _ I1 q1) fun u s2 ⟨x, H2, I2, r2, a, C, ex, T, no, z⟩ => ?_) hs
  subst ex
  obtain rfl : u = Value.ref a := r2
  rcases z with ⟨ea, z⟩ | ⟨dx, fs, ea, ed, hl, z⟩
  · exact own_st0 T I2 ea no r1 fun dx s2 n ne J => ⟨σ, _, J, z dx n ne⟩
  · exact own_st1 T I2 ea ed hl no r1 fun s2 J => ⟨σ, _, J, z⟩

/-! ### isinstance of an exception that is held as a value -/
section
open PySem.W
variable {prog : Program} {w : World} {A : Around} {E : Value → Shared → Prop} {s : Shared} {K : Frag} {x D : Addr} {ox : Obj} {od : Option Obj}
theorem found_data {n : Str} {a g : Value} (hc : (clsIn K D).isSome = true) (h1 : findIn K (.ref D) n = some (some a)) (h2 : specialIn K a "__get__" = some (some g)) (h3 : takesIn K a = some true) :
    findObj K D od n = some (.bind g a) := by
  obtain ⟨cd, z⟩ := Option.isSome_iff_exists.mp hc
  unfold findObj
  rw [z, Option.bind_some, h1, Option.bind_some]
  simp [h2, h3]
theorem class_told {Q : Option Value → Shared → Prop} (T : ExcC K D) (X : K.In s.heap) (I : InstAt s.heap x ox D od) (k : Q (some (.ref D)) { s with toks := s.toks + 1 }) : wpAny (model prog w) A (getAttr? (.ref x) "__class__") Q E s := by
  have there : (clsIn K D).isSome = true := by
    obtain ⟨cd, z, _⟩ := any_some T.hd
    rw [z]
    rfl
  have fo : findObj K D od "__class__" = some (.bind (.builtin "getset_descriptor.__get__") (.builtin "object.__class__")) := found_data there T.ha T.hn T.ht
  obtain ⟨hp, g, d, t, os⟩ := s
  have l0 := I.type (M := model prog w)
  have l1 := looks_findIn (M := model prog w) X T.hg
  have l2 := looks_findIn (M := model prog w) X T.hk
  have l3 := looks_find (M := model prog w) X I fo
  have under : Looks (model prog w) hp (isInstance (.ref x) (.type "BaseException")) true := l0.andThen (looks_subIn X T.hs)
  have z0 : (false && onTheHeap (Value.builtin "BaseException.__getattribute__")) = false := rfl
  have z2 : (Value.builtin "BaseException.__getattribute__" == Value.builtin "object.__getattribute__") = false := by decide +kernel
  have z1 : (onTheHeap (Value.ref D) && Value.builtin "BaseException.__getattribute__" == Value.builtin "object.__getattribute__") = false := by
    rw [z2]
    rfl
  unfold getAttr?
  unfold getAttrBy?
  unfold getAttrBy
  refine wpAny_bind (wpAny_mkText (wpAny_bind (wpAny_attempt (wpAny_holding (wpAny_bind (l0.at (wpAny_bind (l1.at ?_))))))))
  show wpAny _ _ (if (onTheHeap (Value.ref D) && Value.builtin "BaseException.__getattribute__" == Value.builtin "object.__getattribute__") = true
    then _ else _) _ _ _
  rw [z1, if_neg Bool.false_ne_true]
  unfold getAttrByItsOwn
  unfold hookBefore
  refine wpAny_bind ?_
  rw [if_pos (show onTheHeap (Value.ref D) = true by rfl)]
  refine l2.at ?_
  refine wpAny_bind ?_
  refine wpAny_attempt (wpAny_holding ?_)
  unfold callGetattribute
  rw [z0, if_neg Bool.false_ne_true]
  unfold boundAndCalled
  rw [PySem.F.excAttr_ValueError.ga.bind (.ref x)]
  refine wpAny_bind ?_
  refine wpAny_pure ?_
  show wpAny (model prog w) _ (call (.builtin "BaseException.__getattribute__") [.ref x, .str "__class__" t]) _ _ _
  refine wpAny_call ?_
  refine codeAny_call_builtin PySem.F.excAttr_ValueError.ga.plain PySem.F.entry_bexc_ga ?_
  refine @check_slot (model prog w) _ _ ⟨hp, g, d, t + 1, os⟩ "BaseException.__getattribute__" "BaseException" "__getattribute__" (.ref x) [.str "__class__" t] [] _ (by decide +kernel) (by decide +kernel) under (PySem.F.args_bexc_ga (.ref x) (.str "__class__" t)) ?_
  unfold PySem.Builtin.«object.__getattribute__»
  refine wpAny_bind ?_
  refine wpAny_of_eq (a := ((Value.ref x : Value), [Value.str "__class__" t])) (by first | rfl | (simp only [PySem.Builtin.slotArgs]; done)) ?_
  refine wpAny_bind ?_
  refine wpAny_pure (wpAny_bind (l0.at (wpAny_bind (l3.at ?_))))
  show wpAny (model prog w) _ (holding [Value.builtin "object.__class__"] (call (.builtin "getset_descriptor.__get__") [.builtin "object.__class__", .ref x, .ref D]) >>= ret) _ _ _
  refine wpAny_bind ?_
  refine wpAny_holding (wpAny_call (class_get (s := ⟨hp, g, d, t + 1, os⟩) (ox := ox) (od := od) X I T.hm ?_))
  refine wpAny_pure ?_
  show wpAny (model prog w) _ (handedOut (.ref D)) _ _ _
  rw [handedOut_of (v := .ref D) rfl]
  first
    | exact wpAny_pure (wpAny_pure k)
    | exact wpAny_pure k
    | exact wpAny_pure (wpAny_bind (wpAny_pure (wpAny_pure k)))
theorem exo_kit (T : ExcC K D) : KitX K (.ref x) (.ref D) (fun h => InstAt h x ox D od) where
  ty := fun _ _ _ I => I.type
  it := fun M h X _ => by
    obtain ⟨cd, z, _⟩ := any_some T.hd
    unfold clsIn at z
    split at z
    · rename_i o
      intro _ _ _ s' k q
      unfold isType
      unfold loadHead
      exact wpAny_bind (wpAny_loadPart (k _ _ (X _ _ o)) (wpAny_pure q))
    · cases z
  ne := fun h tp _ _ _ _ X htp => by
    obtain ⟨cd, z, _⟩ := any_some T.hd
    refine Bool.eq_false_iff.mpr fun q => ?_
    have e : D = tp := Value.ref.inj (beq_iff_eq.mp q)
    subst e
    unfold clsIn at z
    split at z
    · rename_i o
      cases (X _ _ o).symm.trans htp
    · cases z
  ca := fun X I k => class_told T X I k
theorem kit_own {C C' : Addr} (T' : PySem.W.hasDictIn K C' = true) (ty : typeIn K (.ref C') = some (.type "type")) (ex : subIn K (.ref C) (.ref C') = some (decide (C = C'))) :
    kitOne K (.ref C) (.ref C') = some (decide (C = C')) := by
  unfold kitOne
  by_cases h : C = C'
  · subst h
    rw [if_pos (beq_self_eq_true _), decide_eq_true rfl]
  · rw [if_neg (fun z => h (Value.ref.inj (beq_iff_eq.mp z)))]
    unfold kitCls
    obtain ⟨cd, z, _⟩ := any_some T'
    have yes : ((clsIn K C').isSome && typeIn K (.ref C') == some (.type "type")) = true := by
      rw [z, ty]
      rfl
    show (if ((clsIn K C').isSome && typeIn K (.ref C') == some (.type "type")) = true then subIn K (.ref C) (.ref C') else none) = _
    rw [if_pos yes]
    exact ex
end
/-- isinstance(e, c), e an exception of an own class that is held as a value -/
def rIsO (K : PySem.W.Frag) : List V → Hp → VK → Prop := fun xs H Q => ∃ (a C : Addr) (d : Option Addr) (c : V) (cv : Value) (b : Bool), xs = [.ref a, c] ∧ ClsV c cv ∧ ExcC K C ∧ H a = some (exo a C d) ∧ (∀ dx, d = some dx → ∃ fs, H dx = some (exd dx fs)) ∧ PySem.W.kitOne K (.ref C) cv = some b ∧ Q (.bl b) H
theorem call_isO {X : Cx} : CallR X (.builtin "isinstance") (rIsO X.K) := by
  intro pins s σ H xs us Q I r h
  obtain ⟨a, C, d, c, cv, b, rfl, kc, T, ea, ed, e, q⟩ := h
  obtain ⟨u1, u2, rfl, r1, r2⟩ := vals2 r
  have e2 := kc.eq r2
  subst e2
  cases r1
  obtain ⟨t1, ho⟩ := exo_at I.hok ea
  have J : ∃ od, PySem.W.InstAt s.heap a { cls := .ref C, dict := d, data := .fields #[.ref t1, .none, .none, .none, .bool false, .none] } C od := by
    cases d with
    | none => exact ⟨none, ho, rfl, rfl, trivial⟩
    | some dx =>
      obtain ⟨fs, hd⟩ := ed dx rfl
      obtain ⟨mA, hns, rel⟩ := exd_at I.hok hd
      obtain ⟨oD, _, _, hoD, _, _⟩ := hns.count (within_of rel)
      exact ⟨some oD, ho, rfl, rfl, hoD⟩
  obtain ⟨od, J⟩ := J
  exact PySem.W.kia_one (exo_kit T) I.kIn J e (fun z => nomatch z) fun tk => ⟨.bl b, H, I.tok tk, rfl, q⟩
/-- e.f of such -/
def tOwnF (K : PySem.W.Frag) (f : Str) (te : TE) : TE := fun σ H Q => te σ H fun x H1 => ∃ (a C d : Addr) (fs : List (Str × V)) (v : V), x = .ref a ∧ XfC K C ∧ PySem.W.findIn K (.ref C) f = some none ∧ H1 a = some (exo a C (some d)) ∧ H1 d = some (exd d fs) ∧ fs.lookup f = some v ∧ Q v H1
theorem pe_ownF {X : Cx} {e : Expr} {te : TE} {pos : Pos} {n : Str} (he : PE X e te) (hb : attributeBase e n X.env (eval e X.env) = eval e X.env := by rfl) : PE X (.Attribute e n pos) (tOwnF X.K n te) := by
  refine ⟨fun pins s σ H Q I h => ?_⟩
  refine attr_of hb (thn (he.run pins s σ H _ I h) fun u s1 hh => ?_)
  obtain ⟨x, H1, I1, rx, a, C, d, fs, v, ex, T, no, ea, ed, l, q⟩ := hh
  subst ex
  obtain rfl : u = Value.ref a := rx
  obtain ⟨t1, ho⟩ := exo_at I1.hok ea
  obtain ⟨mA, hns, rel⟩ := exd_at I1.hok ed
  obtain ⟨od, hoD, hl⟩ := lookIn_ns hns
  obtain ⟨u, hu, ru⟩ := RelO.some_of (v := v) (o := mA n) (by rw [← l]; exact rel n)
  have J : PySem.W.InstAt s1.heap a { cls := .ref C, dict := some d, data := .fields #[.ref t1, .none, .none, .none, .bool false, .none] } C (some od) := ⟨ho, rfl, rfl, hoD⟩
  exact HandSPX.exc_get I1.kIn J T.ga T.gg T.exC (PySem.W.findObj_own T.hdC no rfl (by rw [hl, hu])) (handed_of ru) ⟨v, H1, I1.tok _, ru, q⟩

/-! ### the law's own def, run where the law is asked: nothing is being shown there -/
def RunAt (P : Program) (w : World) (K : PySem.W.Frag) (mg : Str → Option Value) (base : Heap) (f : Addr) (fd : FuncData) (ps : List Str) (sp : Sp) : Prop :=
  ∀ (s : Shared) (H : Hp) (us : List Value) (vs : List V) (Q : VK) (E : XK), Env0 P w K mg base callerA [] s H → BindsTo s fd ⟨us, []⟩ (ps.zip us) → Vals vs us → sp vs H Q E → codeAny (model P w) callerA (.call (.ref f) ⟨us, []⟩) (CR CX0 [] P w H s Q E) s
section
variable {P : Program} {w : World} {K : PySem.W.Frag} {mg : Str → Option Value} {base : Heap}
theorem run_at {x qual : Str} {st : Stmt} {f : Addr} {fd : FuncData} {N ps : List Str} {k : Nat} {sp : Sp} (F : Fun K x qual st f fd) (S : FnScope N ps (defScope st)) (room : Room (k + 1) callerA) (len : ∀ vs H Q E, sp vs H Q E → vs.length = ps.length)
    (body : ∀ (cdv : Value) (s : Shared) (H : Hp) (vs : List V) (Q : VK) (E : XK), Room k (callerA.deeper (envOfC qual (defScope st) s.heap.objs.size f cdv)) → sp vs H Q E →
      ∃ t, PSs (cxOf CX0 P w K mg base N qual (defScope st) f cdv callerA [] s H E).nox (defBody st) t ∧ t { nx := fun _ H' => Q .non H', rt := Q } (start N vs) H) : RunAt P w K mg base f fd ps sp := by
  obtain ⟨oc, od, kV, doc, pm, an, cdv, ct, osl, rfl, lk, hcd⟩ := F.ex
  intro s H us vs Q E e0 hb r hsp
  have few := len _ _ _ _ hsp
  have kin : K.In s.heap := e0.mod.kin.keeps fun b o z => (e0.bs b o z).1
  have lim : s.heap.NoLimit := e0.mod.nolimit.keeps fun b o z => (e0.bs b o z).1
  have kinds : ∀ z ∈ ps.zip us, (defScope st).names.lookup z.1 = some .local ∨ ((defScope st).names.lookup z.1 = some .cell ∧ ((cellsFrom (s.heap.objs.size + 1) (defScope st).names []).lookup z.1).isSome = true) := by
    rintro ⟨n, v⟩ hz
    rcases S.par n (List.of_mem_zip hz).1 with z | z
    · exact .inl z
    · exact .inr ⟨z, PySem.W.cellsFrom_some _ _ _ (.inl z)⟩
  refine codeAny_call_function room.depth (kin _ _ lk) rfl S.co S.gen rfl (PySem.W.codeRec_of kin hcd) (hb _ _ _ _ ?_)
  refine wpAny_newFunctionEnv_cells S.kind kinds fun env he s1 z => ?_
  subst he
  refine ⟨lim.keeps z.toInCall.keep, codeAny_func ?_⟩
  obtain ⟨t, ht, hq⟩ := body cdv s H vs Q E (room.deeper _) hsp
  have I : Inv (cxOf CX0 P w K mg base N qual (defScope st) f cdv callerA [] s H E) [] (start N vs) H s1 := inv_start S room.hd e0 few r z
  refine wpAny_mono (ht.nox.run [] s1 (start N vs) H _ I hq) (fun fl s2 hs => ?_) fun e s2 hs => hs
  cases fl with
  | ret u =>
    obtain ⟨v, σ2, H2, J, rv, q⟩ := hs
    exact ⟨v, H2, J.os, J.bare, J.base, J.hok, rv, q⟩
  | next =>
    obtain ⟨σ2, H2, J, q⟩ := hs
    exact ⟨.non, H2, J.os, J.bare, J.base, J.hok, rfl, q⟩
  | brk =>
    obtain ⟨_, _, _, q⟩ := hs
    exact q.elim
  | cont =>
    obtain ⟨_, _, _, q⟩ := hs
    exact q.elim
theorem law_at {mb : Str → Option Value} {fa p : Addr} {fd : FuncData} {x : Str} {sp : Sp} {s1 : Shared} {vs : List Value} {ns : List Int}
    (kin : K.In s1.heap) (hns : s1.heap.Ns mainGlobals mg) (hb : s1.heap.Ns builtinsNs mb) (hbb : ∀ y : Str, y ≠ "__name__" → mb y = bootBuiltins y) (hlim : s1.heap.NoLimit) (hg : s1.gens = #[])
    (hp : s1.heap.get? p = some { cls := .type "list", data := .seq vs.toArray }) (hi : IntsAre vs ns) (few : ns.length ≤ sizeLine)
    (F : ∀ base : Heap, K.In base → base.Ns mainGlobals mg → RunAt P w K mg base fa fd [x] sp) (binds : ∀ (s : Shared) (u : Value), BindsTo s fd ⟨[u], []⟩ [(x, u)])
    (hsp : ∀ H : Hp, Only H → SqL K H p (ns.map V.int) → sp [.ref p] H (fun v _ => v = .bl true) fun _ _ _ => False) :
    codeAny (model P w) callerA (.call (.ref fa) ⟨[.ref p], []⟩) (fun r s2 => r = .ok (.ret (.bool true)) ∧ OldK s1.heap s2.heap ∧ s2.os = s1.os ∧ AllBare s2.gens) s1 := by
  have rv := vals_ints hi
  have core : ∀ H : Hp, Only H → SqL K H p (ns.map V.int) → HOk P w H s1.heap → (∀ b, H b ≠ none → b = p) → (H p ≠ none → K.lookup p = none) →
      codeAny (model P w) callerA (.call (.ref fa) ⟨[.ref p], []⟩) (fun r s2 => r = .ok (.ret (.bool true)) ∧ OldK s1.heap s2.heap ∧ s2.os = s1.os ∧ AllBare s2.gens) s1 := by
    intro H only seq hok one hK
    have below : ∀ {b : Addr} {o : Obj}, s1.heap.get? b = some o → H b = none → (hidT s1.heap H).get? b = some o := fun e n => hidT_get e n
    have dicts : ∀ {b : Addr} {o : Obj} {es : Array DictEntry} {ep : Nat}, s1.heap.get? b = some o → o.data = .dict es ep → H b = none := by
      intro b o es ep e d
      cases q : H b with
      | none => rfl
      | some u =>
        obtain rfl : b = p := one b (by rw [q]; simp)
        rw [hp] at e
        cases e
        cases (show Data.seq vs.toArray _ = Data.dict es ep from d)
    have spaces : ∀ {b : Addr} {m : Str → Option Value}, s1.heap.Ns b m → (hidT s1.heap H).Ns b m := by
      rintro b m ⟨o, es, ep, e, d, r⟩
      exact ⟨o, es, ep, below e (dicts e d), d, r⟩
    have kin2 : K.In (hidT s1.heap H) := fun b o e => by
      refine below (kin b o e) ?_
      cases q : H b with
      | none => rfl
      | some u =>
        obtain rfl : b = p := one b (by rw [q]; simp)
        rw [hK (by rw [q]; simp)] at e
        cases e
    have mod : Mod K mg (hidT s1.heap H) := by
      obtain ⟨mc, c1, c2⟩ := hlim
      exact ⟨kin2, spaces hns, ⟨mb, spaces hb, hbb⟩, ⟨mc, spaces c1, c2⟩⟩
    have e0 : Env0 P w K mg (hidT s1.heap H) callerA [] s1 H :=
      ⟨rfl, mod, fun b o e => of_hidT e, Nat.le_of_eq (hidT_size _ _), trivial, fun b z => absurd (show b ∈ ([] : List Addr) from z) (by simp), hok, .of_eq hg⟩
    refine codeAny_mono (F _ kin2 (spaces hns) s1 H [.ref p] [.ref p] _ _ e0 (binds s1 (.ref p)) (.cons rfl .nil) (hsp H only seq)) fun r s2 h => ?_
    cases r with
    | error e => exact h.elim
    | ok fl =>
      cases fl with
      | next => exact h.elim
      | brk => exact h.elim
      | cont => exact h.elim
      | ret u =>
        obtain ⟨v, H2, os, bare, un, hok2, rel, q⟩ := h
        obtain rfl : v = .bl true := q
        obtain rfl : u = Value.bool true := rel
        refine ⟨rfl, OldK.of_keep fun b o e => ?_, os, bare⟩
        cases q : H b with
        | none => exact un.keep b o e q (fun z => absurd (show b ∈ ([] : List Addr) from z) (by simp)) (by simp)
        | some u =>
          rcases only b with z | ⟨ob, xs, z⟩
          · rw [q] at z
            cases z
          · obtain ⟨a1, _⟩ := hok b _ z
            obtain ⟨a2, _⟩ := hok2 b _ (un.frzs b ob _ z)
            rw [e] at a1
            cases a1
            exact a2
  cases hk : K.lookup p with
  | some o =>
    have e := kin p o hk
    rw [hp] at e
    cases e
    have lv := hi.length
    refine core (fun _ => none) (fun _ => .inl rfl) (.inr ⟨_, vs.toArray, _, hk, rfl, rfl, rfl, ?_, by simpa using rv⟩) (fun b u z => ?_) (fun b z => absurd rfl z) fun z => absurd rfl z
    · rw [List.size_toArray, lv]
      exact few
    · cases (show (none : Option HO) = some u from z)
  | none =>
    refine core (fun b => if b = p then some (.frz { cls := .type "list", data := .seq vs.toArray } (.lst (ns.map V.int))) else none) (fun b => ?_) (.inl (.inr ⟨{ cls := .type "list", data := .seq vs.toArray }, if_pos rfl⟩)) (fun b u z => ?_) (fun b z => ?_) fun _ => hk
    · by_cases hb : b = p
      · exact .inr ⟨_, _, if_pos hb⟩
      · exact .inl (if_neg hb)
    · by_cases hb : b = p
      · subst hb
        cases (if_pos rfl).symm.trans z
        refine ⟨hp, ?_, vs, _, rv, hp⟩
        rw [List.length_map]
        exact few
      · cases (if_neg hb).symm.trans z
    · by_cases hb : b = p
      · exact hb
      · exact absurd (if_neg hb) z
end
theorem walk_at {l : PySem.W.OpenLaw} {n : Nat} {q : Program} {loose : List Str} {XP : (Str → Option Value) → Heap → Prop} {YP : World → Heap → Prop} {d : DefRec} {K : Params → PySem.W.Frag} {sp : World → Sp} {x : Str}
    (hn : l.most = some n) (hn2 : n ≤ sizeLine) (hdf : d.params.defaults = []) (hY : ∀ (w : World) (h : Heap), YP w h → (K w.params).In h)
    (F : ∀ (w : World) (mg : Str → Option Value) (fa : Addr) (h : Heap), (K w.params).In h → h.Ns mainGlobals mg → mg d.name = some (.ref fa) →
      ∃ fd : FuncData, (∀ (s : Shared) (u : Value), BindsTo s fd ⟨[u], []⟩ [(x, u)]) ∧ ∀ base : Heap, (K w.params).In base → base.Ns mainGlobals mg → RunAt l.prog w (K w.params) mg base fa fd [x] (sp w))
    (hsp : ∀ (w : World) (H : Hp) (a : Addr) (ns : List Int), ns.length ≤ n → Only H → SqL (K w.params) H a (ns.map V.int) → sp w [.ref a] H (fun v _ => v = .bl true) fun _ _ _ => False) :
    PySem.W.WalkO q loose XP YP l.row.toRowW d [] (fun f vs => PySem.call f vs) := by
  refine Att.attach_call hn hdf fun w s0 s1 mg mb fa o pm cd doc a vs ns G Y ho hd hcd hmg hobj hints hlen hg => ?_
  obtain ⟨fd, hb, hF⟩ := F w mg fa _ (hY w _ Y) G.T.g hmg
  exact law_at (hY w _ Y) G.T.g G.T.b G.T.builtins G.T.nolimit hg hobj hints (Nat.le_trans hlen hn2) hF hb fun H only seq => hsp w H a ns hlen only seq

/-! ### repr of a list where nothing is being shown; None in an f-string -/
theorem call_reprD {X : Cx} (hg : X.A.guards = some []) (hu : X.A.units + 64 < cLine) : CallR X (.builtin "repr") (fun xs H Q => ∃ a d, xs = [.ref a] ∧ Dp X.K H (.ref a) d ∧ d.showable = true ∧ d.hasDict = false ∧ d.depth ≤ 60 ∧ d.shown.length ≤ sizeLine ∧ Q (.str d.shown) H) := by
  intro pins s σ H xs us Q I r h
  obtain ⟨a, d, rfl, hd, h1, h2, h3, h4, q⟩ := h
  obtain ⟨u, rfl, ru⟩ := vals1 r
  cases ru
  obtain ⟨as, rd⟩ := Dp.reads I d (.ref a) (.ref a) hd rfl
  exact repr_of_reads' (s := s) rd h1 (fun z => by rw [h2] at z; cases z) hg (by omega) (fun _ _ z => z) (fun h2 u tk k => ⟨.str d.shown, H, I.kept (t' := tk) k, ⟨_, rfl⟩, q⟩) h4
def fmtN (Q : VK) : VK := fun x H1 => (∃ y : Str, x = .str y ∧ y.length ≤ sizeLine ∧ Q (.str y) H1) ∨ (∃ i : Int, x = .int i ∧ i.natAbs.log2 < 1920 ∧ Q (.str (toString i)) H1) ∨ (x = .non ∧ Q (.str "None") H1)
def tFmtN (te : TE) : TE := fun σ H Q => te σ H (fmtN Q)
theorem pe_fmtN {X : Cx} {e : Expr} {te : TE} {pos : Pos} (he : PE X e te) : PE X (.FormattedValue e (-1) none pos) (tFmtN te) := by
  refine ⟨fun pins s σ H Q I h => ?_⟩
  refine wpAny_FormattedValue_plain (thn (he.run pins s σ H _ I h) fun v s1 z => ?_)
  obtain ⟨x, H1, I1, rx, q⟩ := z
  rcases q with ⟨y, rfl, hz, q⟩ | ⟨i, rfl, hz, q⟩ | ⟨rfl, q⟩
  · obtain ⟨t, rfl⟩ := rx
    exact wpAny_formatField_str ⟨.str y, H1, I1, ⟨t, rfl⟩, q⟩ ⟨.str y, H1, I1.tok _, ⟨_, rfl⟩, q⟩ hz
  · obtain ⟨t, rfl⟩ := rx
    exact wpAny_formatField_int hz ⟨.str (toString i), H1, I1.tok _, ⟨_, rfl⟩, q⟩
  · cases rx
    exact wpAny_formatField_none ⟨.str "None", H1, I1.tok _, ⟨_, rfl⟩, q⟩
/-! ### what a field may hold -/
/-- a whole number up to 10 ** 12, a short text, None -/
inductive Fld : V → Prop where
  | int (i : Int) (a : -999999999999 < i) (b : i < 999999999999) : Fld (.int i)
  | str (z : Str) (h : z.length ≤ 100) : Fld (.str z)
  | non : Fld .non
def fldText : V → Str
  | .int i => toString i
  | .str z => z
  | _ => "None"
theorem fld_log {i : Int} (a : -999999999999 < i) (b : i < 999999999999) : i.natAbs.log2 < 1920 := by
  have h : i.natAbs < 2 ^ 41 := by
    have e : (2 : Nat) ^ 41 = 2199023255552 := by decide
    omega
  exact Nat.lt_of_lt_of_le (PySem.Flt.log2_lt_of (by decide) h) (by decide)
theorem fld_short {i : Int} (a : -999999999999 < i) (b : i < 999999999999) : ((toString i : String) : Str).length ≤ 13 := by
  have h := intsShort_of_noneOrIn (lo := -999999999999) (hi := 999999999999) (by decide) (by decide) (.int i) (by
    show (decide (-999999999999 < i) && decide (i < 999999999999)) = true
    rw [decide_eq_true a, decide_eq_true b]
    rfl)
  exact of_decide_eq_true h
theorem fld_fmt {v : V} {H : Hp} {Q : VK} (h : Fld v) (k : ∀ y : Str, y.length ≤ 100 → Q (.str y) H) : fmtN Q v H := by
  cases h with
  | int i a b => exact .inr (.inl ⟨i, rfl, fld_log a b, k _ (Nat.le_trans (fld_short a b) (by decide))⟩)
  | str z h => exact .inl ⟨z, rfl, Nat.le_trans h (by decide), k _ h⟩
  | non => exact .inr (.inr ⟨rfl, k _ (by decide)⟩)

/-! ### the four builtin classes -/
abbrev bmV : List Value := [.type "ValueError", .type "Exception", .type "BaseException", .type "object"]
abbrev bmI : List Value := [.type "IndexError", .type "LookupError", .type "Exception", .type "BaseException", .type "object"]
abbrev bmK : List Value := [.type "KeyError", .type "LookupError", .type "Exception", .type "BaseException", .type "object"]
abbrev bmL : List Value := [.type "LookupError", .type "Exception", .type "BaseException", .type "object"]
theorem store_K : StoreFacts "KeyError" bmK "object.__setattr__" "object" where
  mro := by kernel_rfl
  slot := .of (n := "__setattr__")
    (owner := "object")
    (by
      rw [typeLookup_type]
      rw [builtinLookup_eq_fast]
      kernel_rfl)
    (by decide +kernel)
    (by decide +kernel)
    (by decide +kernel)
    (by
      first
        | exact .inl (by decide +kernel)
        | exact .inr (by decide +kernel))
    (by
      rw [isSubtype_type]
      kernel_rfl)
  entry := PySem.F.entry_object_sa
  kind := by decide +kernel
  split := by decide +kernel
  hasOwner := by decide +kernel
  args := PySem.F.store_ValueError.args
  passes := fun self => by kernel_rfl
structure BaseOf (B newId initId : String) (bm : List Value) : Prop where
  new : ∃ nB, NewBy bm nB newId
  ini : InitBy bm B initId
  sto : ∃ S, StoreFacts S bm "object.__setattr__" "object"
  tl : PySem.W.excTail bm bm = true
  ob : bm.contains (.type "object") = true
  flat : ∀ C : Addr, bm.contains (.ref C) = false
theorem base_V : BaseOf "ValueError" "ValueError.__new__" "ValueError.__init__" bmV :=
  ⟨⟨"ValueError", ⟨_, _, PySem.F.excBase_ValueError⟩, by decide +kernel, by decide +kernel, by decide +kernel⟩, ⟨⟨_, excClass_ValueError⟩, by decide +kernel⟩, ⟨_, PySem.F.store_ValueError⟩, by decide +kernel, by decide +kernel, fun _ => rfl⟩
theorem base_I : BaseOf "IndexError" "IndexError.__new__" "IndexError.__init__" bmI :=
  ⟨⟨"IndexError", ⟨_, _, PySem.F.excBase_IndexError⟩, by decide +kernel, by decide +kernel, by decide +kernel⟩, ⟨⟨_, excClass_IndexError⟩, by decide +kernel⟩, ⟨_, PySem.F.store_IndexError⟩, by decide +kernel, by decide +kernel, fun _ => rfl⟩
theorem base_L : BaseOf "LookupError" "LookupError.__new__" "LookupError.__init__" bmL :=
  ⟨⟨"LookupError", ⟨_, _, PySem.F.excBase_LookupError⟩, by decide +kernel, by decide +kernel, by decide +kernel⟩, ⟨⟨_, excClass_LookupError⟩, by decide +kernel⟩, ⟨_, PySem.F.store_LookupError⟩, by decide +kernel, by decide +kernel, fun _ => rfl⟩
/-- KeyError's own new is LookupError's -/
theorem base_K : BaseOf "KeyError" "LookupError.__new__" "KeyError.__init__" bmK :=
  ⟨⟨"LookupError", ⟨_, _, PySem.F.excBase_LookupError⟩, by decide +kernel, by decide +kernel, by decide +kernel⟩, ⟨⟨_, excClass_KeyError⟩, by decide +kernel⟩, ⟨_, store_K⟩, by decide +kernel, by decide +kernel, fun _ => rfl⟩
theorem meta_V : typeOf (.type "ValueError") = pure (.type "type") := by kernel_rfl
theorem meta_K : typeOf (.type "KeyError") = pure (.type "type") := by kernel_rfl
theorem meta_I : typeOf (.type "IndexError") = pure (.type "type") := by kernel_rfl
theorem meta_L : typeOf (.type "LookupError") = pure (.type "type") := by kernel_rfl
/-! ### an own class of the top -/
section
open PySem.W
structure ClsAt (K : Frag) (mg : Str → Option Value) (C : Addr) (x qual : Str) (B newId initId : String) (bm : List Value) (st : Stmt) (fs : List Str) : Prop where
  mg : mg x = some (.ref C)
  own : OwnC K C B newId initId bm
  xf : XfC K C
  ex : ExcC K C
  no : ∀ f ∈ fs, findIn K (.ref C) f = some none
  ini : ∃ F fd, findIn K (.ref C) "__init__" = some (some (.ref F)) ∧ typeIn K (.ref F) = some (.type "function") ∧ Fun K "__init__" qual st F fd
theorem cls_mk {K : Frag} {mg : Str → Option Value} {C F : Addr} {x qual : Str} {B newId initId : String} {bm : List Value} {st : Stmt} {fs : List Str} {nm q : Str} {N : Addr} {bs : List Value} {sn : List Str} {sub : List Value} {ab : Bool} {col : Option Bool} {dd : Option Addr} {k0 k1 k2 k3 k5 : Option Value} {fd : FuncData}
    (Y : BaseOf B newId initId bm) (m : mg x = some (.ref C)) (o : K.lookup C = some (excClassObj nm q C N bs bm true sn sub ab col dd k0 k1 k2 k3 k5 newId)) (i : findIn K (.ref C) "__init__" = some (some (.ref F))) (t : typeIn K (.ref F) = some (.type "function")) (f : Fun K "__init__" qual st F fd)
    (h1 : findIn K (.ref C) "__setattr__" = some (some (.builtin "object.__setattr__"))) (h2 : subIn K (.ref C) (.type "BaseException") = some true) (h3 : typeIn K (.ref C) = some (.type "type")) (h4 : keepIn K (.ref C) = true)
    (h5 : findIn K (.ref C) "__getattribute__" = some (some (.builtin "BaseException.__getattribute__"))) (h6 : findIn K (.ref C) "__getattr__" = some none) (h7 : hasDictIn K C = true) (h8 : findIn K (.ref C) "__class__" = some (some (.builtin "object.__class__")))
    (h9 : mroIn K C (.type "object") = some true) (e1 : specialIn K (.builtin "object.__class__") "__get__" = some (some (.builtin "getset_descriptor.__get__"))) (e2 : takesIn K (.builtin "object.__class__") = some true)
    (no : ∀ f ∈ fs, findIn K (.ref C) f = some none) : ClsAt K mg C x qual B newId initId bm st fs :=
  ⟨m, ⟨⟨nm, q, N, bs, sn, sub, ab, col, dd, k0, k1, k2, k3, k5, o⟩, Y.new, Y.ini, Y.sto, h1, Y.tl, Y.ob, h2, h3, h4⟩, ⟨h5, h6, h2, h7⟩, ⟨h5, h6, h2, h7, h8, e1, e2, h9⟩, no, F, fd, i, t, f⟩
theorem no0 {p : Str → Prop} : ∀ f ∈ ([] : List Str), p f := fun f h => by cases h
theorem no1 {p : Str → Prop} {a : Str} (h : p a) : ∀ f ∈ [a], p f := fun f hf => by
  rw [List.mem_singleton.mp hf]
  exact h
theorem no2 {p : Str → Prop} {a b : Str} (h : p a) (k : p b) : ∀ f ∈ [a, b], p f := fun f hf => by
  rcases List.mem_cons.mp hf with e | e
  · rw [e]
    exact h
  · rw [List.mem_singleton.mp e]
    exact k
/-- whether one stands under another -/
theorem kit_two {K : Frag} {mg mg' : Str → Option Value} {C C' : Addr} {x qual x' qual' : Str} {B newId initId B' newId' initId' : String} {bm bm' : List Value} {st st' : Stmt} {fs fs' : List Str} (T : ClsAt K mg C x qual B newId initId bm st fs) (T' : ClsAt K mg' C' x' qual' B' newId' initId' bm' st' fs')
    (flat : bm.contains (.ref C') = false) : kitOne K (.ref C) (.ref C') = some (decide (C = C')) := by
  refine kit_own T'.ex.hd T'.own.tyC ?_
  obtain ⟨cd, hc, hm, _⟩ := T.own.clsIn
  show mroIn K C (.ref C') = _
  unfold mroIn
  rw [hc, Option.bind_some, hm]
  show some ((Value.ref C :: bm).contains (.ref C')) = _
  rw [List.contains_cons, flat, Bool.or_false]
  congr 1
  by_cases h : C = C'
  · subst h
    rw [decide_eq_true rfl]
    exact beq_self_eq_true _
  · rw [decide_eq_false h]
    exact Bool.eq_false_iff.mpr fun z => h (Value.ref.inj (beq_iff_eq.mp z)).symm
theorem kit_base {K : Frag} {mg : Str → Option Value} {C : Addr} {x qual : Str} {B newId initId : String} {bm : List Value} {st : Stmt} {fs : List Str} {T : String} {b : Bool} (Y : ClsAt K mg C x qual B newId initId bm st fs) (km : kitMeta T = true) (h : bm.contains (.type T) = b) :
    kitOne K (.ref C) (.type T) = some b := by
  obtain ⟨cd, hc, hm, _⟩ := Y.own.clsIn
  show (if (Value.ref C == Value.type T) = true then some true else kitCls K (.ref C) (.type T)) = _
  have ne : (Value.ref C == Value.type T) = false := Bool.eq_false_iff.mpr fun z => by
    have e := beq_iff_eq.mp z
    cases e
  rw [ne, if_neg Bool.false_ne_true]
  show (if kitMeta T = true then subIn K (.ref C) (.type T) else none) = _
  rw [if_pos km]
  show mroIn K C (.type T) = _
  unfold mroIn
  rw [hc, Option.bind_some, hm]
  show some ((Value.ref C :: bm).contains (.type T)) = _
  rw [List.contains_cons, h]
  rfl
end
/-- its __init__ keeps sp -/
structure HasC (P : Program) (w : World) (K : PySem.W.Frag) (mg : Str → Option Value) (base : Heap) (C : Addr) (x : Str) (ps : List Str) (sp : Sp) : Prop where
  ex : ∃ (B newId initId : String) (bm : List Value) (F : Addr) (fd : FuncData), mg x = some (.ref C) ∧ OwnC K C B newId initId bm ∧ PySem.W.findIn K (.ref C) "__init__" = some (some (.ref F)) ∧ PySem.W.typeIn K (.ref F) = some (.type "function") ∧ FnOk P w K mg base CX0 1 F fd ps sp ∧ Binds K fd ps []
theorem pe_hasC {X : Cx} {C : Addr} {x : Str} {ps : List Str} {sp : Sp} {e : Expr} {es : List Expr} {t : TA} {p pos : Pos} (h : HasC X.prog X.w X.K X.mg X.base C x ps sp) (hr : Room 2 X.A) (hg : Gl X x) (ha : PA X (e :: es) t)
    (hdb : (x == ("__debug__" : Str)) = false := by decide) (he : starEach (e :: es) X.env = (false, eval e X.env) :: starEach es X.env := by rfl) (hpl : (backTo pos (starEach es X.env)).any (·.1) = false := by rfl) :
    PE X (.Call (.Name x p) (e :: es) [] pos) (tOwnV C sp t) := by
  obtain ⟨B, newId, initId, bm, F, fd, hm, T, iC, tI, f, b⟩ := h.ex
  exact pe_own T iC tI f hr b pass0 hg hm ha hdb he hpl
theorem pe_hasC0 {X : Cx} {C : Addr} {x : Str} {ps : List Str} {sp : Sp} {p pos : Pos} (h : HasC X.prog X.w X.K X.mg X.base C x ps sp) (hr : Room 2 X.A) (hg : Gl X x) (hdb : (x == ("__debug__" : Str)) = false := by decide) :
    PE X (.Call (.Name x p) [] [] pos) (tOwnV C sp tNil) := by
  obtain ⟨B, newId, initId, bm, F, fd, hm, T, iC, tI, f, b⟩ := h.ex
  exact pe_own0 T iC tI f hr b pass0 hg hm hdb
/-! ### what such an __init__ promises: no field, one, two -/
section
variable (C : Addr) (f g : Str)
def spI0 : Sp := fun vs H Q _ => ∃ a, vs = [.ref a] ∧ H a = some (exo a C none) ∧ Q .non H
def spI1 : Sp := fun vs H Q _ => ∃ a v, vs = [.ref a, v] ∧ Fld v ∧ H a = some (exo a C none) ∧ ∀ dx, H dx = none → dx ≠ a → Q .non (upd (upd H dx (exd dx [(f, v)])) a (exo a C (some dx)))
def spI2 : Sp := fun vs H Q _ => ∃ a u v, vs = [.ref a, u, v] ∧ Fld u ∧ Fld v ∧ H a = some (exo a C none) ∧ ∀ dx, H dx = none → dx ≠ a → Q .non (upd (upd (upd H dx (exd dx [(f, u)])) a (exo a C (some dx))) dx (exd dx [(g, v), (f, u)]))
end
/-! ### texts of parts -/
theorem part2 {a y : Str} {n m : Nat} (h1 : a.length ≤ n) (h2 : y.length ≤ m) : (a ++ y).length ≤ n + m := by
  rw [PySem.Str.length_append]
  exact Nat.add_le_add h1 h2
theorem part {a y : Str} {n m : Nat} (h1 : a.length ≤ n) (h2 : y.length ≤ m) (h3 : n + m ≤ 10000) : (a ++ y).length ≤ sizeLine :=
  Nat.le_trans (part2 h1 h2) (Nat.le_trans h3 (by decide))
/-- an own class by its name -/
theorem pe_cls {X : Cx} {x : Str} {C : Addr} {pos : Pos} (m : X.mg x = some (.ref C)) (hg : Gl X x) (hd : (x == ("__debug__" : Str)) = false := by decide) : PE X (.Name x pos) (tC (.ref C)) := pe_glob (v := .ref C) hg m rfl hd
theorem getD_inj {l : List Addr} (nd : l.Nodup) (i j : Nat) (hi : i < l.length) (hj : j < l.length) (h : l.getD i 0 = l.getD j 0) : i = j := by
  rw [List.getD_eq_getElem?_getD, List.getD_eq_getElem?_getD, List.getElem?_eq_getElem hi, List.getElem?_eq_getElem hj, Option.getD_some, Option.getD_some] at h
  have z := List.pairwise_iff_getElem.mp nd
  rcases Nat.lt_trichotomy i j with c | c | c
  · exact absurd h (z i j hi hj c)
  · exact c
  · exact absurd h.symm (z j i hj hi c)

/-! ### a tuple of texts of the top -/
structure CTup (K : PySem.W.Frag) (mg : Str → Option Value) (x : Str) (ws : List Str) : Prop where
  ex : ∃ p, mg x = some (.ref p) ∧ ∃ (o : Obj) (its : Array Value) (n : Nat), K.lookup p = some o ∧ o.cls = .type "tuple" ∧ o.data = .seq its n ∧ its.size ≤ sizeLine ∧ Vals (ws.map V.str) its.toList
theorem pe_ctup {X : Cx} {x : Str} {ws : List Str} {pos : Pos} (h : CTup X.K X.mg x ws) (hg : Gl X x) (hd : (x == ("__debug__" : Str)) = false := by decide) :
    PE X (.Name x pos) (fun _ H Q => ∀ p, (∀ H', SqT X.K H' p (ws.map V.str)) → Q (.ref p) H) := by
  obtain ⟨p, hm, e⟩ := h.ex
  exact ⟨fun _ _ _ H _ I h => ld_glob I hg hm ⟨.ref p, H, I, rfl, h p fun H' => .inr e⟩ hd⟩
theorem ctup_mk {K : PySem.W.Frag} {mg : Str → Option Value} {x : Str} {ws : List Str} {p : Addr} {pd : Option Addr} {its : Array Value} {n : Nat} {sl : Array (Option Value)} (hm : mg x = some (.ref p)) (l : K.lookup p = some ⟨.type "tuple", pd, .seq its n, sl⟩)
    (few : its.size ≤ 1000) (v : Vals (ws.map V.str) its.toList) : CTup K mg x ws :=
  ⟨p, hm, _, its, n, l, rfl, rfl, Nat.le_trans few (by decide), v⟩

/-! ### methods that keep a promise -/
structure MethAt (K : PySem.W.Frag) (C : Addr) (m qual : Str) (st : Stmt) : Prop where
  ex : ∃ f fd, Meth K C m f ∧ Fun K m qual st f fd
structure InitAt (K : PySem.W.Frag) (C : Addr) (qual : Str) (st : Stmt) : Prop where
  ex : ∃ f fd, Mk K C f ∧ Fun K "__init__" qual st f fd
structure HasM (P : Program) (w : World) (K : PySem.W.Frag) (mg : Str → Option Value) (base : Heap) (C : Addr) (k : Nat) (m : Str) (ps : List Str) (sp : Sp) : Prop where
  ex : ∃ f fd, Meth K C m f ∧ Binds K fd ps [] ∧ FnOk P w K mg base CX0 k f fd ps sp
structure HasI (P : Program) (w : World) (K : PySem.W.Frag) (mg : Str → Option Value) (base : Heap) (C : Addr) (k : Nat) (x : Str) (ps : List Str) (sp : Sp) : Prop where
  ex : ∃ f fd, mg x = some (.ref C) ∧ Mk K C f ∧ Binds K fd ps [] ∧ FnOk P w K mg base CX0 k f fd ps sp
section
variable {X : Cx} {k : Nat} {C : Addr} {x m : Str} {ps : List Str} {sp : Sp} {o e : Expr} {es : List Expr} {ta : TE} {t : TA} {p pos apos : Pos}
theorem pe_hasM {pl : Sem Bool} (c : Cls X.K C) (h : HasM X.prog X.w X.K X.mg X.base C k m ps sp) (hr : Room k X.A) (he : PE X o ta) (ha : PA X (e :: es) t)
    (hst : starEach (e :: es) X.env = (false, eval e X.env) :: starEach es X.env := by rfl) (hpl : (backTo pos (starEach es X.env)).any (·.1) = false := by rfl)
    (ht : eval (.Call (.Attribute o m apos) (e :: es) [] pos) X.env = (do
      let ov ← eval o X.env
      standAt apos.atName
      let (f, first) ← holding [ov] (getMethod ov m pl)
      callWith pos f first (backTo pos (starEach (e :: es) X.env)) (backToKw pos (keywordEach [] X.env))) := by rfl) :
    PE X (.Call (.Attribute o m apos) (e :: es) [] pos) (tMeth C m sp [] E0 ta t) := by
  obtain ⟨f, fd, hm, hb, F⟩ := h.ex
  exact pe_meth he c hm F hr hb .nil pass0 ha hst hpl ht
theorem pe_hasM0 {pl : Sem Bool} (c : Cls X.K C) (h : HasM X.prog X.w X.K X.mg X.base C k m ps sp) (hr : Room k X.A) (he : PE X o ta)
    (ht : eval (.Call (.Attribute o m apos) [] [] pos) X.env = (do
      let ov ← eval o X.env
      standAt apos.atName
      let (f, first) ← holding [ov] (getMethod ov m pl)
      callWith pos f first (backTo pos (starEach [] X.env)) (backToKw pos (keywordEach [] X.env))) := by rfl) :
    PE X (.Call (.Attribute o m apos) [] [] pos) (tMeth C m sp [] E0 ta tNil) := by
  obtain ⟨f, fd, hm, hb, F⟩ := h.ex
  exact pe_meth0 he c hm F hr hb .nil pass0 ht
theorem pe_hasI (h : HasI X.prog X.w X.K X.mg X.base C k x ps sp) (hr : Room (k + 1) X.A) (hg : Gl X x) (ha : PA X (e :: es) t)
    (hdb : (x == ("__debug__" : Str)) = false := by decide) (he : starEach (e :: es) X.env = (false, eval e X.env) :: starEach es X.env := by rfl) (hpl : (backTo pos (starEach es X.env)).any (·.1) = false := by rfl) :
    PE X (.Call (.Name x p) (e :: es) [] pos) (tMake C sp [] E0 t) := by
  obtain ⟨f, fd, hm, M, hb, F⟩ := h.ex
  exact pe_make M F hr hg hm hb .nil pass0 ha hdb he hpl
theorem pe_fldK {K : PySem.W.Frag} {f : Str} (h : X.K = K) (he : PE X e ta) (hb : attributeBase e f X.env (eval e X.env) = eval e X.env) : PE X (.Attribute e f pos) (tFld K ta f) := h ▸ pe_fld he hb
/-- what is never reached -/
theorem ps_never {st : Stmt} : PS X st (fun _ _ _ => False) := ⟨fun _ _ _ _ _ _ h => h.elim⟩
/-- xs[i], for xs[i] += .. -/
theorem get_list : PGet X (rIxL X.K) := by
  intro pins s σ H x y v u Q I rx ry h
  obtain ⟨p, xs, i, z, rfl, rfl, hq, he, q⟩ := h
  cases rx
  obtain ⟨t, rfl⟩ := ry
  obtain ⟨its, r, pl, hz⟩ := I.list hq
  obtain ⟨j, h1, h2, h3, h4, h5⟩ := atI_get he
  obtain ⟨w, ew, rw'⟩ := r.get h2
  have hl := r.length
  have hn := line63
  have fin : EP X pins σ Q w s := ⟨z, H, I, rw', q⟩
  by_cases h0 : 0 ≤ i
  · have hj : i.toNat = j := by
      rw [seqIndex_of h0 h5] at h1
      exact Option.some.inj h1
    exact wpAny_getItem_list pl.isList h0 (by omega) (by rw [hj]; simpa using ew) fin
  · have hj : (i + (its.toArray.size : Int)).toNat = j := by
      rw [seqIndex_neg (by omega) h4] at h1
      rw [List.size_toArray, ← hl]
      exact Option.some.inj h1
    exact wpAny_getItem_list_neg pl.isList (by omega) (by rw [List.size_toArray] <;> omega) (by omega) (by rw [hj]; simpa using ew) fin
end
section
variable {P : Program} {w : World} {K : PySem.W.Frag} {mg : Str → Option Value} {base : Heap} {C : Addr}
theorem has_ofM {m qual : Str} {st : Stmt} {N ps : List Str} {k : Nat} {sp : Sp} (A : MethAt K C m qual st) (S : FnScope N ps (defScope st))
    (B : ∀ (kV doc pm : Value) (an : Option Addr) (cdv ct : Value) (us : List Value), us.length = ps.length → bindArgs (PySem.W.fnOf m qual (defArgs st) (defBody st) (defScope st) .none kV doc pm an cdv ct) ⟨us, []⟩ = pure (ps.zip us))
    (len : ∀ vs H Q E, sp vs H Q E → vs.length = ps.length)
    (hbody : ∀ (f : Addr) (cdv : Value) (A : Around) (outer : List Env) (s : Shared) (H : Hp) (vs : List V) (Q : VK) (E : XK), Room k (A.deeper (envOfC qual (defScope st) s.heap.objs.size f cdv)) → sp vs H Q E →
      ∃ t, PSs (cxOf CX0 P w K mg base N qual (defScope st) f cdv A outer s H E).nox (defBody st) t ∧ t { nx := fun _ H' => Q .non H', rt := Q } (start N vs) H) : HasM P w K mg base C (k + 1) m ps sp := by
  obtain ⟨f, fd, hm, F⟩ := A.ex
  exact ⟨f, fd, hm, F.binds B, F.ok S len fun cdv A outer s H vs Q E hr h => hbody f cdv A outer s H vs Q E hr h⟩
theorem has_ofI {x qual : Str} {st : Stmt} {N ps : List Str} {k : Nat} {sp : Sp} (hg : mg x = some (.ref C)) (A : InitAt K C qual st) (S : FnScope N ps (defScope st))
    (B : ∀ (kV doc pm : Value) (an : Option Addr) (cdv ct : Value) (us : List Value), us.length = ps.length → bindArgs (PySem.W.fnOf "__init__" qual (defArgs st) (defBody st) (defScope st) .none kV doc pm an cdv ct) ⟨us, []⟩ = pure (ps.zip us))
    (len : ∀ vs H Q E, sp vs H Q E → vs.length = ps.length)
    (hbody : ∀ (f : Addr) (cdv : Value) (A : Around) (outer : List Env) (s : Shared) (H : Hp) (vs : List V) (Q : VK) (E : XK), Room k (A.deeper (envOfC qual (defScope st) s.heap.objs.size f cdv)) → sp vs H Q E →
      ∃ t, PSs (cxOf CX0 P w K mg base N qual (defScope st) f cdv A outer s H E).nox (defBody st) t ∧ t { nx := fun _ H' => Q .non H', rt := Q } (start N vs) H) : HasI P w K mg base C (k + 1) x ps sp := by
  obtain ⟨f, fd, hm, F⟩ := A.ex
  exact ⟨f, fd, hg, hm, F.binds B, F.ok S len fun cdv A outer s H vs Q E hr h => hbody f cdv A outer s H vs Q E hr h⟩
end

/-! ### raising an exception of an own class, and catching it -/
section
variable {X : Cx}
/-- the end of C(..) without a field: the exception is let go -/
theorem mk_endN {pins : List (Addr × Obj)} {σ : L2.St} {H1 H2 : Hp} {Q : XK} {hp hp2 h2 : Heap} {g1 g2 : Array GenState} {d1 d2 : Drawn} {t1 t2 : Nat} {os1 os2 : OsState} {a C : Addr} (T : Raises X (.ref C)) (I1 : Inv X pins σ H1 ⟨hp, g1, d1, t1, os1⟩)
    (ha : hp.objs.size ≤ a) (k : ∀ b o, hp.get? b = some o → hp2.get? b = some o) (un : Un (frs X.stack) [] (upd H1 a (exo a C none)) H2 hp2 h2) (hok : HOk X.prog X.w H2 h2) (ho : os2 = os1) (hb : AllBare g2)
    (ea : H2 a = some (exo a C none)) (q : Q (.ref C) none (del H2 a)) : MkP X pins σ Q (.ref a) ⟨h2, g2, d2, t2, os2⟩ := by
  obtain ⟨t0, hoe⟩ := exo_at hok ea
  have hn : H1 a = none := I1.hok.fresh ha
  obtain ⟨G, g1', g2'⟩ := restrict h2 fun b => decide (b ≠ a)
  have gk : ∀ b, b ≠ a → G.get? b = h2.get? b := fun b hb => g1' b (decide_eq_true hb)
  have ge : G.get? a = none := g2' a (by simp)
  have nha : ∀ {b : Addr} {o : Obj}, hp.get? b = some o → b ≠ a := fun {b o} z => Nat.ne_of_lt (Nat.lt_of_lt_of_le (Heap.lt_size z) ha)
  have up : ∀ {b : Addr}, b ≠ a → H1 b = none → upd H1 a (exo a C none) b = none := fun {b} hb n => by
    rw [upd_ne hb]
    exact n
  have un2 : Un (frs X.stack) [] H1 (del H2 a) hp G := {
    keep := fun b o z n hf hx => by
      rw [gk b (nha z)]
      exact un.keep b o (k b o z) (up (nha z) n) hf hx
    slot := fun b o z n hf hx => by
      rw [gk b (nha z)]
      exact un.slot b o (k b o z) (up (nha z) n) hf hx
    free := fun b o z n hx => by
      rw [del_ne (nha z)]
      exact un.free b o (k b o z) (up (nha z) n) hx
    there := fun b o z hx => by
      rw [gk b (nha z)]
      exact un.there b o (k b o z) hx
    tups := fun b xs z => by
      rw [del_ne (ne_of_none z hn)]
      exact un.tups b xs (by rw [upd_ne (ne_of_none z hn)]; exact z)
    frzs := fun b o v z => by
      rw [del_ne (ne_of_none z hn)]
      exact un.frzs b o v (by rw [upd_ne (ne_of_none z hn)]; exact z)
    tbls := fun b ps z => by
      rw [del_ne (ne_of_none z hn)]
      exact un.tbls b ps (by rw [upd_ne (ne_of_none z hn)]; exact z) }
  have ok2 : HOk X.prog X.w (del H2 a) G := fun b o z => by
    have hba : b ≠ a := fun e => by
      rw [e, del_same] at z
      cases z
    rw [del_ne hba] at z
    have noa : ∀ {c : Addr}, H2 c = some (.own b) → c ≠ a := fun {c} hc => L2.at_ne ea hc exo_own
    exact (hok b o z).stay (fun c v hc y => by
        have hca : c ≠ a := by
          rcases hc with hc | hc
          · rw [hc]
            exact hba
          · exact noa hc
        rw [gk c hca]
        exact y)
      (fun c hc => by rw [del_ne (noa hc)]; exact hc) (fun c xs hc => by rw [del_ne (L2.at_ne ea hc exo_tup)]; exact hc)
  have J : Inv X pins σ (del H2 a) ⟨G, g2, d2, t2, os2⟩ := I1.call' (ch := []) ho un2 ok2 hb (fun b z => absurd z (by simp))
  exact ⟨a, _, _, ⟨G, g2, d2, t2, os2⟩, _, .ref C, none, rfl, J, fun b o z => by
    by_cases hba : b = a
    · rw [hba, ge] at z
      cases z
    · exact (gk b hba).symm.trans z, ge, hoe, ⟨rfl, rfl⟩, rfl, rfl, del_same, rfl, hb, T, q⟩
/-- C(e, ..), to be raised -/
def tMkC (C : Addr) (sp : Sp) (ta : TA) : L2.St → Hp → XK → Prop := fun σ H Q => ta σ H fun vs H1 => vs.length ≤ 1000 ∧ ∀ a, H1 a = none → sp (.ref a :: vs) (upd H1 a (exo a C none))
  (fun v H2 => v = .non ∧ ((H2 a = some (exo a C none) ∧ Q (.ref C) none (del H2 a)) ∨ ∃ (d : Addr) (fs : List (Str × V)), H2 a = some (exo a C (some d)) ∧ H2 d = some (exd d fs) ∧ H1 d = none ∧ Q (.ref C) (some d) (upd (del H2 a) d (.xd fs)))) (fun _ _ _ => False)
theorem mk_call {CX : CXT} {C fI : Addr} {k : Nat} {fd : FuncData} {ps : List Str} {sp : Sp} {B newId initId : String} {bm : List Value} (T : OwnC X.K C B newId initId bm) (iC : PySem.W.findIn X.K (.ref C) "__init__" = some (some (.ref fI))) (tI : PySem.W.typeIn X.K (.ref fI) = some (.type "function"))
    (F1 : FnOk X.prog X.w X.K X.mg X.base CX k fI fd ps sp) (hr : Room (k + 1) X.A) (hb : Binds X.K fd ps []) (hx : Passes CX X (fun _ _ _ => False)) {pins : List (Addr × Obj)} {σ : L2.St} {H : Hp} {s : Shared} {Q : XK} {us : List Value} {vs : List V}
    (I : Inv X pins σ H s) (r : Vals vs us) (few : vs.length ≤ 1000) (h : ∀ a, H a = none → sp (.ref a :: vs) (upd H a (exo a C none))
      (fun v H2 => v = .non ∧ ((H2 a = some (exo a C none) ∧ Q (.ref C) none (del H2 a)) ∨ ∃ (d : Addr) (fs : List (Str × V)), H2 a = some (exo a C (some d)) ∧ H2 d = some (exd d fs) ∧ H d = none ∧ Q (.ref C) (some d) (upd (del H2 a) d (.xd fs)))) (fun _ _ _ => False)) :
    wpAny (model X.prog X.w) X.A (call (.ref C) us) (MkP X pins σ Q) X.xe s := by
  obtain ⟨nm, q, N, bs, sn, sub, ab, col, dd, k0, k1, k2, k3, k5, o⟩ := T.cls
  obtain ⟨nB, Y⟩ := T.new
  obtain ⟨hp, g, dr, tk, os⟩ := s
  have lt : hp.objs.size ≤ hp.objs.size + 1 := Nat.le_succ _
  have no : H (hp.objs.size + 1) = none := I.hok.fresh lt
  have hq := h (hp.objs.size + 1) no
  have up : ∀ b u, hp.get? b = some u → ((hp.push (PySem.W.kdv_tup us)).push (bare C hp.objs.size)).get? b = some u := fun b u e => Heap.get?_push_of_some _ (Heap.get?_push_of_some _ e)
  have at2 : ((hp.push (PySem.W.kdv_tup us)).push (bare C hp.objs.size)).get? (hp.objs.size + 1) = some (bare C hp.objs.size) := by heap_get
  have I2 : Inv X pins σ (upd H (hp.objs.size + 1) (exo (hp.objs.size + 1) C none)) ⟨(hp.push (PySem.W.kdv_tup us)).push (bare C hp.objs.size), g, dr, tk, os⟩ :=
    I.laid (t' := tk) (a := hp.objs.size + 1) (o := exo (hp.objs.size + 1) C none) (h' := (hp.push (PySem.W.kdv_tup us)).push (bare C hp.objs.size)) up lt (exo_ok at2)
  have r2 : Vals (V.ref (hp.objs.size + 1) :: vs) (Value.ref (hp.objs.size + 1) :: us) := .cons rfl r
  have hl : (Value.ref (hp.objs.size + 1) :: us).length = ps.length := by
    rw [← r2.length]
    exact F1.len _ _ _ _ hq
  have fit : us.length ≤ sizeLine := by
    rw [← Paired.length r, sizeLine_eq]
    omega
  have hbd := hb ⟨(hp.push (PySem.W.kdv_tup us)).push (bare C hp.objs.size), g, dr, tk, os⟩ (Value.ref (hp.objs.size + 1) :: us) I2.kIn (by rw [List.append_nil]; exact hl)
  rw [List.append_nil] at hbd
  refine wpAny_call (call_made Y (I.kIn _ _ o) (PySem.W.looks_findIn I.kIn iC) (fun x => PySem.W.bind_fn I.kIn x tI) fit
    (codeAny_mono (F1.run _ X.stack _ _ ⟨Value.ref (hp.objs.size + 1) :: us, []⟩ (Value.ref (hp.objs.size + 1) :: us) _ _ (fun _ _ _ => False) (hr.make C us []) (I2.env0.make C us []) hbd r2 hq) fun r s2 z => ?_))
  cases r with
  | error er => exact hx pins σ _ _ er s2 I2 z
  | ok fl =>
    cases fl with
    | ret u =>
      obtain ⟨v, H2, os2, bare2, un2, hok2, rv, ev, q⟩ := z
      subst ev
      obtain ⟨h2, g2, d2, t2, os'⟩ := s2
      have R : Raises X (.ref C) := raises_own T.exC T.tyC
      rcases q with ⟨ea, q2⟩ | ⟨d, fs, ea, ed, hd1, q2⟩
      · exact ⟨rv, mk_endN R I lt up un2 hok2 os2 bare2 ea q2⟩
      · exact ⟨rv, mk_end R I lt up un2 hok2 os2 bare2 ea ed hd1 q2⟩
    | next => exact False.elim z
    | brk => exact False.elim z
    | cont => exact False.elim z
theorem pmk_hasC {C : Addr} {x : Str} {ps : List Str} {sp : Sp} {e : Expr} {es : List Expr} {t : TA} {p pos : Pos} (h : HasC X.prog X.w X.K X.mg X.base C x ps sp) (hr : Room 2 X.A) (hg : Gl X x) (ha : PA X (e :: es) t)
    (hdb : (x == ("__debug__" : Str)) = false := by decide) (he : starEach (e :: es) X.env = (false, eval e X.env) :: starEach es X.env := by rfl) (hpl : (backTo pos (starEach es X.env)).any (·.1) = false := by rfl) :
    PMk X (.Call (.Name x p) (e :: es) [] pos) (tMkC C sp t) := by
  obtain ⟨B, newId, initId, bm, F, fd, hm, T, iC, tI, f, b⟩ := h.ex
  intro pins s σ H Q I h
  refine wpAny_Call_Name_kw (ld_glob I hg hm ?_ hdb)
  refine PySem.W.callWith_K (h₀ := X.base) I.ok.mod.kin T.kC (thn (ha.run pos pins s σ H _ I h) fun us s1 ⟨vs, H1, I1, r1, hz, q1⟩ => ⟨I1.kIn, ?_⟩) he hpl
  exact mk_call T iC tI f hr b pass0 I1 r1 hz q1
theorem pmk_hasC0 {C : Addr} {x : Str} {ps : List Str} {sp : Sp} {p pos : Pos} (h : HasC X.prog X.w X.K X.mg X.base C x ps sp) (hr : Room 2 X.A) (hg : Gl X x) (hdb : (x == ("__debug__" : Str)) = false := by decide) :
    PMk X (.Call (.Name x p) [] [] pos) (tMkC C sp tNil) := by
  obtain ⟨B, newId, initId, bm, F, fd, hm, T, iC, tI, f, b⟩ := h.ex
  intro pins s σ H Q I h
  refine wpAny_Call_Name_kw (ld_glob I hg hm ?_ hdb)
  exact PySem.W.callWith_K0 I.kIn T.kC (mk_call (us := []) T iC tI f hr b pass0 I .nil h.1 h.2)
theorem del_upd {H : Hp} {a : Addr} {o : HO} (h : H a = none) : del (upd H a o) a = H := funext fun b => by
  by_cases e : b = a
  · rw [e, del_same, h]
  · rw [del_ne e, upd_ne e]
/-- C() without a field -/
theorem pmk_own0 {C : Addr} {x : Str} {p pos : Pos} (h : HasC X.prog X.w X.K X.mg X.base C x ["self"] (spI0 C)) (hr : Room 2 X.A) (hg : Gl X x) (hdb : (x == ("__debug__" : Str)) = false := by decide) :
    PMk X (.Call (.Name x p) [] [] pos) (fun _ H Q => Q (.ref C) none H) := fun pins s σ H Q I q =>
  pmk_hasC0 h hr hg hdb pins s σ H Q I ⟨by show 0 ≤ 1000; decide, fun a na => ⟨a, rfl, upd_same, rfl, .inl ⟨upd_same, by rw [del_upd na]; exact q⟩⟩⟩
/-! ### defs that may raise -/
structure HasX (P : Program) (w : World) (K : PySem.W.Frag) (mg : Str → Option Value) (base : Heap) (k : Nat) (x : Str) (ps : List Str) (sp : Sp) : Prop where
  ex : ∃ f fd, mg x = some (.ref f) ∧ PySem.W.keepIn K (.ref f) = true ∧ Binds K fd ps [] ∧ FnOk P w K mg base (L2.CX P w) k f fd ps sp
theorem has_ofX {P : Program} {w : World} {K : PySem.W.Frag} {mg : Str → Option Value} {base : Heap} {x : Str} {st : Stmt} {N ps : List Str} {k : Nat} {sp : Sp} (A : At K mg x st) (S : FnScope N ps (defScope st)) (B : BindsAll x st ps) (len : ∀ vs H Q E, sp vs H Q E → vs.length = ps.length)
    (hbody : ∀ (f : Addr) (cdv : Value) (A : Around) (outer : List Env) (s : Shared) (H : Hp) (vs : List V) (Q : VK) (E : XK), Room k (A.deeper (envOfC x (defScope st) s.heap.objs.size f cdv)) → sp vs H Q E →
      ∃ t, PSs (cxOf (L2.CX P w) P w K mg base N x (defScope st) f cdv A outer s H E) (defBody st) t ∧ t { nx := fun _ H' => Q .non H', rt := Q } (start N vs) H) : HasX P w K mg base (k + 1) x ps sp := by
  obtain ⟨f, fd, hm, F⟩ := A.ex
  exact ⟨f, fd, hm, F.kp, F.binds B, F.okX S len fun cdv A outer s H vs Q E hr h => hbody f cdv A outer s H vs Q E hr h⟩
theorem pe_hasX {W : WX} {k : Nat} {x : Str} {ps : List Str} {sp : Sp} {e : Expr} {es : List Expr} {t : TA} {p pos : Pos} (tk : Takes X W) (h : HasX X.prog X.w X.K X.mg X.base k x ps sp) (hr : Room k X.A) (hg : Gl X x) (ha : PA X (e :: es) t)
    (hdb : (x == ("__debug__" : Str)) = false := by decide) (he : starEach (e :: es) X.env = (false, eval e X.env) :: starEach es X.env := by rfl) (hpl : (backTo pos (starEach es X.env)).any (·.1) = false := by rfl) :
    PE X (.Call (.Name x p) (e :: es) [] pos) (tCallS sp (WE W) t) := by
  obtain ⟨f, fd, hm, hk, hb, F⟩ := h.ex
  exact pe_callS F hr hg hm hk hb (fun σ => L2.passAt tk σ) ha hdb he hpl
/-- here it lets nothing out -/
theorem pe_hasX0 {k : Nat} {x : Str} {ps : List Str} {sp : Sp} {e : Expr} {es : List Expr} {t : TA} {p pos : Pos} (h : HasX X.prog X.w X.K X.mg X.base k x ps sp) (hr : Room k X.A) (hg : Gl X x) (ha : PA X (e :: es) t)
    (hdb : (x == ("__debug__" : Str)) = false := by decide) (he : starEach (e :: es) X.env = (false, eval e X.env) :: starEach es X.env := by rfl) (hpl : (backTo pos (starEach es X.env)).any (·.1) = false := by rfl) :
    PE X (.Call (.Name x p) (e :: es) [] pos) (tCall sp [] E0 t) := by
  obtain ⟨f, fd, hm, hk, hb, F⟩ := h.ex
  exact pe_call F hr hg hm hk hb .nil L2.passL ha hdb he hpl
end
/-! ### isinstance of a caught one -/
/-- what its dict holds is known, where it has one -/
def XdAt (H : Hp) (d : Option Addr) : Prop := ∀ dx, d = some dx → ∃ fs, H dx = some (.xd fs)
theorem xd_none {H : Hp} : XdAt H none := fun dx z => by cases z
theorem caught_at {X : Cx} {pins pn : List (Addr × Obj)} {σ : L2.St} {H : Hp} {s : Shared} {a D : Addr} {d : Option Addr} {oe : Obj} (hz : Zc (.ref D) d oe) (hf : ∃ vs, oe.data = .fields vs) (I : Inv (X.suite a ((a, oe) :: pn)) pins σ H s) (hd : XdAt H d) :
    ∃ od, PySem.W.InstAt s.heap a oe D od := by
  obtain ⟨hget, _⟩ := I.pin (a, oe) (List.mem_append.mpr (.inl List.mem_cons_self))
  obtain ⟨vs, hv⟩ := hf
  have nc : PySem.W.notCls oe = true := by
    unfold PySem.W.notCls
    rw [hv] <;> rfl
  cases d with
  | none => exact ⟨none, hget, hz.1, nc, by rw [hz.2]; trivial⟩
  | some dx =>
    obtain ⟨fs, e⟩ := hd dx rfl
    have hx : ObjOk X.prog X.w H s.heap dx (.xd fs) := I.hok dx _ e
    obtain ⟨mA, hns, _⟩ := hx
    obtain ⟨od, ho, _⟩ := lookIn_ns hns
    exact ⟨some od, hget, hz.1, nc, by rw [hz.2]; exact ho⟩
def rIsX (K : PySem.W.Frag) (cls : Value) (d : Option Addr) (a : Addr) : List V → Hp → VK → Prop := fun xs H Q => ∃ (c : V) (cv : Value) (D : Addr) (b : Bool), xs = [.ref a, c] ∧ cls = .ref D ∧ ClsV c cv ∧ ExcC K D ∧ XdAt H d ∧ PySem.W.kitOne K (.ref D) cv = some b ∧ Q (.bl b) H
theorem call_isX {X : Cx} {a : Addr} {cls : Value} {d : Option Addr} {oe : Obj} {pn : List (Addr × Obj)} (hz : Zc cls d oe) (hf : ∃ vs, oe.data = .fields vs) : CallR (X.suite a ((a, oe) :: pn)) (.builtin "isinstance") (rIsX X.K cls d a) := by
  intro pins s σ H xs us Q I r h
  obtain ⟨c, cv, D, b, rfl, rfl, kc, T, hd, e, q⟩ := h
  obtain ⟨u1, u2, rfl, r1, r2⟩ := vals2 r
  have e2 := kc.eq r2
  subst e2
  cases r1
  obtain ⟨od, J⟩ := caught_at hz hf I hd
  exact PySem.W.kia_one (exo_kit T) I.kIn J e (fun z => nomatch z) fun tk => ⟨.bl b, H, I.tok tk, rfl, q⟩
def rIsXT (K : PySem.W.Frag) (cls : Value) (d : Option Addr) (a : Addr) : List V → Hp → VK → Prop := fun xs H Q => ∃ (tp : Addr) (cs : List V) (us : List Value) (D : Addr) (b : Bool), xs = [.ref a, .ref tp] ∧ cls = .ref D ∧ H tp = some (.tup cs) ∧ Paired ClsV cs us ∧ ExcC K D ∧ XdAt H d ∧ PySem.W.kitAny K (.ref D) us = some b ∧ Q (.bl b) H
theorem call_isXT {X : Cx} {a : Addr} {cls : Value} {d : Option Addr} {oe : Obj} {pn : List (Addr × Obj)} (hz : Zc cls d oe) (hf : ∃ vs, oe.data = .fields vs) : CallR (X.suite a ((a, oe) :: pn)) (.builtin "isinstance") (rIsXT X.K cls d a) := by
  intro pins s σ H xs us Q I r h
  obtain ⟨tp, cs, ws, D, b, rfl, rfl, ht, kc, T, hd, e, q⟩ := h
  obtain ⟨u1, u2, rfl, r1, r2⟩ := vals2 r
  cases r1
  cases r2
  obtain ⟨od, J⟩ := caught_at hz hf I hd
  have hx : ObjOk X.prog X.w H s.heap tp (.tup cs) := I.hok tp _ ht
  obtain ⟨_, vs, rv, o, ho, h2, n, h3⟩ := hx
  obtain ⟨oc, od', oda, osl⟩ := o
  dsimp only at h2 h3
  subst h2 h3
  have e3 := ClsV.all kc rv
  subst e3
  exact PySem.W.kia_tup (exo_kit T) I.kIn J ho e (fun z => nomatch z) fun tk => ⟨.bl b, H, I.tok tk, rfl, q⟩
/-- the class that a clause names, own -/
theorem names_own {X : Cx} {x : Str} {C : Addr} (m : X.mg x = some (.ref C)) (hg : Gl X x) (hd : (x == ("__debug__" : Str)) = false := by decide) : Names X x (.ref C) := ⟨hg, hd, .inl m⟩
/-- one own class in a clause that names another -/
theorem exm_two {K : PySem.W.Frag} {mg mg' : Str → Option Value} {C C' : Addr} {x qual x' qual' : Str} {B newId initId B' newId' initId' : String} {bm bm' : List Value} {st st' : Stmt} {fs fs' : List Str} (T : ClsAt K mg C x qual B newId initId bm st fs) (T' : ClsAt K mg' C' x' qual' B' newId' initId' bm' st' fs')
    (flat : bm.contains (.ref C') = false) : PySem.W.exmOne K (.ref C) (.ref C') = some (decide (C = C')) := by
  refine PySem.W.exm_ref T'.ex.hs T'.ex.hd T'.own.tyC ?_
  obtain ⟨cd, hc, hm, _⟩ := T.own.clsIn
  show PySem.W.mroIn K C (.ref C') = _
  unfold PySem.W.mroIn
  rw [hc, Option.bind_some, hm]
  show some ((Value.ref C :: bm).contains (.ref C')) = _
  rw [List.contains_cons, flat, Bool.or_false]
  congr 1
  by_cases h : C = C'
  · subst h
    rw [decide_eq_true rfl]
    exact beq_self_eq_true _
  · rw [decide_eq_false h]
    exact Bool.eq_false_iff.mpr fun z => h (Value.ref.inj (beq_iff_eq.mp z)).symm
theorem kit_nil {K : PySem.W.Frag} {t : Value} : PySem.W.kitAny K t [] = some false := rfl
theorem kit_no {K : PySem.W.Frag} {t c : Value} {r : List Value} (h : PySem.W.kitOne K t c = some false) (k : PySem.W.kitAny K t r = some false) : PySem.W.kitAny K t (c :: r) = some false := by
  unfold PySem.W.kitAny
  rw [h]
  exact k
theorem kit_other {K : PySem.W.Frag} {mg mg' : Str → Option Value} {C C' : Addr} {x qual x' qual' : Str} {B newId initId B' newId' initId' : String} {bm bm' : List Value} {st st' : Stmt} {fs fs' : List Str} (T : ClsAt K mg C x qual B newId initId bm st fs) (T' : ClsAt K mg' C' x' qual' B' newId' initId' bm' st' fs')
    (flat : bm.contains (.ref C') = false) (ne : C ≠ C') : PySem.W.kitOne K (.ref C) (.ref C') = some false := by
  rw [kit_two T T' flat, decide_eq_false ne]
theorem exm_self {K : PySem.W.Frag} {mg : Str → Option Value} {C : Addr} {x qual : Str} {B newId initId : String} {bm : List Value} {st : Stmt} {fs : List Str} (T : ClsAt K mg C x qual B newId initId bm st fs) (flat : bm.contains (.ref C) = false) : PySem.W.exmOne K (.ref C) (.ref C) = some true := by
  rw [exm_two T T flat, decide_eq_true rfl]

/-! ### several clauses with names -/
def asD (i : Nat) (D : Ends) : Ends := { nx := fun σ' H' => D.nx (σ'.set i none) H', rt := D.rt, bk := fun σ' H' => D.bk (σ'.set i none) H', ct := fun σ' H' => D.ct (σ'.set i none) H' }
/-- what clauses 'except x as n' wish of an exception of the body, one after the other -/
def wManyAs (K : PySem.W.Frag) (Wout : WX) (D : Ends) : List (Value × Nat × (Addr → Value → Option Addr → TS)) → WX
  | [] => Wout
  | (c, i, ts) :: r => fun cls d σ H => ∃ b, PySem.W.exmOne K cls c = some b ∧ (b = true → ∀ a, H a = none → ts a cls d (asD i D) (σ.set i (some (.ref a))) H) ∧ (b = false → wManyAs K Wout D r cls d σ H)
inductive HdsAs (X : Cx) : List ExceptHandler → List (Value × Nat × (Addr → Value → Option Addr → TS)) → Prop
  | nil : HdsAs X [] []
  | cons {x n : Str} {i : Nat} {c : Value} {ts : Addr → Value → Option Addr → TS} {b₀ : Stmt} {suite : List Stmt} {np pos' : Pos} {hds : List ExceptHandler} {l : List (Value × Nat × (Addr → Value → Option Addr → TS))} (hi : X.N[i]? = some n) (hln : X.env.kindOf n = some .local) (hc : Names X x c)
      (hsu : ∀ (a : Addr) (oe : Obj) (cls : Value) (d : Option Addr) (pn : List (Addr × Obj)), Zc cls d oe → (∃ vs, oe.data = .fields vs) → PSs (X.suite a ((a, oe) :: pn)) (b₀ :: suite) (ts a cls d)) (r : HdsAs X hds l) :
      HdsAs X (.ExceptHandler (some (.Name x np)) (some n) (b₀ :: suite) pos' :: hds) ((c, i, ts) :: l)
section
variable {X : Cx} {body : List Stmt} {h₀ : ExceptHandler} {hds : List ExceptHandler} {l : List (Value × Nat × (Addr → Value → Option Addr → TS))} {pos : Pos} {tb : WX → TS} {Wout : WX}
theorem ps_try_manyAs (hs : X.stack = X.env :: X.outer) (hf : X.env.frame = some X.env.locals) (hN : X.N.Nodup) (tk : Takes X Wout)
    (hb : ∀ (W : WX) (pn : List (Addr × Obj)) (xe : Value → Shared → Prop), Takes (X.tr pn xe) W → PassesOwn (model X.prog X.w) X.A X.env xe → PSs (X.tr pn xe) body (tb W))
    (hh : HdsAs X (h₀ :: hds) l) : PS X (.Try body (h₀ :: hds) [] [] pos) (fun D σ H => tb (wManyAs X.K Wout D l) D σ H) := by
  refine ⟨fun pins s σ H D I h => ?_⟩
  have ok := I.ok
  have hfr : X.A.frames = some (X.env :: X.outer) := by rw [ok.frames, hs]
  refine wpAny_Try_except ?_
  refine wpAny_mono ((hb (wManyAs X.K Wout D l) (X.pn ++ pins) (fun e s₁ => wpAny (model X.prog X.w) X.A (noteFrame e X.env) (fun _ s₂ => wpAny (model X.prog X.w) X.A (setFlight e none) (fun _ s₃ =>
    wpAny (model X.prog X.w) X.A (handleBy e X.env (h₀ :: hds)) (SP X pins D) X.xe s₃) X.xe s₂) X.xe s₁) (fun u s' xx => ?_) PassesOwn.looking).run [] s σ H D (I.toTry _) h) (fun f s1 hsp => ?_) (fun e s1 he => he)
  · obtain ⟨a, B, sI, pins', σ', H', cls, d, rfl, J', nb, up, sky, na, os, ag, w⟩ := xx
    have J : Inv X pins σ' H' sI := J'.ofTry ok
    have sky' : Sky B (X.env :: X.outer) a (Zc cls d) X.env.locals s'.heap := by rw [← hs]; exact sky
    show wpAny (model X.prog X.w) X.A (noteFrame (.ref a) X.env) _ _ _
    refine Sky.land Zc.steady hfr hf sky' fun h3 fl3 up3 => ?_
    have J3 : Inv X pins σ' H' { s' with heap := h3 } := J.landed nb fl3.1 (up.trans up3) os ag
    obtain ⟨oe3, vs3, he3, hz3, hd3⟩ := fl3.there
    have notFr : ∀ {h : Heap} {o : Obj} {vs : Array Value}, h.FunFrames B (X.env :: X.outer) → h.get? a = some o → o.data = .fields vs → a ∉ frs (X.env :: X.outer) := fun {h o vs} ff e dd hm => by
      obtain ⟨_, o', e', hnf⟩ := ff.mem hm
      rw [e] at e'; cases e'
      exact hnf _ dd
    have nfr := notFr fl3.2.2.1 he3 hd3
    have nL : a ≠ X.env.locals := fun z => nfr (List.mem_filterMap.mpr ⟨X.env, List.mem_cons_self, by rw [hf, z]⟩)
    have nF : a ∉ X.fs := fun hm => by
      obtain ⟨e, he, q⟩ := List.mem_filterMap.mp hm
      exact nfr (List.mem_filterMap.mpr ⟨e, List.mem_cons_of_mem _ he, q⟩)
    have S3 := J3.suite he3 hd3 na nL nF
    have go : ∀ {hds' : List ExceptHandler} {l' : List (Value × Nat × (Addr → Value → Option Addr → TS))}, HdsAs X hds' l' → wManyAs X.K Wout D l' cls d σ' H' →
        wpAny (model X.prog X.w) X.A (handleBy (.ref a) X.env hds') (SP X pins D) X.xe { s' with heap := h3 } := by
      intro hds' l' hk
      induction hk with
      | nil =>
        intro w
        refine wpAny_handleBy_nil ?_
        obtain ⟨k1, k2, k3, oe, vs, T, oT, ts', he, hz, hd, h1, hr⟩ := id fl3
        unfold PySem.passOn
        refine wpAny_bind (wpAny_field he hd h1 ?_)
        rw [if_neg (show ¬ ((Value.ref T == Value.none) = true) from by simp)]
        have fin : wpAny (model X.prog X.w) X.A (setFlight (.ref a) X.env.frame) (fun _ s4 => wpAny (model X.prog X.w) X.A (throw (.ref a) : Sem Flow) (SP X pins D) X.xe s4) X.xe { s' with heap := h3 } := by
          rw [hf]
          refine HandSPX.setFlight_upZ fl3 fun h4 hh4 up4 => wpAny_throw (tk _ _ ?_)
          exact ⟨a, B, sI, pins, σ', H', cls, d, rfl, J, nb, (up.trans up3).trans up4, .inr (.inr (by rw [hs]; exact hh4)), na, os, ag, w⟩
        first
          | exact wpAny_bind (wpAny_pure (wpAny_bind fin))
          | exact wpAny_bind fin
      | @cons x n i c ts b₀ suite np pos' hds2 l2 hi hln hc hsu r ih =>
        intro w
        obtain ⟨b, hb1, hyes, hno⟩ := w
        have hloc : Loc X.env.scope n := .inl hln
        refine wpAny_handleBy_cons (codeAny_handlers_test ?_) (by intro q; cases q)
        have LT : PySem.W.Looks (model X.prog X.w) h3 (typeOf (.ref a)) cls := fun A Q E s k q => wpAny_typeOf_ref (k _ _ he3) (by rw [hz3.1]; exact q)
        have LM := PySem.W.exm_one (M := model X.prog X.w) (J3.kIn) LT hb1
        have test : ∀ {Q : Value → Shared → Prop} {E : Value → Shared → Prop}, Q c { s' with heap := h3 } → wpAny (model X.prog X.w) (X.A.mark (some (.ref a))) (eval (.Name x np) X.env) Q E { s' with heap := h3 } := fun {Q E} q => by
          obtain ⟨hg, hdbg, hm | ⟨hm, hv, hnn⟩⟩ := hc
          · exact ld_glob (X := X.suite a ((a, oe3) :: (X.pn ++ pins))) S3 hg hm q hdbg
          · exact ld_blt (X := X.suite a ((a, oe3) :: (X.pn ++ pins))) S3 hg hm hv q hnn hdbg
        refine test (LM.here ?_)
        cases b with
        | true =>
          refine codeAny_handlers_suite_as ?_
          refine HandSPX.lands_againZ fl3 fun h4 fl4 up4 => ?_
          have J4 : Inv X pins σ' H' { s' with heap := h4 } := J.landed nb fl4.1 ((up.trans up3).trans up4) os ag
          obtain ⟨oe4, vs4, he4, hz4, hd4⟩ := fl4.there
          have S4 := J4.suite he4 hd4 na nL nF
          refine store_ok (X := X.suite a ((a, oe4) :: (X.pn ++ pins))) (v := .ref a) S4 hN hi hloc rfl (fun s5 S5 => ?_) (.inr hln)
          refine wpAny_mono ((hsu a oe4 cls d (X.pn ++ pins) hz4 ⟨_, hd4⟩).run [] s5 _ H' _ S5 (hyes rfl a na)) (fun f s6 hsp => ?_) (fun _ _ z => False.elim z)
          have end_ : ∀ {σ6 : L2.St} {H6 : Hp} {Q : Shared → Prop}, Inv (X.suite a ((a, oe4) :: (X.pn ++ pins))) [] σ6 H6 s6 → (∀ s7, Inv X pins (σ6.set i none) H6 s7 → Q s7) →
              wpAny (model X.prog X.w) X.A (do bindName X.env n .none; unbindBehindTheSuite X.env n pos') (fun _ s7 => Q s7) X.xe s6 := fun {σ6 H6 Q} S6 hq => gone_ok (S6.unsuite ok) hN hi hln hq
          cases f with
          | next =>
            obtain ⟨σ6, H6, S6, q6⟩ := hsp
            exact end_ S6 fun s7 J7 => ⟨_, _, J7, q6⟩
          | brk =>
            obtain ⟨σ6, H6, S6, q6⟩ := hsp
            exact end_ S6 fun s7 J7 => ⟨_, _, J7, q6⟩
          | cont =>
            obtain ⟨σ6, H6, S6, q6⟩ := hsp
            exact end_ S6 fun s7 J7 => ⟨_, _, J7, q6⟩
          | ret u =>
            obtain ⟨v6, σ6, H6, S6, r6, q6⟩ := hsp
            exact end_ S6 fun s7 J7 => ⟨_, _, _, J7, r6, q6⟩
        | false =>
          show wpAny _ X.A (handleBy (.ref a) X.env hds2) _ _ _
          exact ih (hno rfl)
    exact go hh w
  · cases f with
    | next =>
      obtain ⟨σ', H', J', q⟩ := hsp
      exact wpAny_execs_nil ⟨σ', H', J'.ofTry ok, q⟩
    | brk =>
      obtain ⟨σ', H', J', q⟩ := hsp
      exact ⟨σ', H', J'.ofTry ok, q⟩
    | cont =>
      obtain ⟨σ', H', J', q⟩ := hsp
      exact ⟨σ', H', J'.ofTry ok, q⟩
    | ret u =>
      obtain ⟨v, σ', H', J', r, q⟩ := hsp
      exact ⟨v, σ', H', J'.ofTry ok, r, q⟩
end

/-! ### makes and methods that may raise; a keyword-only parameter -/
/-- C(..), what is raised is wished for at the caller's names -/
def tMakeS (C : Addr) (sp : Sp) (dvs : List V) (E : L2.St → XK) (t : TA) : TE := fun σ H Q => t σ H fun vs H1 => ∀ x dx, H1 x = none → H1 dx = none → dx ≠ x →
  sp (.ref x :: (vs ++ dvs)) (upd (upd H1 dx (.own x)) x (.ins C dx [])) (fun v H2 => v = .non ∧ Q (.ref x) H2) (E σ)
/-- C(.., k = v) -/
def tMakeKS (C : Addr) (n m : Nat) (sp : Sp) (gV : List V → List V → List V) (E : L2.St → XK) (t tk : TA) : TE := fun σ H Q => t σ H fun vs H1 => tk σ H1 fun zs H2 => vs.length = n ∧ zs.length = m ∧ ∀ x dx, H2 x = none → H2 dx = none → dx ≠ x →
  sp (gV (.ref x :: vs) zs) (upd (upd H2 dx (.own x)) x (.ins C dx [])) (fun v H3 => v = .non ∧ Q (.ref x) H3) (E σ)
/-- o.m(..) -/
def tMethX (C : Addr) (m : Str) (sp : Sp) (E : L2.St → XK) (ta : TE) (t : TA) : TE := fun σ H Q => ta σ H fun x H1 => ∃ a dx fs, x = .ref a ∧ H1 a = some (.ins C dx fs) ∧ fs.lookup m = none ∧ t σ H1 fun vs H2 => sp (x :: vs) H2 Q (E σ)
section
variable {X : Cx} {CX : CXT} {k n : Nat} {f C : Addr} {fd : FuncData} {ps ks : List Str} {sp : Sp} {E : L2.St → XK} {dvs : List V} {ds : List Value} {x m : Str} {p pos apos : Pos} {e o : Expr} {es : List Expr} {kws : List Keyword} {ta : TE} {t tk : TA} {g : List Value → List Value → List Value} {gV : List V → List V → List V}
theorem run_makeS {pins : List (Addr × Obj)} {σ : L2.St} {H : Hp} {s : Shared} {Q : VK} {us : List Value} {vs : List V} (M : Mk X.K C f) (F : FnOk X.prog X.w X.K X.mg X.base CX k f fd ps sp) (hr : Room (k + 1) X.A) (hb : Binds X.K fd ps ds) (hd : Vals dvs ds)
    (hx : PassesAt CX X σ (E σ)) (I : Inv X pins σ H s) (r : Vals vs us)
    (h : ∀ x dx, H x = none → H dx = none → dx ≠ x → sp (.ref x :: (vs ++ dvs)) (upd (upd H dx (.own x)) x (.ins C dx [])) (fun v H2 => v = .non ∧ Q (.ref x) H2) (E σ)) :
    wpAny (model X.prog X.w) X.A (call (.ref C) us) (EP X pins σ Q) X.xe s := by
  have hq := h (s.heap.objs.size + 1) s.heap.objs.size (I.hok.fresh (Nat.le_succ _)) (I.hok.fresh (Nat.le_refl _)) (Nat.ne_of_lt (Nat.lt_succ_self _))
  have I2 := Inv.made (C := C) I
  have r2 : Vals (V.ref (s.heap.objs.size + 1) :: (vs ++ dvs)) (Value.ref (s.heap.objs.size + 1) :: (us ++ ds)) := .cons rfl (r.append hd)
  have hl : (Value.ref (s.heap.objs.size + 1) :: us ++ ds).length = ps.length := by
    have e := r2.length
    rw [F.len _ _ _ _ hq] at e
    exact e.symm
  refine wpAny_call (make_map (f := f) I.kIn M.makes M.init (beq_iff_eq.mp M.fn) (codeAny_mono (F.run _ X.stack _ _ ⟨Value.ref (s.heap.objs.size + 1) :: us, []⟩ (Value.ref (s.heap.objs.size + 1) :: (us ++ ds)) _ _ (E σ) (hr.make C us [])
    (I2.env0.make C us []) (hb _ (Value.ref (s.heap.objs.size + 1) :: us) I2.kIn hl) r2 hq) fun r s' hq' => ?_))
  cases r with
  | error e => exact hx pins _ _ e s' I2 hq'
  | ok fl =>
    cases fl with
    | ret u =>
      obtain ⟨v, H', I3, rv, ev, q3⟩ := I2.after hq'
      subst ev
      exact ⟨rv, ⟨V.ref (s.heap.objs.size + 1), H', I3, rfl, q3⟩⟩
    | next => exact False.elim hq'
    | brk => exact False.elim hq'
    | cont => exact False.elim hq'
theorem pe_makeS (M : Mk X.K C f) (F : FnOk X.prog X.w X.K X.mg X.base CX k f fd ps sp) (hr : Room (k + 1) X.A) (hg : Gl X x) (hm : X.mg x = some (.ref C)) (hb : Binds X.K fd ps ds) (hd : Vals dvs ds) (hx : ∀ σ, PassesAt CX X σ (E σ))
    (ha : PA X (e :: es) t) (hdb : (x == ("__debug__" : Str)) = false := by decide) (he : starEach (e :: es) X.env = (false, eval e X.env) :: starEach es X.env := by rfl) (hpl : (backTo pos (starEach es X.env)).any (·.1) = false := by rfl) :
    PE X (.Call (.Name x p) (e :: es) [] pos) (tMakeS C sp dvs E t) := by
  refine ⟨fun pins s σ H Q I h => ?_⟩
  refine wpAny_Call_Name_kw (ld_glob I hg hm ?_ hdb)
  refine PySem.W.callWith_K (h₀ := X.base) I.ok.mod.kin M.kp (thn (ha.run pos pins s σ H _ I h) fun us s1 ⟨vs, H1, I1, r, q⟩ => ⟨I1.kIn, ?_⟩) he hpl
  exact run_makeS M F hr hb hd (hx σ) I1 r q
theorem run_makeKS {pins : List (Addr × Obj)} {σ : L2.St} {H : Hp} {s : Shared} {Q : VK} {us ws : List Value} {vs zs : List V} (M : Mk X.K C f) (F : FnOk X.prog X.w X.K X.mg X.base CX k f fd ps sp) (hr : Room (k + 1) X.A) (hb : KBn X.K fd ps (n + 1) ks g gV) (hx : PassesAt CX X σ (E σ))
    (I : Inv X pins σ H s) (r : Vals vs us) (rz : Vals zs ws) (l1 : vs.length = n) (l2 : zs.length = ks.length)
    (h : ∀ x dx, H x = none → H dx = none → dx ≠ x → sp (gV (.ref x :: vs) zs) (upd (upd H dx (.own x)) x (.ins C dx [])) (fun v H2 => v = .non ∧ Q (.ref x) H2) (E σ)) :
    wpAny (model X.prog X.w) X.A (call (.ref C) us (ks.zip ws)) (EP X pins σ Q) X.xe s := by
  have hq := h (s.heap.objs.size + 1) s.heap.objs.size (I.hok.fresh (Nat.le_succ _)) (I.hok.fresh (Nat.le_refl _)) (Nat.ne_of_lt (Nat.lt_succ_self _))
  have I2 := Inv.made (C := C) I
  have r1 : Vals (V.ref (s.heap.objs.size + 1) :: vs) (Value.ref (s.heap.objs.size + 1) :: us) := .cons rfl r
  have r2 := hb.rel r1 rz
  have n1 : (Value.ref (s.heap.objs.size + 1) :: us).length = n + 1 := by
    rw [List.length_cons, ← r.length, l1]
  refine wpAny_call (make_map (f := f) I.kIn M.makes M.init (beq_iff_eq.mp M.fn) (codeAny_mono (F.run _ X.stack _ _ ⟨Value.ref (s.heap.objs.size + 1) :: us, ks.zip ws⟩ (g (Value.ref (s.heap.objs.size + 1) :: us) ws) _ _ (E σ) (hr.make C us (ks.zip ws))
    (I2.env0.make C us (ks.zip ws)) (hb.to _ (Value.ref (s.heap.objs.size + 1) :: us) ws I2.kIn n1 (rz.length.symm.trans l2)) r2 hq) fun r s' hq' => ?_))
  cases r with
  | error e => exact hx pins _ _ e s' I2 hq'
  | ok fl =>
    cases fl with
    | ret u =>
      obtain ⟨v, H', I3, rv, ev, q3⟩ := I2.after hq'
      subst ev
      exact ⟨rv, ⟨V.ref (s.heap.objs.size + 1), H', I3, rfl, q3⟩⟩
    | next => exact False.elim hq'
    | brk => exact False.elim hq'
    | cont => exact False.elim hq'
theorem pe_makeKS (M : Mk X.K C f) (F : FnOk X.prog X.w X.K X.mg X.base CX k f fd ps sp) (hr : Room (k + 1) X.A) (hg : Gl X x) (hm : X.mg x = some (.ref C)) (hb : KBn X.K fd ps (n + 1) ks g gV) (hx : ∀ σ, PassesAt CX X σ (E σ)) (ha : PA X (e :: es) t) (hkw : PK X kws tk)
    (hall : (backToKw pos (keywordEach kws X.env)).all (·.1.isSome) = true := by rfl) (hks : (backToKw pos (keywordEach kws X.env)).filterMap (·.1) = ks := by rfl) (hdb : (x == ("__debug__" : Str)) = false := by decide)
    (he : starEach (e :: es) X.env = (false, eval e X.env) :: starEach es X.env := by rfl) (hpl : ((backTo pos (starEach (e :: es) X.env)).any (·.1) || (backToKw pos (keywordEach kws X.env)).any (·.1.isNone)) = false := by rfl) :
    PE X (.Call (.Name x p) (e :: es) kws pos) (tMakeKS C n ks.length sp gV E t tk) := by
  refine ⟨fun pins s σ H Q I h => ?_⟩
  refine wpAny_Call_Name_kw (ld_glob I hg hm ?_ hdb)
  refine PySem.W.callWith_KW (h₀ := X.base) I.ok.mod.kin M.kp hall (thn (ha.run pos pins s σ H _ I h) fun us s1 ⟨vs, H1, I1, r, q⟩ => ?_) hpl he
  refine thn (hkw.run pos pins s1 σ H1 _ I1 q) fun ws s2 ⟨zs, H2, I2, rz, l1, l2, q2⟩ => ⟨I2.kIn, ?_⟩
  rw [hks]
  exact run_makeKS M F hr hb (hx σ) I2 r rz l1 l2 q2
theorem pe_methX {pl : Sem Bool} (he : PE X o ta) (c : Cls X.K C) (hm : Meth X.K C m f) (F : FnOk X.prog X.w X.K X.mg X.base CX k f fd ps sp) (hr : Room k X.A) (hb : Binds X.K fd ps []) (hx : ∀ σ, PassesAt CX X σ (E σ)) (ha : PA X (e :: es) t)
    (hst : starEach (e :: es) X.env = (false, eval e X.env) :: starEach es X.env := by rfl) (hpl : (backTo pos (starEach es X.env)).any (·.1) = false := by rfl)
    (ht : eval (.Call (.Attribute o m apos) (e :: es) [] pos) X.env = (do
      let ov ← eval o X.env
      standAt apos.atName
      let (f, first) ← holding [ov] (getMethod ov m pl)
      callWith pos f first (backTo pos (starEach (e :: es) X.env)) (backToKw pos (keywordEach [] X.env))) := by rfl) :
    PE X (.Call (.Attribute o m apos) (e :: es) [] pos) (tMethX C m sp E ta t) := by
  refine ⟨fun pins s σ H Q I h => ?_⟩
  refine PySem.W.methodCall_KW (pl := pl) (thn (he.run pins s σ H _ I h) fun u s1 ⟨x, H1, I1, rx, a, dx, fs, ex, ea, l, q⟩ => ?_) ht
  subst ex
  obtain rfl : u = Value.ref a := rx
  refine getmeth_ok I1 ea c hm l ?_
  refine PySem.W.callWith_K (first := [.ref a]) (h₀ := X.base) I.ok.mod.kin hm.kp (thn (ha.run pos pins s1 σ H1 _ I1 q) fun us s2 ⟨vs, H2, I2, r, q2⟩ => ⟨I2.kIn, ?_⟩) hst hpl
  exact run_fnS (us := .ref a :: us) (vs := .ref a :: vs) F hr hb (hx σ) I2 (.cons rfl r) q2
theorem pe_methX0 {pl : Sem Bool} (he : PE X o ta) (c : Cls X.K C) (hm : Meth X.K C m f) (F : FnOk X.prog X.w X.K X.mg X.base CX k f fd ps sp) (hr : Room k X.A) (hb : Binds X.K fd ps []) (hx : ∀ σ, PassesAt CX X σ (E σ))
    (ht : eval (.Call (.Attribute o m apos) [] [] pos) X.env = (do
      let ov ← eval o X.env
      standAt apos.atName
      let (f, first) ← holding [ov] (getMethod ov m pl)
      callWith pos f first (backTo pos (starEach [] X.env)) (backToKw pos (keywordEach [] X.env))) := by rfl) :
    PE X (.Call (.Attribute o m apos) [] [] pos) (tMethX C m sp E ta tNil) := by
  refine ⟨fun pins s σ H Q I h => ?_⟩
  refine PySem.W.methodCall_KW (pl := pl) (thn (he.run pins s σ H _ I h) fun u s1 ⟨x, H1, I1, rx, a, dx, fs, ex, ea, l, q⟩ => ?_) ht
  subst ex
  obtain rfl : u = Value.ref a := rx
  refine getmeth_ok I1 ea c hm l ?_
  exact PySem.W.callWith_K0 (first := [.ref a]) I1.kIn hm.kp (run_fnS (us := [.ref a]) (vs := [.ref a]) F hr hb (hx σ) I1 (.cons rfl .nil) q)
end
/-- an __init__ with one keyword-only parameter whose default is None -/
structure InitAtK (K : PySem.W.Frag) (C : Addr) (qual kw : Str) (st : Stmt) : Prop where
  ex : ∃ f fd, Mk K C f ∧ FunD K "__init__" qual (defArgs st) (defBody st) (defScope st) [] [(kw, V.non)] f fd
/-- such a class keeps a promise, and may raise: ps without the keyword -/
structure HasIX (P : Program) (w : World) (K : PySem.W.Frag) (mg : Str → Option Value) (base : Heap) (C : Addr) (k : Nat) (x kw : Str) (ps : List Str) (sp : Sp) : Prop where
  ex : ∃ f fd, mg x = some (.ref C) ∧ Mk K C f ∧ (∃ ds, Vals [V.non] ds ∧ Binds K fd (ps ++ [kw]) ds) ∧ KBn K fd (ps ++ [kw]) ps.length [kw] (fun us ws => us ++ ws) (fun vs zs => vs ++ zs) ∧ FnOk P w K mg base (L2.CX P w) k f fd (ps ++ [kw]) sp
/-- a method that may raise -/
structure HasMX (P : Program) (w : World) (K : PySem.W.Frag) (mg : Str → Option Value) (base : Heap) (C : Addr) (k : Nat) (m : Str) (ps : List Str) (sp : Sp) : Prop where
  ex : ∃ f fd, Meth K C m f ∧ Binds K fd ps [] ∧ FnOk P w K mg base (L2.CX P w) k f fd ps sp
section
variable {X : Cx} {W : WX} {k : Nat} {C : Addr} {x m kw : Str} {p0 : Str} {ps : List Str} {sp : Sp} {o e : Expr} {es : List Expr} {ta : TE} {t tkw : TA} {p pos apos : Pos} {kws : List Keyword}
theorem pe_hasIX (tk : Takes X W) (h : HasIX X.prog X.w X.K X.mg X.base C k x kw ps sp) (hr : Room (k + 1) X.A) (hg : Gl X x) (ha : PA X (e :: es) t)
    (hdb : (x == ("__debug__" : Str)) = false := by decide) (he : starEach (e :: es) X.env = (false, eval e X.env) :: starEach es X.env := by rfl) (hpl : (backTo pos (starEach es X.env)).any (·.1) = false := by rfl) :
    PE X (.Call (.Name x p) (e :: es) [] pos) (tMakeS C sp [V.non] (WE W) t) := by
  obtain ⟨f, fd, hm, M, ⟨ds, hv, hb⟩, _, F⟩ := h.ex
  exact pe_makeS M F hr hg hm hb hv (fun σ => L2.passAt tk σ) ha hdb he hpl
theorem pe_hasIXk (tk : Takes X W) (h : HasIX X.prog X.w X.K X.mg X.base C k x kw (p0 :: ps) sp) (hr : Room (k + 1) X.A) (hg : Gl X x) (ha : PA X (e :: es) t) (hkw : PK X kws tkw)
    (hall : (backToKw pos (keywordEach kws X.env)).all (·.1.isSome) = true := by rfl) (hks : (backToKw pos (keywordEach kws X.env)).filterMap (·.1) = [kw] := by rfl) (hdb : (x == ("__debug__" : Str)) = false := by decide)
    (he : starEach (e :: es) X.env = (false, eval e X.env) :: starEach es X.env := by rfl) (hpl : ((backTo pos (starEach (e :: es) X.env)).any (·.1) || (backToKw pos (keywordEach kws X.env)).any (·.1.isNone)) = false := by rfl) :
    PE X (.Call (.Name x p) (e :: es) kws pos) (tMakeKS C ps.length 1 sp (fun vs zs => vs ++ zs) (WE W) t tkw) := by
  obtain ⟨f, fd, hm, M, _, hb, F⟩ := h.ex
  exact pe_makeKS (n := ps.length) M F hr hg hm hb (fun σ => L2.passAt tk σ) ha hkw hall hks hdb he hpl
/-- where it lets nothing out -/
theorem pe_hasIX0 (h : HasIX X.prog X.w X.K X.mg X.base C k x kw ps sp) (hr : Room (k + 1) X.A) (hg : Gl X x) (ha : PA X (e :: es) t)
    (hdb : (x == ("__debug__" : Str)) = false := by decide) (he : starEach (e :: es) X.env = (false, eval e X.env) :: starEach es X.env := by rfl) (hpl : (backTo pos (starEach es X.env)).any (·.1) = false := by rfl) :
    PE X (.Call (.Name x p) (e :: es) [] pos) (tMake C sp [V.non] E0 t) := by
  obtain ⟨f, fd, hm, M, ⟨ds, hv, hb⟩, _, F⟩ := h.ex
  exact pe_make M F hr hg hm hb hv L2.passL ha hdb he hpl
theorem pe_hasIXk0 (h : HasIX X.prog X.w X.K X.mg X.base C k x kw (p0 :: ps) sp) (hr : Room (k + 1) X.A) (hg : Gl X x) (ha : PA X (e :: es) t) (hkw : PK X kws tkw)
    (hall : (backToKw pos (keywordEach kws X.env)).all (·.1.isSome) = true := by rfl) (hks : (backToKw pos (keywordEach kws X.env)).filterMap (·.1) = [kw] := by rfl) (hdb : (x == ("__debug__" : Str)) = false := by decide)
    (he : starEach (e :: es) X.env = (false, eval e X.env) :: starEach es X.env := by rfl) (hpl : ((backTo pos (starEach (e :: es) X.env)).any (·.1) || (backToKw pos (keywordEach kws X.env)).any (·.1.isNone)) = false := by rfl) :
    PE X (.Call (.Name x p) (e :: es) kws pos) (tMakeK C ps.length 1 sp (fun vs zs => vs ++ zs) E0 t tkw) := by
  obtain ⟨f, fd, hm, M, _, hb, F⟩ := h.ex
  exact pe_makeK (n := ps.length) M F hr hg hm hb L2.passL ha hkw hall hks hdb he hpl
theorem pe_hasMX {pl : Sem Bool} (tk : Takes X W) (c : Cls X.K C) (h : HasMX X.prog X.w X.K X.mg X.base C k m ps sp) (hr : Room k X.A) (he : PE X o ta) (ha : PA X (e :: es) t)
    (hst : starEach (e :: es) X.env = (false, eval e X.env) :: starEach es X.env := by rfl) (hpl : (backTo pos (starEach es X.env)).any (·.1) = false := by rfl)
    (ht : eval (.Call (.Attribute o m apos) (e :: es) [] pos) X.env = (do
      let ov ← eval o X.env
      standAt apos.atName
      let (f, first) ← holding [ov] (getMethod ov m pl)
      callWith pos f first (backTo pos (starEach (e :: es) X.env)) (backToKw pos (keywordEach [] X.env))) := by rfl) :
    PE X (.Call (.Attribute o m apos) (e :: es) [] pos) (tMethX C m sp (WE W) ta t) := by
  obtain ⟨f, fd, hm, hb, F⟩ := h.ex
  exact pe_methX he c hm F hr hb (fun σ => L2.passAt tk σ) ha hst hpl ht
end
section
variable {P : Program} {w : World} {K : PySem.W.Frag} {mg : Str → Option Value} {base : Heap} {C : Addr}
theorem has_ofIX {x qual kw : Str} {st : Stmt} {N ps : List Str} {k : Nat} {sp : Sp} (hg : mg x = some (.ref C)) (A : InitAtK K C qual kw st) (S : FnScope N (ps ++ [kw]) (defScope st))
    (B0 : ∀ (D : Addr) (doc pm : Value) (an : Option Addr) (cdv ct : Value) (us ks : List Value), us.length = ps.length → ks.length = 1 →
      KwChain D ([kw].zip ks) (bindArgs (PySem.W.fnOf "__init__" qual (defArgs st) (defBody st) (defScope st) .none (.ref D) doc pm an cdv ct) ⟨us, []⟩) ((ps ++ [kw]).zip (us ++ ks)))
    (B1 : ∀ (D : Addr) (doc pm : Value) (an : Option Addr) (cdv ct : Value) (us ws : List Value), us.length = ps.length → ws.length = 1 →
      bindArgs (PySem.W.fnOf "__init__" qual (defArgs st) (defBody st) (defScope st) .none (.ref D) doc pm an cdv ct) ⟨us, [kw].zip ws⟩ = pure ((ps ++ [kw]).zip (us ++ ws)))
    (len : ∀ vs H Q E, sp vs H Q E → vs.length = (ps ++ [kw]).length)
    (hbody : ∀ (f : Addr) (cdv : Value) (A : Around) (outer : List Env) (s : Shared) (H : Hp) (vs : List V) (Q : VK) (E : XK), Room k (A.deeper (envOfC qual (defScope st) s.heap.objs.size f cdv)) → sp vs H Q E →
      ∃ t, PSs (cxOf (L2.CX P w) P w K mg base N qual (defScope st) f cdv A outer s H E) (defBody st) t ∧ t { nx := fun _ H' => Q .non H', rt := Q } (start N vs) H) : HasIX P w K mg base C (k + 1) x kw ps sp := by
  obtain ⟨f, fd, hm, F⟩ := A.ex
  obtain ⟨ds, hv, hb⟩ := F.binds0 (ps := ps ++ [kw]) ps.length (by intro z; cases z) (by rw [List.length_append] <;> rfl) B0
  obtain ⟨mv, hk⟩ := F.kbinds0 (ps := ps ++ [kw]) ps.length [kw] [] (fun us _ ws => us ++ ws) (by intro z; cases z) (fun q hq => by cases hq) (fun r1 _ r3 => r1.append r3)
    (fun D doc pm an cdv ct us mv ws l1 l2 l3 => by
      cases mv with
      | nil => exact B1 D doc pm an cdv ct us ws l1 l3
      | cons _ _ => cases l2)
  exact ⟨f, fd, hg, hm, ⟨ds, hv, hb⟩, hk, F.ok S len fun cdv A outer s H vs Q E hr h => hbody f cdv A outer s H vs Q E hr h⟩
theorem has_ofMX {m qual : Str} {st : Stmt} {N ps : List Str} {k : Nat} {sp : Sp} (A : MethAt K C m qual st) (S : FnScope N ps (defScope st))
    (B : ∀ (kV doc pm : Value) (an : Option Addr) (cdv ct : Value) (us : List Value), us.length = ps.length → bindArgs (PySem.W.fnOf m qual (defArgs st) (defBody st) (defScope st) .none kV doc pm an cdv ct) ⟨us, []⟩ = pure (ps.zip us))
    (len : ∀ vs H Q E, sp vs H Q E → vs.length = ps.length)
    (hbody : ∀ (f : Addr) (cdv : Value) (A : Around) (outer : List Env) (s : Shared) (H : Hp) (vs : List V) (Q : VK) (E : XK), Room k (A.deeper (envOfC qual (defScope st) s.heap.objs.size f cdv)) → sp vs H Q E →
      ∃ t, PSs (cxOf (L2.CX P w) P w K mg base N qual (defScope st) f cdv A outer s H E) (defBody st) t ∧ t { nx := fun _ H' => Q .non H', rt := Q } (start N vs) H) : HasMX P w K mg base C (k + 1) m ps sp := by
  obtain ⟨f, fd, hm, F⟩ := A.ex
  exact ⟨f, fd, hm, F.binds B, F.okX S len fun cdv A outer s H vs Q E hr h => hbody f cdv A outer s H vs Q E hr h⟩
end
theorem funD_mk {K : PySem.W.Frag} {x qual kw : Str} {st : Stmt} {f D : Addr} {oc : Value} {od an : Option Addr} {doc pm cdv ct : Value} {osl : Array (Option Value)}
    (l : K.lookup f = some ⟨oc, od, .func (PySem.W.fnOf x qual (defArgs st) (defBody st) (defScope st) .none (.ref D) doc pm an cdv ct), osl⟩) (c : PySem.W.codeIn K cdv qual = true) (k : PySem.W.keepIn K (.ref f) = true) (h : PySem.W.nsIn K D kw = some (some .none)) :
    FunD K x qual (defArgs st) (defBody st) (defScope st) [] [(kw, V.non)] f (PySem.W.fnOf x qual (defArgs st) (defBody st) (defScope st) .none (.ref D) doc pm an cdv ct) :=
  ⟨⟨oc, od, .none, .ref D, doc, pm, an, cdv, ct, osl, rfl, l, c, .inl ⟨rfl, rfl⟩, .inr ⟨D, rfl, fun q hq => by
    cases List.mem_singleton.mp hq
    exact ⟨_, h, rfl⟩⟩⟩, k⟩

structure Top (K : PySem.W.Frag) (mg : Str → Option Value) (cs : Nat → Addr) : Prop where
  d__wall : At K mg "_wall" s__wall
  d_is_whole : At K mg "is_whole" s_is_whole
  d_is_mark : At K mg "is_mark" s_is_mark
  d_others : At K mg "others" s_others
  d_are_marks : At K mg "are_marks" s_are_marks
  d_greatest_name : At K mg "greatest_name" s_greatest_name
  d_first_new : At K mg "first_new" s_first_new
  d_show_marks : At K mg "show_marks" s_show_marks
  d__sum_tuples : At K mg "_sum_tuples" s__sum_tuples
  d__carry_tuples : At K mg "_carry_tuples" s__carry_tuples
  d__last_clauses : At K mg "_last_clauses" s__last_clauses
  d__law_begun : At K mg "_law_begun" s__law_begun
  d__law_draw : At K mg "_law_draw" s__law_draw
  d__law_pick : At K mg "_law_pick" s__law_pick
  d__law_marks : At K mg "_law_marks" s__law_marks
  d__law_asked : At K mg "_law_asked" s__law_asked
  d__law_spoilt : At K mg "_law_spoilt" s__law_spoilt
  d_law : At K mg "law" s_law
  k_NoMarks : ClsAt K mg (cs 0) "NoMarks" "NoMarks.__init__" "ValueError" "ValueError.__new__" "ValueError.__init__" bmV s_NoMarks___init__ []
  k_NoPlan : ClsAt K mg (cs 1) "NoPlan" "NoPlan.__init__" "ValueError" "ValueError.__new__" "ValueError.__init__" bmV s_NoPlan___init__ []
  k_NoText : ClsAt K mg (cs 2) "NoText" "NoText.__init__" "ValueError" "ValueError.__new__" "ValueError.__init__" bmV s_NoText___init__ []
  k_NoFresh : ClsAt K mg (cs 3) "NoFresh" "NoFresh.__init__" "ValueError" "ValueError.__new__" "ValueError.__init__" bmV s_NoFresh___init__ ["lowest"]
  k_NoBound : ClsAt K mg (cs 4) "NoBound" "NoBound.__init__" "ValueError" "ValueError.__new__" "ValueError.__init__" bmV s_NoBound___init__ ["low", "high"]
  k_TooMany : ClsAt K mg (cs 5) "TooMany" "TooMany.__init__" "IndexError" "IndexError.__new__" "IndexError.__init__" bmI s_TooMany___init__ ["many"]
  one : ∀ i j, i < 8 → j < 8 → cs i = cs j → i = j
  g_Adding : mg "Adding" = some (.ref (cs 6))
  cl_Adding : Cls K (cs 6)
  i_Adding : InitAt K (cs 6) "Adding.__init__" s_Adding___init__
  m_Adding__name : MethAt K (cs 6) "_name" "Adding._name" s_Adding__name
  n_Adding__first : NoAttr K (cs 6) "_first"
  n_Adding_named : NoAttr K (cs 6) "named"
  n_Adding_said : NoAttr K (cs 6) "said"
  n_Adding_bits : NoAttr K (cs 6) "bits"
  g_Added : mg "Added" = some (.ref (cs 7))
  cl_Added : Cls K (cs 7)
  i_Added : InitAtK K (cs 7) "Added.__init__" "fresh" s_Added___init__
  n_Added__marks : NoAttr K (cs 7) "_marks"
  n_Added__most : NoAttr K (cs 7) "_most"
  n_Added__first : NoAttr K (cs 7) "_first"
  n_Added__names : NoAttr K (cs 7) "_names"
  n_Added__clauses : NoAttr K (cs 7) "_clauses"
  i_ValueError : PySem.W.findCls K (.type "ValueError") (.type "type") "__init__" = some (.val (.builtin "ValueError.__init__"))
  i_IndexError : PySem.W.findCls K (.type "IndexError") (.type "type") "__init__" = some (.val (.builtin "IndexError.__init__"))
  i_KeyError : PySem.W.findCls K (.type "KeyError") (.type "type") "__init__" = some (.val (.builtin "KeyError.__init__"))
  i_LookupError : PySem.W.findCls K (.type "LookupError") (.type "type") "__init__" = some (.val (.builtin "LookupError.__init__"))
  c_GREATEST_NAME : ∃ t, mg "GREATEST_NAME" = some (.int 1000000000000 t)
  c_MOST_HANDED : ∃ t, mg "MOST_HANDED" = some (.int 60 t)
  c_GREATEST_HANDED : ∃ t, mg "GREATEST_HANDED" = some (.int 1000000000 t)
  b_isinstance : mg "isinstance" = none
  b_bool : mg "bool" = none
  b_int : mg "int" = none
  b_abs : mg "abs" = none
  b_tuple : mg "tuple" = none
  b_len : mg "len" = none
  b_all : mg "all" = none
  b_max : mg "max" = none
  b_str : mg "str" = none
  b_enumerate : mg "enumerate" = none
  b_range : mg "range" = none
  b_list : mg "list" = none
  b_ValueError : mg "ValueError" = none
  b_IndexError : mg "IndexError" = none
theorem bd_Adding___init__ : ∀ (kV doc pm : Value) (an : Option Addr) (cdv ct : Value) (us : List Value), us.length = (["self", "marks", "first"] : List Str).length → bindArgs (PySem.W.fnOf "__init__" "Adding.__init__" (defArgs s_Adding___init__) (defBody s_Adding___init__) (defScope s_Adding___init__) .none kV doc pm an cdv ct) ⟨us, []⟩ = pure ((["self", "marks", "first"] : List Str).zip us) := fun _ _ _ _ _ _ us hl => match us, hl with | [_, _, _], _ => rfl
theorem bd_Adding__name : ∀ (kV doc pm : Value) (an : Option Addr) (cdv ct : Value) (us : List Value), us.length = (["self", "tuples"] : List Str).length → bindArgs (PySem.W.fnOf "_name" "Adding._name" (defArgs s_Adding__name) (defBody s_Adding__name) (defScope s_Adding__name) .none kV doc pm an cdv ct) ⟨us, []⟩ = pure ((["self", "tuples"] : List Str).zip us) := fun _ _ _ _ _ _ us hl => match us, hl with | [_, _], _ => rfl
theorem bk0_Added___init__ : ∀ (D : Addr) (doc pm : Value) (an : Option Addr) (cdv ct : Value) (us ks : List Value), us.length = (["self", "marks", "most"] : List Str).length → ks.length = 1 → KwChain D ((["fresh"] : List Str).zip ks) (bindArgs (PySem.W.fnOf "__init__" "Added.__init__" (defArgs s_Added___init__) (defBody s_Added___init__) (defScope s_Added___init__) .none (.ref D) doc pm an cdv ct) ⟨us, []⟩) (((["self", "marks", "most"] : List Str) ++ (["fresh"] : List Str)).zip (us ++ ks)) := fun _ _ _ _ _ _ us ks h1 h2 => match us, ks, h1, h2 with | [_, _, _], [_], _, _ => ⟨_, _, _, _, _, _, rfl, rfl, rfl⟩
theorem bk1_Added___init__ : ∀ (D : Addr) (doc pm : Value) (an : Option Addr) (cdv ct : Value) (us ks : List Value), us.length = (["self", "marks", "most"] : List Str).length → ks.length = 1 → (bindArgs (PySem.W.fnOf "__init__" "Added.__init__" (defArgs s_Added___init__) (defBody s_Added___init__) (defScope s_Added___init__) .none (.ref D) doc pm an cdv ct) ⟨us, (["fresh"] : List Str).zip ks⟩) = pure (((["self", "marks", "most"] : List Str) ++ (["fresh"] : List Str)).zip (us ++ ks)) := fun _ _ _ _ _ _ us ks h1 h2 => match us, ks, h1, h2 with | [_, _, _], [_], _, _ => rfl
section
variable {P : Program} {w : World} {K : PySem.W.Frag} {mg : Str → Option Value} {base : Heap} {cs : Nat → Addr}
theorem hc_NoMarks (T : Top K mg cs) : HasC P w K mg base (cs 0) "NoMarks" ["self"] (spI0 (cs 0)) := by
  obtain ⟨F, fd, iC, tI, f⟩ := T.k_NoMarks.ini
  refine ⟨_, _, _, _, F, fd, T.k_NoMarks.mg, T.k_NoMarks.own, iC, tI, ?_, f.binds fun _ _ _ _ _ _ us hl => match us, hl with | [_], _ => rfl⟩
  refine f.ok sc_NoMarks___init__ (fun vs H Q E h => ?_) (fun cdv A outer s H vs Q E hr h => ?_)
  · obtain ⟨a, rfl, _⟩ := h
    rfl
  · have nd := sc_NoMarks___init__.nd
    obtain ⟨a, rfl, ha, k⟩ := h
    refine ⟨_, (pss_one (ps_expr (pe_ownInit (newId := "ValueError.__new__") (initId := "ValueError.__init__") (bm := bmV) (by rfl) T.b_ValueError (by decide +kernel) meta_V (by decide +kernel) T.i_ValueError (by decide +kernel) (pa_cons (pv 0) (pa_cons pe_str pa_nil))))), ?_⟩
    exact ⟨_, rfl, ⟨a, cs 0, [_], rfl, by show 1 ≤ 1000; decide, T.k_NoMarks.own, ha, k⟩⟩
theorem hc_NoPlan (T : Top K mg cs) : HasC P w K mg base (cs 1) "NoPlan" ["self"] (spI0 (cs 1)) := by
  obtain ⟨F, fd, iC, tI, f⟩ := T.k_NoPlan.ini
  refine ⟨_, _, _, _, F, fd, T.k_NoPlan.mg, T.k_NoPlan.own, iC, tI, ?_, f.binds fun _ _ _ _ _ _ us hl => match us, hl with | [_], _ => rfl⟩
  refine f.ok sc_NoPlan___init__ (fun vs H Q E h => ?_) (fun cdv A outer s H vs Q E hr h => ?_)
  · obtain ⟨a, rfl, _⟩ := h
    rfl
  · have nd := sc_NoPlan___init__.nd
    obtain ⟨a, rfl, ha, k⟩ := h
    refine ⟨_, (pss_one (ps_expr (pe_ownInit (newId := "ValueError.__new__") (initId := "ValueError.__init__") (bm := bmV) (by rfl) T.b_ValueError (by decide +kernel) meta_V (by decide +kernel) T.i_ValueError (by decide +kernel) (pa_cons (pv 0) (pa_cons pe_str pa_nil))))), ?_⟩
    exact ⟨_, rfl, ⟨a, cs 1, [_], rfl, by show 1 ≤ 1000; decide, T.k_NoPlan.own, ha, k⟩⟩
theorem hc_NoText (T : Top K mg cs) : HasC P w K mg base (cs 2) "NoText" ["self"] (spI0 (cs 2)) := by
  obtain ⟨F, fd, iC, tI, f⟩ := T.k_NoText.ini
  refine ⟨_, _, _, _, F, fd, T.k_NoText.mg, T.k_NoText.own, iC, tI, ?_, f.binds fun _ _ _ _ _ _ us hl => match us, hl with | [_], _ => rfl⟩
  refine f.ok sc_NoText___init__ (fun vs H Q E h => ?_) (fun cdv A outer s H vs Q E hr h => ?_)
  · obtain ⟨a, rfl, _⟩ := h
    rfl
  · have nd := sc_NoText___init__.nd
    obtain ⟨a, rfl, ha, k⟩ := h
    refine ⟨_, (pss_one (ps_expr (pe_ownInit (newId := "ValueError.__new__") (initId := "ValueError.__init__") (bm := bmV) (by rfl) T.b_ValueError (by decide +kernel) meta_V (by decide +kernel) T.i_ValueError (by decide +kernel) (pa_cons (pv 0) (pa_cons pe_str pa_nil))))), ?_⟩
    exact ⟨_, rfl, ⟨a, cs 2, [_], rfl, by show 1 ≤ 1000; decide, T.k_NoText.own, ha, k⟩⟩
theorem hc_NoFresh (T : Top K mg cs) : HasC P w K mg base (cs 3) "NoFresh" ["self", "lowest"] (spI1 (cs 3) "lowest") := by
  obtain ⟨F, fd, iC, tI, f⟩ := T.k_NoFresh.ini
  refine ⟨_, _, _, _, F, fd, T.k_NoFresh.mg, T.k_NoFresh.own, iC, tI, ?_, f.binds fun _ _ _ _ _ _ us hl => match us, hl with | [_, _], _ => rfl⟩
  refine f.ok sc_NoFresh___init__ (fun vs H Q E h => ?_) (fun cdv A outer s H vs Q E hr h => ?_)
  · obtain ⟨a, v0, rfl, _⟩ := h
    rfl
  · have nd := sc_NoFresh___init__.nd
    obtain ⟨a, v0, rfl, f0, ha, k⟩ := h
    refine ⟨_, (pss_cons (ps_expr (pe_ownInit (newId := "ValueError.__new__") (initId := "ValueError.__init__") (bm := bmV) (by rfl) T.b_ValueError (by decide +kernel) meta_V (by decide +kernel) T.i_ValueError (by decide +kernel) (pa_cons (pv 0) (pa_cons (pe_joined (.cons pe_str (.cons (pe_fmtN (pv 1)) (.cons pe_str .nil)))) pa_nil))))
    (pss_one (ps_ownS (B := "ValueError") (newId := "ValueError.__new__") (initId := "ValueError.__init__") (bm := bmV) (pv 0) (pv 1)))), ?_⟩
    refine ⟨_, rfl, ?_⟩
    refine ⟨_, rfl, part (n := 0) (m := 100) (by decide) (by decide +kernel) (by decide), ?_⟩
    refine ⟨_, rfl, fld_fmt f0 fun yf0 hf0 => ?_⟩
    refine ⟨_, rfl, part (n := 100) (m := 100) (part2 (n := 0) (m := 100) (by decide) (by decide +kernel)) hf0 (by decide), ?_⟩
    refine ⟨_, rfl, part (n := 200) (m := 100) (part2 (n := 100) (m := 100) (part2 (n := 0) (m := 100) (by decide) (by decide +kernel)) hf0) (by decide +kernel) (by decide), ?_⟩
    refine ⟨a, cs 3, [_], rfl, by show 1 ≤ 1000; decide, T.k_NoFresh.own, ha, ?_⟩
    exact ⟨_, rfl, _, rfl, a, cs 3, rfl, T.k_NoFresh.own, T.k_NoFresh.no _ (by simp), .inl ⟨ha, fun dx n ne => k dx n ne⟩⟩
theorem hc_NoBound (T : Top K mg cs) : HasC P w K mg base (cs 4) "NoBound" ["self", "low", "high"] (spI2 (cs 4) "low" "high") := by
  obtain ⟨F, fd, iC, tI, f⟩ := T.k_NoBound.ini
  refine ⟨_, _, _, _, F, fd, T.k_NoBound.mg, T.k_NoBound.own, iC, tI, ?_, f.binds fun _ _ _ _ _ _ us hl => match us, hl with | [_, _, _], _ => rfl⟩
  refine f.ok sc_NoBound___init__ (fun vs H Q E h => ?_) (fun cdv A outer s H vs Q E hr h => ?_)
  · obtain ⟨a, v0, v1, rfl, _⟩ := h
    rfl
  · have nd := sc_NoBound___init__.nd
    obtain ⟨a, v0, v1, rfl, f0, f1, ha, k⟩ := h
    refine ⟨_, (pss_cons (ps_expr (pe_ownInit (newId := "ValueError.__new__") (initId := "ValueError.__init__") (bm := bmV) (by rfl) T.b_ValueError (by decide +kernel) meta_V (by decide +kernel) T.i_ValueError (by decide +kernel) (pa_cons (pv 0) (pa_cons (pe_joined (.cons pe_str (.cons (pe_fmtN (pv 1)) (.cons pe_str (.cons (pe_fmtN (pv 2)) .nil))))) pa_nil))))
    (pss_cons (ps_ownS (B := "ValueError") (newId := "ValueError.__new__") (initId := "ValueError.__init__") (bm := bmV) (pv 0) (pv 1))
    (pss_one (ps_ownS (B := "ValueError") (newId := "ValueError.__new__") (initId := "ValueError.__init__") (bm := bmV) (pv 0) (pv 2))))), ?_⟩
    refine ⟨_, rfl, ?_⟩
    refine ⟨_, rfl, part (n := 0) (m := 100) (by decide) (by decide +kernel) (by decide), ?_⟩
    refine ⟨_, rfl, fld_fmt f0 fun yf0 hf0 => ?_⟩
    refine ⟨_, rfl, part (n := 100) (m := 100) (part2 (n := 0) (m := 100) (by decide) (by decide +kernel)) hf0 (by decide), ?_⟩
    refine ⟨_, rfl, part (n := 200) (m := 100) (part2 (n := 100) (m := 100) (part2 (n := 0) (m := 100) (by decide) (by decide +kernel)) hf0) (by decide +kernel) (by decide), ?_⟩
    refine ⟨_, rfl, fld_fmt f1 fun yf1 hf1 => ?_⟩
    refine ⟨_, rfl, part (n := 300) (m := 100) (part2 (n := 200) (m := 100) (part2 (n := 100) (m := 100) (part2 (n := 0) (m := 100) (by decide) (by decide +kernel)) hf0) (by decide +kernel)) hf1 (by decide), ?_⟩
    refine ⟨a, cs 4, [_], rfl, by show 1 ≤ 1000; decide, T.k_NoBound.own, ha, ?_⟩
    refine ⟨_, rfl, _, rfl, a, cs 4, rfl, T.k_NoBound.own, T.k_NoBound.no _ (by simp), .inl ⟨ha, fun dx n ne => ?_⟩⟩
    exact ⟨_, rfl, _, rfl, a, cs 4, rfl, T.k_NoBound.own, T.k_NoBound.no _ (by simp), .inr ⟨dx, _, upd_same, by rw [upd_ne ne]; exact upd_same, by show 1 ≤ 900; decide, k dx n ne⟩⟩
theorem hc_TooMany (T : Top K mg cs) : HasC P w K mg base (cs 5) "TooMany" ["self", "many"] (spI1 (cs 5) "many") := by
  obtain ⟨F, fd, iC, tI, f⟩ := T.k_TooMany.ini
  refine ⟨_, _, _, _, F, fd, T.k_TooMany.mg, T.k_TooMany.own, iC, tI, ?_, f.binds fun _ _ _ _ _ _ us hl => match us, hl with | [_, _], _ => rfl⟩
  refine f.ok sc_TooMany___init__ (fun vs H Q E h => ?_) (fun cdv A outer s H vs Q E hr h => ?_)
  · obtain ⟨a, v0, rfl, _⟩ := h
    rfl
  · have nd := sc_TooMany___init__.nd
    obtain ⟨a, v0, rfl, f0, ha, k⟩ := h
    refine ⟨_, (pss_cons (ps_expr (pe_ownInit (newId := "IndexError.__new__") (initId := "IndexError.__init__") (bm := bmI) (by rfl) T.b_IndexError (by decide +kernel) meta_I (by decide +kernel) T.i_IndexError (by decide +kernel) (pa_cons (pv 0) (pa_cons (pe_joined (.cons pe_str (.cons (pe_fmtN (pv 1)) .nil))) pa_nil))))
    (pss_one (ps_ownS (B := "IndexError") (newId := "IndexError.__new__") (initId := "IndexError.__init__") (bm := bmI) (pv 0) (pv 1)))), ?_⟩
    refine ⟨_, rfl, ?_⟩
    refine ⟨_, rfl, part (n := 0) (m := 100) (by decide) (by decide +kernel) (by decide), ?_⟩
    refine ⟨_, rfl, fld_fmt f0 fun yf0 hf0 => ?_⟩
    refine ⟨_, rfl, part (n := 100) (m := 100) (part2 (n := 0) (m := 100) (by decide) (by decide +kernel)) hf0 (by decide), ?_⟩
    refine ⟨a, cs 5, [_], rfl, by show 1 ≤ 1000; decide, T.k_TooMany.own, ha, ?_⟩
    exact ⟨_, rfl, _, rfl, a, cs 5, rfl, T.k_TooMany.own, T.k_TooMany.no _ (by simp), .inl ⟨ha, fun dx n ne => k dx n ne⟩⟩
end
/-! ### the draws -/
def spDraw : Sp := fun vs H Q _ => ∃ (t c : Addr) (m : Int) (n : Nat), vs = [.ref t, .int m] ∧ Tape H t c n ∧ n < 2 ^ 40 ∧ 0 < m ∧ m < 2 ^ 8000 ∧
  ∀ (H' : Hp) (r : Int), 0 ≤ r → r < m → Tape H' t c (n + 1) → Kp t H H' → Q (.int r) H'
theorem cell_at {ns : List Int} {spot : Int} (h0 : 0 < ns.length) (hs : 0 ≤ spot) : ∃ x, atI (ns.map V.int) (spot % ((ns.map V.int).length : Int)) = some (.int x) := by
  rw [List.length_map]
  have hp : (0 : Int) < (ns.length : Int) := by omega
  have h1 := Int.emod_nonneg spot (show (ns.length : Int) ≠ 0 by omega)
  have h2 := Int.emod_lt_of_pos spot hp
  have h3 : (spot % (ns.length : Int)).toNat < ns.length := by omega
  refine ⟨ns[(spot % (ns.length : Int)).toNat], at_of (j := (spot % (ns.length : Int)).toNat) (by omega) ?_⟩
  rw [List.getElem?_map, List.getElem?_eq_getElem h3]
  rfl
theorem log2_small {m : Int} (h0 : 0 < m) (h : m < 2 ^ 8000) : m.natAbs.log2 < 9000 := by
  have h2 : m.natAbs < 2 ^ 8000 := by
    have e : ((2 ^ 8000 : Nat) : Int) = (2 : Int) ^ 8000 := by rw [Int.natCast_pow]; rfl
    omega
  exact Nat.lt_of_lt_of_le (PySem.Flt.log2_lt_of (by decide) h2) (by decide)
theorem pow_ok {x spot : Int} {n : Nat} (h0 : 0 ≤ spot) (h1 : spot ≤ n) (h2 : n < 2 ^ 40) : CPow (x % 2147483647 + 69621 * spot + 48271) 17 := by
  have a := Int.emod_nonneg x (show (2147483647 : Int) ≠ 0 by decide)
  have b := Int.emod_lt_of_pos x (show (0 : Int) < 2147483647 by decide)
  refine ⟨by decide, by decide, ?_⟩
  have e : (2 : Nat) ^ 64 = 18446744073709551616 := by decide
  rw [e]
  omega
section
variable {P : Program} {w : World} {K : PySem.W.Frag} {mg : Str → Option Value} {base : Heap}
theorem has_draw {cs : Nat → Addr} (T : Top K mg cs) : Has P w K mg base 1 "_law_draw" ["_law_tape", "_law_many"] spDraw := by
  refine has_of T.d__law_draw sc__law_draw bd__law_draw (fun vs H Q E h => ?_) (fun f cdv A outer s H vs Q E hr h => ?_)
  · obtain ⟨t, c, m, n, rfl, _⟩ := h
    rfl
  · have hu := hu_of hr
    have nd := sc__law_draw.nd
    obtain ⟨t, c, m, n, rfl, ⟨ns, spot, left, tp, hs⟩, hn, hm, hm2, k⟩ := h
    refine ⟨_, (C8.pss_cut (ps_if (pt_cmpR op_lt (pe_dget hu (pv 0) pe_str (fun _ _ => rfl)) (pv 1) (nomark _)) (pss_cons (ps_par (i := 2) (j := 3) (by rfl) nd rfl rfl (by decide) rfl rfl (pa_cons (pe_dget hu (pv 0) pe_str (fun _ _ => rfl)) (pa_cons (pe_callB call_len_seq (by rfl) T.b_len (by decide +kernel) (pa_cons (pe_dget hu (pv 0) pe_str (fun _ _ => rfl)) pa_nil)) pa_nil)) (by rfl))
    (pss_cons (ps_asg (pe_tup (pa_cons (pe_ix ix_list (pe_dget hu (pv 0) pe_str (fun _ _ => rfl)) (pe_op op_mod (pv 2) (pv 3)) (fun _ _ => rfl)) (pa_cons (pe_op op_add (pv 2) pe_int) pa_nil))) (pg_tup (by rfl) (pgs_cons (pg_name (i := 4) nd rfl (.inl rfl)) (pgs_cons (pg_sub (pv 0) pe_str (set_dict hu)) pgs_nil))))
    (pss_cons (ps_dput hu (pv 0) pe_str (pe_op op_mod (pe_op op_pow (pe_op op_add (pe_op op_add (pe_op op_mod (pv 4) pe_int) (pe_op op_mul pe_int (pv 2))) pe_int) pe_int) (pe_op op_add (pe_op op_pow pe_int pe_int) pe_int)) rfl)
    (pss_one (ps_if (PW.pt (pw_and (pt_cmpR op_ge (pv 4) (pe_op op_pow pe_int pe_int) (nomark _)) (pw_and1 (pt_cmpR op_lt (pv 2) (pv 3) (nomark _))))) (pss_one (ps_dput hu (pv 0) pe_str (pe_op op_sub (pv 4) (pe_op op_pow pe_int pe_int)) rfl)) pss_nil))))) pss_nil)
    (pss_cons (ps_asg (pe_tup (pa_cons (pe_op op_mod (pe_dget hu (pv 0) pe_str (fun _ _ => rfl)) (pv 1)) (pa_cons (pe_op op_fdivW (pe_dget hu (pv 0) pe_str (fun _ _ => rfl)) (pv 1)) pa_nil))) (pg_tup (by rfl) (pgs_cons (pg_name (i := 5) nd rfl (.inl rfl)) (pgs_cons (pg_sub (pv 0) pe_str (set_dict hu)) pgs_nil))))
    (pss_one (ps_ret (pv 5))))), ?_⟩
    refine ⟨fun σ' H' => ∃ (v2 v3 v4 v5 : Option V) (spot' left' : Int), σ' = [some (.ref t), some (.int m), v2, v3, v4, v5] ∧ TapeC H' t c ns spot' left' ∧ spot' ≤ ((n + 1 : Nat) : Int) ∧ Kp t H H', ?_, ?_⟩
    · refine ⟨_, rfl, t, _, rfl, dg_left tp.d, _, rfl, _, _, rfl, rfl, _, rfl, ite2 (fun _ => ?_) (fun _ => ?_)⟩
      · obtain ⟨x, hx⟩ := cell_at tp.ne tp.s0
        refine ⟨_, rfl, t, _, rfl, dg_spot tp.d, _, rfl, t, _, rfl, dg_cells tp.d, c, _, rfl, .inl (SqL.of tp.l), _, _, rfl, ?_⟩
        refine ⟨_, rfl, t, _, rfl, dg_cells tp.d, _, rfl, _, rfl, _, _, rfl, rfl, ?_, c, _, _, _, rfl, rfl, SqL.of tp.l, hx, _, rfl, _, _, rfl, rfl, by show 2 ≤ sizeLine; decide, fun p hp => ?_⟩
        · show (0 : Int) < ((ns.map V.int).length : Int)
          rw [List.length_map]
          have := tp.ne
          omega
        have h1 : (upd H p (.tup [.int x, .int (spot + 1)])) t = some (.dK (tk c spot left)) := by
          rw [upd_ne (ne_of_none tp.d hp)]
          exact tp.d
        refine ⟨p, _, rfl, SqT.of upd_same, rfl, _, _, rfl, _, _, rfl, _, rfl, t, _, rfl, dp_spot _ h1, rfl, ?_⟩
        have c1 : (upd (upd H p (.tup [.int x, .int (spot + 1)])) t (.dK (tk c (spot + 1) left))) c = some (.lst (ns.map V.int)) := by
          rw [upd_ne (show c ≠ t from ne_of tp.l tp.d (by intro z; cases z)), upd_ne (ne_of_none tp.l hp)]
          exact tp.l
        refine ⟨_, rfl, _, _, rfl, rfl, by show (0 : Int) < 2147483647; decide, _, rfl, _, _, rfl, rfl, .inl ⟨by decide, by decide⟩, _, _, rfl, rfl, _, _, rfl, rfl, _, _, rfl, rfl, pow_ok tp.s0 hs hn, _, _, rfl, rfl, ⟨by decide, by decide, by decide⟩, _, _, rfl, rfl, _, _, rfl, rfl, ?_, _, rfl, t, _, rfl, dp_left _ upd_same, ?_⟩
        · show (0 : Int) < 10 ^ (50 : Int).toNat + 151
          decide
        have kp : ∀ z, Kp t H (upd (upd (upd H p (.tup [.int x, .int (spot + 1)])) t (.dK (tk c (spot + 1) left))) t (.dK (tk c (spot + 1) z))) := fun z => ((Kp.new hp).trans Kp.at).trans Kp.at
        have tq : ∀ z, 0 ≤ z → TapeC (upd (upd (upd H p (.tup [.int x, .int (spot + 1)])) t (.dK (tk c (spot + 1) left))) t (.dK (tk c (spot + 1) z))) t c ns (spot + 1) z := fun z hz =>
          ⟨upd_same, by rw [upd_ne (show c ≠ t from ne_of tp.l tp.d (by intro z; cases z))]; exact c1, tp.ne, tp.lt, by have := tp.s0; omega, hz⟩
        have h0 : ∀ a : Int, 0 ≤ a % (10 ^ (50 : Int).toNat + 151) := fun a => Int.emod_nonneg _ (by decide)
        refine ⟨_, rfl, _, _, rfl, rfl, ⟨by decide, by decide, by decide⟩, _, _, rfl, rfl, _, rfl, ite2 (fun hc => ?_) (fun _ => iteF ?_)⟩
        · refine ⟨_, rfl, _, rfl, _, _, rfl, rfl, _, rfl, ite2 (fun _ => ?_) (fun _ => ?_)⟩
          · refine ⟨_, rfl, _, _, rfl, rfl, ⟨by decide, by decide, by decide⟩, _, _, rfl, rfl, _, rfl, t, _, rfl, dp_left _ upd_same, ?_⟩
            have hz : (10 : Int) ^ (18 : Int).toNat ≤ x := of_decide_eq_true hc
            exact ⟨_, _, _, _, spot + 1, x - 10 ^ (18 : Int).toNat, rfl, ⟨upd_same, by rw [upd_ne (show c ≠ t from ne_of tp.l tp.d (by intro z; cases z))]; exact (tq _ (h0 _)).l, tp.ne, tp.lt, by have := tp.s0; omega, by omega⟩, by omega, (kp _).trans Kp.at⟩
          · exact ⟨_, _, _, _, _, _, rfl, tq _ (h0 _), by omega, kp _⟩
        · exact ⟨_, _, _, _, _, _, rfl, tq _ (h0 _), by omega, kp _⟩
      · exact ⟨_, _, _, _, _, _, rfl, tp, by omega, Kp.refl _⟩
    · rintro σ' H' ⟨v2, v3, v4, v5, spot', left', rfl, tp', hs', kp⟩
      refine ⟨_, rfl, t, _, rfl, dg_left tp'.d, _, rfl, _, _, rfl, rfl, hm, _, rfl, t, _, rfl, dg_left tp'.d, _, rfl, _, _, rfl, rfl, ⟨hm, ?_⟩, by show 2 ≤ sizeLine; decide, fun p hp => ?_⟩
      · exact log2_small hm hm2
      have h1 : ∀ o, (upd H' p o) t = some (.dK (tk c spot' left')) := fun o => by
          rw [upd_ne (ne_of_none tp'.d hp)]
          exact tp'.d
      refine ⟨p, _, rfl, SqT.of upd_same, rfl, _, _, rfl, _, _, rfl, _, rfl, t, _, rfl, dp_left _ (h1 _), rfl, ?_⟩
      refine ⟨_, rfl, k _ _ (Int.emod_nonneg _ (by omega)) (Int.emod_lt_of_pos _ hm) ?_ ?_⟩
      · exact ⟨ns, spot', _, ⟨upd_same, by rw [upd_ne (show c ≠ t from ne_of tp'.l tp'.d (by intro z; cases z)), upd_ne (ne_of_none tp'.l hp)]; exact tp'.l, tp'.ne, tp'.lt, tp'.s0, Int.ediv_nonneg tp'.l0 (by omega)⟩, hs'⟩
      · exact (kp.trans (Kp.new hp)).trans Kp.at
/-- a pick from a list or a tuple -/
def spPick (K : PySem.W.Frag) : Sp := fun vs H Q _ => ∃ (t c a : Addr) (xs : List V) (n : Nat), vs = [.ref t, .ref a] ∧ Tape H t c n ∧ n < 2 ^ 40 ∧ (∀ H', Kp t H H' → SqL K H' a xs ∨ SqT K H' a xs) ∧ 0 < xs.length ∧ xs.length ≤ 1000000 ∧
  ∀ (H' : Hp) (i : Nat) (v : V), xs[i]? = some v → Tape H' t c (n + 1) → Kp t H H' → Q v H'
theorem has_pick {cs : Nat → Addr} (T : Top K mg cs) (h__law_draw : Has P w K mg base 1 "_law_draw" ["_law_tape", "_law_many"] spDraw) : Has P w K mg base 2 "_law_pick" ["_law_tape", "_law_some"] (spPick K) := by
  refine has_of T.d__law_pick sc__law_pick bd__law_pick (fun vs H Q E h => ?_) (fun f cdv A outer s H vs Q E hr h => ?_)
  · obtain ⟨t, c, a, xs, n, rfl, _⟩ := h
    rfl
  · have hu := hu_of hr
    have nd := sc__law_pick.nd
    obtain ⟨t, c, a, xs, n, rfl, tp, hn, hs, h0, h1, k⟩ := h
    refine ⟨_, (pss_one (ps_ret (pe_ix ix_seq (pv 1) (pe_has h__law_draw (hr.mono (by omega)) (by rfl) (pa_cons (pv 0) (pa_cons (pe_callB call_len_seq (by rfl) T.b_len (by decide +kernel) (pa_cons (pv 1) pa_nil)) pa_nil))) (fun _ _ => rfl)))), ?_⟩
    refine ⟨_, rfl, _, rfl, _, rfl, a, xs, rfl, hs H (Kp.refl _), t, c, _, n, rfl, tp, hn, by omega, ?_, fun H' r r0 r1 tp' kp => ?_⟩
    · exact Int.lt_of_le_of_lt (Int.ofNat_le.mpr h1) (by decide +kernel)
    have hi : r.toNat < xs.length := by omega
    have g : xs[r.toNat]? = some xs[r.toNat] := List.getElem?_eq_getElem hi
    rcases hs H' kp with z | z
    · exact .inl ⟨a, xs, r, _, rfl, rfl, z, at_of (by omega) g, k H' _ _ g tp' kp⟩
    · exact .inr (.inl ⟨a, xs, r, _, rfl, rfl, z, at_of (by omega) g, k H' _ _ g tp' kp⟩)
/-- the tape's beginning -/
def spBegun (K : PySem.W.Frag) : Sp := fun vs H Q _ => ∃ (a : Addr) (ns : List Int), vs = [.ref a] ∧ SqL K H a (ns.map V.int) ∧ ns.length ≤ 63 ∧
  ∀ (H' : Hp) (t c : Addr), H t = none → H c = none → Same H H' → Tape H' t c 0 → Q (.ref t) H'
theorem has_begun {cs : Nat → Addr} (T : Top K mg cs) : Has P w K mg base 1 "_law_begun" ["_law_script"] (spBegun K) := by
  refine has_of T.d__law_begun sc__law_begun bd__law_begun (fun vs H Q E h => ?_) (fun f cdv A outer s H vs Q E hr h => ?_)
  · obtain ⟨a, ns, rfl, _⟩ := h
    rfl
  · have hu := hu_of hr
    have nd := sc__law_begun.nd
    obtain ⟨a, ns, rfl, hS, hl, k⟩ := h
    refine ⟨_, (pss_one (ps_ret (pe_disp (pps_cons pe_str (pe_orT (pe_slice sl_list (pv 0) po_none (po_some pe_int)) (pe_one (pe_lst (pa_cons pe_int pa_nil)))) (pps_cons pe_str pe_int (pps_cons pe_str pe_int pps_nil))) (by rfl) (by rfl) (fun z => by cases z) (by decide)))), ?_⟩
    intro t ht
    have s1 := same_new (o := .dK []) ht
    refine ⟨_, rfl, 63, rfl, a, _, rfl, s1.seq hS, fun q hq => ?_⟩
    have ec : cutV (ns.map V.int) none (some 63) = ns.map V.int := by
      unfold cutV
      rw [HT.sIx_none, show HT.sIx (ns.map V.int).length (ns.map V.int).length (some 63) = min 63 (ns.map V.int).length from HT.sIx_nat _ _ 63, List.drop_zero, List.length_map]
      refine List.take_of_length_le ?_
      rw [List.length_map]
      omega
    rw [ec]
    have nqt : q ≠ t := fun e => by
      rw [e, upd_same] at hq
      cases hq
    have nq : H q = none := by
      rw [← hq, upd_ne nqt]
    cases hns : ns with
    | cons z zs =>
      refine ⟨true, .inl ⟨_, SqL.of upd_same, rfl⟩, iteT ?_⟩
      refine ⟨by rw [upd_ne nqt.symm]; exact upd_same, tk q 0 0, rfl, by show 3 ≤ 15; decide, ?_⟩
      refine k _ t q ht nq (fun b o e => ?_) ⟨z :: zs, 0, 0, ⟨upd_same, by rw [upd_ne nqt]; exact upd_same, by rw [List.length_cons]; omega, by rw [← hns]; exact hl, by decide, by decide⟩, by decide⟩
      rw [upd_ne (ne_of_none e ht), upd_ne (ne_of_none e nq), upd_ne (ne_of_none e ht)]
      exact e
    | nil =>
      refine ⟨false, .inl ⟨_, SqL.of upd_same, rfl⟩, iteF ?_⟩
      refine ⟨by show 1 ≤ sizeLine; decide, fun p hp => ?_⟩
      have npq : p ≠ q := fun e => by
        rw [e, upd_same] at hp
        cases hp
      have npt : p ≠ t := fun e => by
        rw [e, upd_ne nqt.symm, upd_same] at hp
        cases hp
      have np : H p = none := by
        rw [← hp, upd_ne npq, upd_ne npt]
      refine ⟨by rw [upd_ne npt.symm, upd_ne nqt.symm]; exact upd_same, tk p 0 0, rfl, by show 3 ≤ 15; decide, ?_⟩
      refine k _ t p ht np (fun b o e => ?_) ⟨[0], 0, 0, ⟨upd_same, by rw [upd_ne npt]; exact upd_same, by decide, by decide, by decide, by decide⟩, by decide⟩
      rw [upd_ne (ne_of_none e ht), upd_ne (ne_of_none e np), upd_ne (ne_of_none e nq), upd_ne (ne_of_none e ht)]
      exact e
end

/-! ### steps by clauses, as plain functions -/
def tru (on : List Int) : List (Key × V) := on.map fun k => ((Sum.inl k : Key), V.bl true)
def ins (on : List Int) (k : Int) : List Int := if k ∈ on then on else on ++ [k]
theorem tru_val (on : List Int) (k : Int) : valV (tru on) (Sum.inl k : Key) = if k ∈ on then some (V.bl true) else none := by
  induction on with
  | nil => rfl
  | cons a r ih =>
    show valV (((Sum.inl a : Key), V.bl true) :: tru r) (Sum.inl k : Key) = _
    by_cases h : a = k
    · rw [valV_pos (by rw [h]), if_pos (by rw [h]; exact List.mem_cons_self)]
    · rw [valV_neg (fun e => h (Sum.inl.inj e)), ih]
      by_cases hm : k ∈ r
      · rw [if_pos hm, if_pos (List.mem_cons_of_mem _ hm)]
      · rw [if_neg hm, if_neg]
        intro z
        rcases List.mem_cons.mp z with e | e
        · exact h e.symm
        · exact hm e
theorem tru_some (on : List Int) (k : Int) : (valV (tru on) (Sum.inl k : Key)).isSome = decide (k ∈ on) := by
  rw [tru_val]
  by_cases h : k ∈ on
  · rw [if_pos h, decide_eq_true h]
    rfl
  · rw [if_neg h, decide_eq_false h]
    rfl
theorem tru_put (on : List Int) (k : Int) : putK (tru on) (Sum.inl k : Key) (V.bl true) = tru (ins on k) := by
  unfold ins
  by_cases h : k ∈ on
  · rw [if_pos h]
    unfold putK
    rw [if_pos (by rw [valV_any, tru_some, decide_eq_true h])]
    unfold tru
    rw [List.map_map]
    refine List.map_congr_left fun a ha => ?_
    show (if ((Sum.inl a : Key), V.bl true).1 = Sum.inl k then _ else _) = _
    by_cases e : (Sum.inl a : Key) = Sum.inl k
    · rw [if_pos e]
    · rw [if_neg e]
  · rw [if_neg h, putK_new _ (by rw [tru_val, if_neg h])]
    unfold tru
    rw [List.map_append]
    rfl
theorem tru_merge : ∀ (b a : List Int), mergeK (tru a) (tru b) = tru (b.foldl ins a)
  | [], a => rfl
  | k :: r, a => by
    show mergeK (putK (tru a) (Sum.inl k : Key) (V.bl true)) (tru r) = _
    rw [tru_put, tru_merge r]
    rfl
theorem ins_len (on : List Int) (k : Int) : (ins on k).length ≤ on.length + 1 := by
  unfold ins
  split
  · omega
  · rw [List.length_append]
    exact Nat.le_refl _
theorem fold_len : ∀ (b a : List Int), (b.foldl ins a).length ≤ a.length + b.length
  | [], a => Nat.le_refl _
  | k :: r, a => by
    have h := fold_len r (ins a k)
    have h2 := ins_len a k
    show (r.foldl ins (ins a k)).length ≤ a.length + (r.length + 1)
    omega
/-- the marks of a clause that aren't off -/
def left (on c : List Int) : List Int := c.filter fun m => !decide (-m ∈ on)
/-- the clause of a number -/
def clAt (cs : List (List Int)) (r : Int) : Option (List Int) := if 0 ≤ r ∧ r < cs.length then cs[r.toNat]? else none
def step (cs : List (List Int)) (on : List Int) (r : Int) : Option (List Int) :=
  match clAt cs r with
  | none => none
  | some c => match left on c with
    | [x] => if x ∈ on then none else some (ins on x)
    | _ => none
def bring (cs : List (List Int)) : List Int → List Int → Option (List Int)
  | [], on => some on
  | r :: rs, on => match step cs on r with
    | none => none
    | some on' => bring cs rs on'
def broken (cs : List (List Int)) (on : List Int) (r : Int) : Bool :=
  match clAt cs r with
  | none => false
  | some c => (left on c).isEmpty
/-- what the program tells -/
def shownP (cs : List (List Int)) (ps rs : List Int) : Option Int → Bool
  | none => match rs.getLast? with
    | none => false
    | some r => match bring cs rs.dropLast (ps.foldl ins []) with
      | none => false
      | some on => broken cs on r
  | some m => match bring cs rs (ps.foldl ins []) with
    | none => false
    | some on => decide (m ∈ on)
/-- the law's own walk -/
def stepL (cs : List (List Int)) (on : List Int) (r : Int) : Option (List Int × Bool) :=
  match clAt cs r with
  | none => none
  | some c => if (left on c).length > 1 ∨ ((left on c).filter fun m => decide (m ∈ on)) ≠ [] then none else some ((left on c).foldl ins on, (left on c).isEmpty)
def walkL (cs : List (List Int)) : List Int → List Int → Bool → Option (List Int × Bool)
  | [], on, e => some (on, e)
  | r :: rs, on, e => if e = true then none else match stepL cs on r with
    | none => none
    | some (on', e') => walkL cs rs on' e'
def shownL (cs : List (List Int)) (ps rs : List Int) (m : Option Int) : Bool :=
  match walkL cs rs (ps.foldl ins []) false with
  | none => false
  | some (on, e) => match m with
    | none => e
    | some k => !e && decide (k ∈ on)
theorem stepL_of (cs : List (List Int)) (on : List Int) (r : Int) : stepL cs on r = match step cs on r with
    | some on' => some (on', false)
    | none => if broken cs on r = true then some (on, true) else none := by
  unfold stepL step broken
  cases clAt cs r with
  | none => rfl
  | some c =>
    show (if (left on c).length > 1 ∨ ((left on c).filter fun m => decide (m ∈ on)) ≠ [] then none else some ((left on c).foldl ins on, (left on c).isEmpty)) = match (match left on c with | [x] => if x ∈ on then none else some (ins on x) | _ => none) with
      | some on' => some (on', false)
      | none => if (left on c).isEmpty = true then some (on, true) else none
    cases left on c with
    | nil => simp
    | cons x r =>
      cases r with
      | nil =>
        by_cases h : x ∈ on
        · simp [h]
        · simp [h, ins]
      | cons y r => simp
theorem walk_ended (cs : List (List Int)) (rs on : List Int) : walkL cs rs on true = if rs = [] then some (on, true) else none := by
  cases rs with
  | nil => rfl
  | cons r rs => simp [walkL]
theorem walk_mark (cs : List (List Int)) (k : Int) : ∀ (rs on : List Int), (match walkL cs rs on false with
    | none => false
    | some (o, e) => !e && decide (k ∈ o)) = match bring cs rs on with
    | none => false
    | some o => decide (k ∈ o)
  | [], on => rfl
  | r :: rs, on => by
    simp only [walkL, bring]
    rw [if_neg Bool.false_ne_true, stepL_of]
    cases step cs on r with
    | some on' => exact walk_mark cs k rs on'
    | none =>
      by_cases hb : broken cs on r = true
      · simp only [hb, if_true]
        rw [walk_ended]
        cases rs with
        | nil => rfl
        | cons a b => rfl
      · simp only [hb]
        rfl
theorem walk_none (cs : List (List Int)) : ∀ (rs on : List Int), (match walkL cs rs on false with
    | none => false
    | some (_, e) => e) = match rs.getLast? with
    | none => false
    | some r => match bring cs rs.dropLast on with
      | none => false
      | some o => broken cs o r
  | [], on => rfl
  | [r], on => by
    simp only [walkL, bring, List.getLast?_singleton, List.dropLast_singleton]
    rw [if_neg Bool.false_ne_true, stepL_of]
    cases hs : step cs on r with
    | some on' =>
      have nb : broken cs on r = false := by
        unfold step at hs
        unfold broken
        cases hc : clAt cs r with
        | none => rfl
        | some c =>
          rw [hc] at hs
          simp only at hs ⊢
          cases hl : left on c with
          | nil =>
            rw [hl] at hs
            cases hs
          | cons x y => rfl
      rw [nb]
    | none =>
      by_cases hb : broken cs on r = true
      · simp only [hb, if_true]
      · simp only [hb]
        simp
  | r :: r2 :: rs, on => by
    have e1 : (r :: r2 :: rs).getLast? = (r2 :: rs).getLast? := by rw [List.getLast?_cons_cons]
    have e2 : (r :: r2 :: rs).dropLast = r :: (r2 :: rs).dropLast := rfl
    rw [e1, e2]
    simp only [bring]
    rw [show walkL cs (r :: r2 :: rs) on false = match stepL cs on r with | none => none | some (on', e') => walkL cs (r2 :: rs) on' e' by
      show (if false = true then none else _) = _
      rw [if_neg Bool.false_ne_true]]
    rw [stepL_of]
    cases step cs on r with
    | some on' => exact walk_none cs (r2 :: rs) on'
    | none =>
      have z : (match (r2 :: rs).getLast? with | none => false | some r => false) = false := by
        cases (r2 :: rs).getLast? <;> rfl
      by_cases hb : broken cs on r = true
      · simp only [hb, if_true]
        rw [walk_ended]
        simp only [reduceCtorEq, if_false]
        exact z.symm
      · simp only [hb]
        exact z.symm
theorem shown_eq (cs : List (List Int)) (ps rs : List Int) (m : Option Int) : shownL cs ps rs m = shownP cs ps rs m := by
  unfold shownL shownP
  cases m with
  | none => exact walk_none cs rs _
  | some k => exact walk_mark cs k rs _

/-! ### clauses as they stand in the heap -/
structure Cs (H : Hp) (a : Addr) (qs : List Addr) (cs : List (List Int)) : Prop where
  l : H a = some (.lst (qs.map V.ref))
  n : qs.length = cs.length
  t : ∀ (i : Nat) q c, qs[i]? = some q → cs[i]? = some c → H q = some (.tup (c.map V.int))
theorem Cs.same {H H' : Hp} {a : Addr} {qs : List Addr} {cs : List (List Int)} (h : Cs H a qs cs) (s : Same H H') : Cs H' a qs cs := ⟨s _ _ h.l, h.n, fun i q c hq hc => s _ _ (h.t i q c hq hc)⟩
theorem Cs.kp {H H' : Hp} {a d : Addr} {qs : List Addr} {cs : List (List Int)} {kvs : List (Key × V)} (h : Cs H a qs cs) (hd : H d = some (.dK kvs)) (k : Kp d H H') : Cs H' a qs cs :=
  ⟨k _ _ h.l (ne_of h.l hd (by intro z; cases z)), h.n, fun i q c hq hc => k _ _ (h.t i q c hq hc) (ne_of (h.t i q c hq hc) hd (by intro z; cases z))⟩
theorem clAt_some {cs : List (List Int)} {r : Int} {c : List Int} (h : clAt cs r = some c) : 0 ≤ r ∧ r < cs.length ∧ cs[r.toNat]? = some c := by
  unfold clAt at h
  split at h
  · rename_i e
    exact ⟨e.1, e.2, h⟩
  · cases h
theorem clAt_in {cs : List (List Int)} {r : Int} (h0 : 0 ≤ r) (h1 : r < cs.length) : ∃ c, clAt cs r = some c := by
  unfold clAt
  rw [if_pos ⟨h0, h1⟩]
  exact ⟨_, List.getElem?_eq_getElem (by omega)⟩
theorem Cs.at {H : Hp} {a : Addr} {qs : List Addr} {cs : List (List Int)} (h : Cs H a qs cs) {r : Int} {c : List Int} (hc : clAt cs r = some c) : ∃ q, atI (qs.map V.ref) r = some (.ref q) ∧ H q = some (.tup (c.map V.int)) := by
  obtain ⟨h0, h1, h2⟩ := clAt_some hc
  have hn := h.n
  have l : r.toNat < qs.length := by omega
  refine ⟨qs[r.toNat], at_of (j := r.toNat) (by omega) ?_, h.t _ _ _ (List.getElem?_eq_getElem l) h2⟩
  rw [List.getElem?_map, List.getElem?_eq_getElem l]
  rfl
theorem len_zero (l : List Int) : decide (V.int ((l.map V.int).length : Nat) = V.int 0) = l.isEmpty := by
  cases l with
  | nil => rfl
  | cons y r =>
    refine decide_eq_false fun z => ?_
    have z2 := V.int.inj z
    rw [List.length_map, List.length_cons] at z2
    omega
theorem drop_at {α : Type} {xs : List α} {i : Nat} {x : α} (h : xs[i]? = some x) : xs.drop i = x :: xs.drop (i + 1) := by
  obtain ⟨l, e⟩ := List.getElem?_eq_some_iff.mp h
  rw [List.drop_eq_getElem_cons l, e]
theorem int_at {rs : List Int} {i : Nat} {x : V} (h : (rs.map V.int)[i]? = some x) : ∃ r, x = .int r ∧ rs[i]? = some r := by
  rw [List.getElem?_map] at h
  cases e : rs[i]? with
  | none =>
    rw [e] at h
    cases h
  | some r =>
    rw [e] at h
    exact ⟨r, (Option.some.inj h).symm, rfl⟩

/-! ### small things -/
theorem pick_int {zs : List Int} {i : Nat} {v : V} (h : (zs.map V.int)[i]? = some v) : ∃ z, v = .int z ∧ z ∈ zs := by
  obtain ⟨r, e, hr⟩ := int_at h
  exact ⟨r, e, List.mem_of_getElem? hr⟩
theorem seq_in {n : Nat} {i : Int} (h0 : 0 ≤ i) (h1 : i < n) : seqIndex? i n = some i.toNat := by
  have e : ixN n i = some i.toNat := by
    unfold ixN
    rw [if_pos h0, if_pos h1]
  exact (ixN_seq e).1
theorem pow8000 {x : Int} (h : x ≤ 1000000) : x < 2 ^ 8000 := Int.lt_of_le_of_lt h (by decide +kernel)
theorem Tape.sq {H : Hp} {t c p : Addr} {n : Nat} {xs : List V} (h : Tape H t c n) (e : H p = some (.lst xs)) {H' : Hp} (k : Kp t H H') : H' p = some (.lst xs) := k p _ e (by
  obtain ⟨ns, spot, left, tc, _⟩ := h
  exact ne_of e tc.d (by intro z; cases z))
theorem Tape.ne_lst' {H : Hp} {t c p : Addr} {n : Nat} {xs : List V} (h : Tape H t c n) (e : H p = some (.lst xs)) : p ≠ t := by
  obtain ⟨ns, spot, left, tc, _⟩ := h
  exact ne_of e tc.d (by intro z; cases z)
theorem getElem_snoc {α : Type} {xs : List α} {x y : α} {i : Nat} (h : (xs ++ [x])[i]? = some y) : (i < xs.length ∧ xs[i]? = some y) ∨ (i = xs.length ∧ x = y) := by
  by_cases c : i < xs.length
  · rw [List.getElem?_append_left c] at h
    exact .inl ⟨c, h⟩
  · rw [List.getElem?_append_right (by omega)] at h
    have l := (List.getElem?_eq_some_iff.mp h).1
    simp only [List.length_cons, List.length_nil] at l
    have e : i - xs.length = 0 := by omega
    rw [e] at h
    exact .inr ⟨by omega, Option.some.inj h⟩
theorem same_mut {H H' : Hp} {D : Addr} {o : HO} (s : Same H H') (h : H D = none) : Same H (upd H' D o) := fun b u e => by
  rw [upd_ne (ne_of_none e h)]
  exact s b u e
theorem take_snoc {xs : List Int} {i : Nat} {x : Int} (h : xs[i]? = some x) : xs.take (i + 1) = xs.take i ++ [x] := by
  rw [List.take_add_one, h]
  rfl

/-! ### what the data are -/
theorem lay_ints : ∀ l : List Int, PyData.canLayAll0 (l.map PyData.int) = true
  | [] => rfl
  | x :: r => by
    rw [List.map_cons, PyData.canLayAll0, lay_ints r]
    rfl
theorem dep_ints : ∀ l : List Int, PyData.depthAll (l.map PyData.int) ≤ 0
  | [] => Nat.le_refl _
  | x :: r => by
    rw [List.map_cons, PyData.depthAll]
    exact Nat.max_le.mpr ⟨Nat.le_refl _, dep_ints r⟩
def tupD (c : List Int) : PyData := .tuple (c.map PyData.int)
def lstD (c : List Int) : PyData := .list (c.map PyData.int)
theorem lay_tup (c : List Int) : (tupD c).canLay0 = true := by
  unfold tupD
  rw [PyData.canLay0]
  exact lay_ints c
theorem lay_lst (c : List Int) : (lstD c).canLay0 = true := by
  unfold lstD
  rw [PyData.canLay0]
  exact lay_ints c
theorem dep_tup (c : List Int) : (tupD c).depth ≤ 1 := by
  unfold tupD
  rw [PyData.depth]
  exact Nat.succ_le_succ (dep_ints c)
theorem dep_lst (c : List Int) : (lstD c).depth ≤ 1 := by
  unfold lstD
  rw [PyData.depth]
  exact Nat.succ_le_succ (dep_ints c)
theorem lay_tups : ∀ cs : List (List Int), PyData.canLayAll0 (cs.map tupD) = true
  | [] => rfl
  | x :: r => by
    rw [List.map_cons, PyData.canLayAll0, lay_tups r, lay_tup]
    rfl
theorem dep_tups : ∀ cs : List (List Int), PyData.depthAll (cs.map tupD) ≤ 1
  | [] => Nat.zero_le _
  | x :: r => by
    rw [List.map_cons, PyData.depthAll]
    exact Nat.max_le.mpr ⟨dep_tup x, dep_tups r⟩
section
variable {K : PySem.W.Frag} {H : Hp}
theorem dp_ints : ∀ l : List Int, DpAll K H (l.map V.int) (l.map PyData.int)
  | [] => .nil
  | x :: r => .cons (.int x) (dp_ints r)
theorem dp_lst {a : Addr} {l : List Int} (h : H a = some (.lst (l.map V.int))) : Dp K H (.ref a) (lstD l) := .lst (SqL.of h) (dp_ints l)
theorem dp_tups : ∀ {qs : List Addr} {cs : List (List Int)}, qs.length = cs.length → (∀ (i : Nat) q c, qs[i]? = some q → cs[i]? = some c → H q = some (.tup (c.map V.int))) → DpAll K H (qs.map V.ref) (cs.map tupD)
  | [], [], _, _ => .nil
  | [], _ :: _, n, _ => absurd n (by simp)
  | _ :: _, [], n, _ => absurd n (by simp)
  | q :: qs, c :: cs, n, t => .cons (.tup (SqT.of (t 0 q c rfl rfl)) (dp_ints c)) (dp_tups (Nat.succ.inj n) fun i q c hq hc => t (i + 1) q c hq hc)
end
theorem shape_lst (l : List Int) : SeqAt.shaped (lstD l) = true := by
  unfold SeqAt.shaped
  rw [lay_lst, decide_eq_true (Nat.le_trans (dep_lst l) (by decide))]
  rfl

/-! ### promises that hold where nothing is being shown -/
structure FnG (P : Program) (w : World) (K : PySem.W.Frag) (mg : Str → Option Value) (base : Heap) (k : Nat) (f : Addr) (fd : FuncData) (ps : List Str) (sp : Sp) : Prop where
  len : ∀ vs H Q E, sp vs H Q E → vs.length = ps.length
  run : ∀ (A : Around) (out : List Env) (s : Shared) (H : Hp) (us : List Value) (vs : List V) (Q : VK) (E : XK), Room k A → A.guards = some [] → Env0 P w K mg base A out s H → BindsTo s fd ⟨us, []⟩ (ps.zip us) → Vals vs us → sp vs H Q E →
    codeAny (model P w) A (.call (.ref f) ⟨us, []⟩) (CR CX0 out P w H s Q E) s
structure HasG (P : Program) (w : World) (K : PySem.W.Frag) (mg : Str → Option Value) (base : Heap) (k : Nat) (x : Str) (ps : List Str) (sp : Sp) : Prop where
  ex : ∃ f fd, mg x = some (.ref f) ∧ PySem.W.keepIn K (.ref f) = true ∧ Binds K fd ps [] ∧ FnG P w K mg base k f fd ps sp
section
variable {P : Program} {w : World} {K : PySem.W.Frag} {mg : Str → Option Value} {base : Heap}
theorem fnG {x qual : Str} {st : Stmt} {f : Addr} {fd : FuncData} {N ps : List Str} {k : Nat} {sp : Sp} (F : Fun K x qual st f fd) (S : FnScope N ps (defScope st)) (len : ∀ vs H Q E, sp vs H Q E → vs.length = ps.length)
    (body : ∀ (cdv : Value) (A : Around) (out : List Env) (s : Shared) (H : Hp) (vs : List V) (Q : VK) (E : XK), Room k (A.deeper (envOfC qual (defScope st) s.heap.objs.size f cdv)) → (A.deeper (envOfC qual (defScope st) s.heap.objs.size f cdv)).guards = some [] → sp vs H Q E →
      ∃ t, PSs (cxOf CX0 P w K mg base N qual (defScope st) f cdv A out s H E).nox (defBody st) t ∧ t { nx := fun _ H' => Q .non H', rt := Q } (start N vs) H) : FnG P w K mg base (k + 1) f fd ps sp := by
  obtain ⟨oc, od, kV, doc, pm, an, cdv, ct, osl, rfl, lk, hcd⟩ := F.ex
  refine ⟨len, fun A out s H us vs Q E room calm e0 hb r hsp => ?_⟩
  have few := len _ _ _ _ hsp
  have kin : K.In s.heap := e0.mod.kin.keeps fun b o z => (e0.bs b o z).1
  have lim : s.heap.NoLimit := e0.mod.nolimit.keeps fun b o z => (e0.bs b o z).1
  have kinds : ∀ z ∈ ps.zip us, (defScope st).names.lookup z.1 = some .local ∨ ((defScope st).names.lookup z.1 = some .cell ∧ ((cellsFrom (s.heap.objs.size + 1) (defScope st).names []).lookup z.1).isSome = true) := by
    rintro ⟨n, v⟩ hz
    rcases S.par n (List.of_mem_zip hz).1 with z | z
    · exact .inl z
    · exact .inr ⟨z, PySem.W.cellsFrom_some _ _ _ (.inl z)⟩
  refine codeAny_call_function room.depth (kin _ _ lk) rfl S.co S.gen rfl (PySem.W.codeRec_of kin hcd) (hb _ _ _ _ ?_)
  refine wpAny_newFunctionEnv_cells S.kind kinds fun env he s1 z => ?_
  subst he
  refine ⟨lim.keeps z.toInCall.keep, codeAny_func ?_⟩
  obtain ⟨t, ht, hq⟩ := body cdv A out s H vs Q E (room.deeper _) calm hsp
  have I : Inv (cxOf CX0 P w K mg base N qual (defScope st) f cdv A out s H E) [] (start N vs) H s1 := inv_start S room.hd e0 few r z
  refine wpAny_mono (ht.nox.run [] s1 (start N vs) H _ I hq) (fun fl s2 hs => ?_) fun e s2 hs => hs
  cases fl with
  | ret u =>
    obtain ⟨v, σ2, H2, J, rv, q⟩ := hs
    exact ⟨v, H2, J.os, J.bare, J.base, J.hok, rv, q⟩
  | next =>
    obtain ⟨σ2, H2, J, q⟩ := hs
    exact ⟨.non, H2, J.os, J.bare, J.base, J.hok, rfl, q⟩
  | brk =>
    obtain ⟨_, _, _, q⟩ := hs
    exact q.elim
  | cont =>
    obtain ⟨_, _, _, q⟩ := hs
    exact q.elim
theorem has_ofG {x : Str} {st : Stmt} {N ps : List Str} {k : Nat} {sp : Sp} (A : At K mg x st) (S : FnScope N ps (defScope st)) (B : BindsAll x st ps) (len : ∀ vs H Q E, sp vs H Q E → vs.length = ps.length)
    (body : ∀ (f : Addr) (cdv : Value) (A : Around) (out : List Env) (s : Shared) (H : Hp) (vs : List V) (Q : VK) (E : XK), Room k (A.deeper (envOfC x (defScope st) s.heap.objs.size f cdv)) → (A.deeper (envOfC x (defScope st) s.heap.objs.size f cdv)).guards = some [] → sp vs H Q E →
      ∃ t, PSs (cxOf CX0 P w K mg base N x (defScope st) f cdv A out s H E).nox (defBody st) t ∧ t { nx := fun _ H' => Q .non H', rt := Q } (start N vs) H) : HasG P w K mg base (k + 1) x ps sp := by
  obtain ⟨f, fd, hm, F⟩ := A.ex
  exact ⟨f, fd, hm, F.kp, F.binds B, fnG F S len fun cdv A out s H vs Q E hr hg h => body f cdv A out s H vs Q E hr hg h⟩
theorem FnG.at_ {f : Addr} {fd : FuncData} {ps : List Str} {k : Nat} {sp : Sp} (G : FnG P w K mg base k f fd ps sp) (room : Room k callerA) : RunAt P w K mg base f fd ps sp :=
  fun s H us vs Q E e0 hb r hsp => G.run callerA [] s H us vs Q E room rfl e0 hb r hsp
end
section
variable {X : Cx} {k : Nat} {x : Str} {ps : List Str} {sp : Sp} {e : Expr} {es : List Expr} {t : TA} {p pos : Pos}
theorem pe_hasG (h : HasG X.prog X.w X.K X.mg X.base k x ps sp) (hr : Room k X.A) (hgd : X.A.guards = some []) (hg : Gl X x) (ha : PA X (e :: es) t)
    (hdb : (x == ("__debug__" : Str)) = false := by decide) (he : starEach (e :: es) X.env = (false, eval e X.env) :: starEach es X.env := by rfl) (hpl : (backTo pos (starEach es X.env)).any (·.1) = false := by rfl) :
    PE X (.Call (.Name x p) (e :: es) [] pos) (tCall sp [] E0 t) := by
  obtain ⟨f, fd, hm, hk, hb, F⟩ := h.ex
  refine ⟨fun pins s σ H Q I hw => ?_⟩
  refine wpAny_Call_Name_kw (ld_glob I hg hm ?_ hdb)
  refine PySem.W.callWith_K (h₀ := X.base) I.ok.mod.kin hk (thn (ha.run pos pins s σ H _ I hw) fun us s1 ⟨vs, H1, I1, r1, q⟩ => ⟨I1.kIn, ?_⟩) he hpl
  have q : sp vs H1 Q E0 := by
    have z : sp (vs ++ []) H1 Q E0 := q
    rwa [List.append_nil] at z
  have bd := hb s1 us I1.kIn (by rw [List.append_nil, ← r1.length]; exact F.len _ _ _ _ q)
  rw [List.append_nil] at bd
  refine wpAny_call (codeAny_mono (F.run X.A X.stack s1 H1 us vs Q E0 hr hgd I1.env0 bd r1 q) fun r s2 hq => ?_)
  cases r with
  | error e => exact pass0 pins σ H1 s1 e s2 I1 hq
  | ok fl =>
    cases fl with
    | ret u => exact I1.after hq
    | next => exact hq.elim
    | brk => exact hq.elim
    | cont => exact hq.elim
end
/-! ### repr of None, of a whole number, of a list -/
structure Showy (x : PyData) : Prop where
  s : x.showable = true
  n : x.hasDict = false
  d : x.depth ≤ 60
  l : x.shown.length ≤ sizeLine
theorem call_reprV {X : Cx} (hgd : X.A.guards = some []) (hu : X.A.units + 64 < cLine) : CallR X (.builtin "repr") (fun xs H Q => (xs = [.non] ∧ Q (.str "None") H) ∨ (∃ i, xs = [.int i] ∧ i.natAbs.log2 < 1920 ∧ Q (.str (toString i)) H) ∨
    ∃ a d, xs = [.ref a] ∧ Dp X.K H (.ref a) d ∧ Showy d ∧ Q (.str d.shown) H) := by
  intro pins s σ H xs us Q I r h
  rcases h with ⟨rfl, q⟩ | ⟨i, rfl, hi, q⟩ | ⟨a, d, rfl, hd, sh, q⟩
  · obtain ⟨u, rfl, ru⟩ := vals1 r
    cases ru
    exact PySem.P.repr_of_none ⟨.str "None", H, I.tok _, ⟨_, rfl⟩, q⟩
  · obtain ⟨u, rfl, t, rfl⟩ := vals1 r
    exact PySem.P.repr_of_int hi ⟨.str (toString i), H, I.tok _, ⟨_, rfl⟩, q⟩
  · obtain ⟨u, rfl, ru⟩ := vals1 r
    cases ru
    obtain ⟨as, rd⟩ := Dp.reads I d (.ref a) (.ref a) hd rfl
    have h3 := sh.d
    exact repr_of_reads' (s := s) rd sh.s (fun z => by rw [sh.n] at z; cases z) hgd (by omega) (fun _ _ z => z) (fun h2 u tk k => ⟨.str d.shown, H, I.kept (t' := tk) k, ⟨_, rfl⟩, q⟩) sh.l

/-! ### rules: a text a few times, a tuple a few times -/
theorem op_repTK {X : Cx} {K : PySem.W.Frag} (h : X.K = K) : OpR X (binaryOp .Mult) (rRepT K) := h ▸ op_repT
def repS (k : Int) (z : Str) : Str := ⟨(List.replicate k.toNat z.cps).foldl (· ++ ·) #[]⟩
theorem op_repS {X : Cx} : OpR X (binaryOp .Mult) (fun x y H Q => ∃ (z : Str) (k : Int), x = .str z ∧ y = .int k ∧ 2 ≤ k ∧ k ≤ 1000 ∧ 1 ≤ z.length ∧ z.length ≤ 1000 ∧ (repS k z).length ≤ sizeLine ∧ Q (.str (repS k z)) H) := by
  intro pins s σ H x y v u Q I rx ry h
  obtain ⟨z, k, rfl, rfl, h1, h2, h3, h4, h5, q⟩ := h
  obtain ⟨t, rfl⟩ := rx
  obtain ⟨t', rfl⟩ := ry
  have c1 : ¬ k < 1 := by omega
  have c2 : (k == 1 || z.length == 0) = false := by
    rw [Bool.or_eq_false_iff]
    exact ⟨by simp; omega, by simp; omega⟩
  refine PySem.P.mul_str ?_ (fun _ _ => ?_) (fun _ _ => ?_) ?_
  · rw [Bool.or_eq_false_iff]
    exact ⟨decide_eq_false (by omega), decide_eq_false (by omega)⟩
  · have e : (1000 : Int) ≤ (2 ^ 63 - 1) / k := (Int.le_ediv_iff_mul_le (by omega)).mpr (by omega)
    omega
  · have e : z.length * k.toNat ≤ 1000 * 1000 := Nat.mul_le_mul h4 (by omega)
    have e2 : sizeLine = 16777216 := sizeLine_eq
    show decide (_ > sizeLine) = false
    refine decide_eq_false ?_
    omega
  · rw [if_neg c1, if_neg (by rw [c2]; exact Bool.false_ne_true)]
    exact ⟨h5, .str (repS k z), H, I.tok _, ⟨_, rfl⟩, q⟩
/-- a def whose promise can't be asked -/
theorem has_zero {P : Program} {w : World} {K : PySem.W.Frag} {mg : Str → Option Value} {base : Heap} {x : Str} {st : Stmt} {ps : List Str} {sp : Sp} (A : At K mg x st) (B : BindsAll x st ps) (no : ∀ vs H Q E, ¬ sp vs H Q E) : Has P w K mg base 0 x ps sp := by
  obtain ⟨f, fd, hm, F⟩ := A.ex
  exact ⟨f, fd, hm, F.kp, F.binds B, fun vs H Q E h => absurd h (no _ _ _ _), fun A out s H args us vs Q E _ _ _ _ h => absurd h (no _ _ _ _)⟩
/-! ### data made of tuples: they stay whatever becomes of lists -/
mutual
inductive Tp (H : Hp) : V → PyData → Prop
  | non : Tp H .non .none
  | bl (b : Bool) : Tp H (.bl b) (.bool b)
  | int (i : Int) : Tp H (.int i) (.int i)
  | str (x : Str) : Tp H (.str x) (.str x)
  | tup {a : Addr} {xs : List V} {ds : List PyData} : H a = some (.tup xs) → TpAll H xs ds → Tp H (.ref a) (.tuple ds)
inductive TpAll (H : Hp) : List V → List PyData → Prop
  | nil : TpAll H [] []
  | cons {v : V} {vs : List V} {d : PyData} {ds : List PyData} : Tp H v d → TpAll H vs ds → TpAll H (v :: vs) (d :: ds)
end
/-- tuples stay -/
def KT (H H' : Hp) : Prop := ∀ a xs, H a = some (.tup xs) → H' a = some (.tup xs)
theorem KT.refl {H : Hp} : KT H H := fun _ _ h => h
theorem KT.trans {H H1 H2 : Hp} (a : KT H H1) (b : KT H1 H2) : KT H H2 := fun c xs h => b c xs (a c xs h)
theorem KT.same {H H' : Hp} (s : Same H H') : KT H H' := fun a xs h => s a _ h
theorem KT.kp {H H' : Hp} {t c : Addr} {n : Nat} (tp : Tape H t c n) (k : Kp t H H') : KT H H' := fun a xs h => by
  obtain ⟨ns', sp', lf', tc, _⟩ := tp
  exact k _ _ h (ne_of h tc.d (by intro z; cases z))
theorem KT.lst {H : Hp} {D : Addr} {xs : List V} {o : HO} (h : H D = some (.lst xs)) : KT H (upd H D o) := fun a ys e => by
  rw [upd_ne (ne_of e h (by intro z; cases z))]
  exact e
theorem KT.new {H : Hp} {p : Addr} {o : HO} (h : H p = none) : KT H (upd H p o) := KT.same (same_new h)
mutual
theorem Tp.kt {H H' : Hp} (s : KT H H') : ∀ {v : V} {d : PyData}, Tp H v d → Tp H' v d
  | _, _, .non => .non
  | _, _, .bl b => .bl b
  | _, _, .int i => .int i
  | _, _, .str x => .str x
  | _, _, .tup h r => .tup (s _ _ h) (TpAll.kt s r)
theorem TpAll.kt {H H' : Hp} (s : KT H H') : ∀ {vs : List V} {ds : List PyData}, TpAll H vs ds → TpAll H' vs ds
  | _, _, .nil => .nil
  | _, _, .cons h r => .cons (Tp.kt s h) (TpAll.kt s r)
end
mutual
theorem Tp.dp {K : PySem.W.Frag} {H : Hp} : ∀ {v : V} {d : PyData}, Tp H v d → Dp K H v d
  | _, _, .non => .non
  | _, _, .bl b => .bl b
  | _, _, .int i => .int i
  | _, _, .str x => .str x
  | _, _, .tup h r => .tup (SqT.of h) (TpAll.dp r)
theorem TpAll.dp {K : PySem.W.Frag} {H : Hp} : ∀ {vs : List V} {ds : List PyData}, TpAll H vs ds → DpAll K H vs ds
  | _, _, .nil => .nil
  | _, _, .cons h r => .cons (Tp.dp h) (TpAll.dp r)
end
theorem TpAll.snoc {H : Hp} {v : V} {d : PyData} : ∀ {vs : List V} {ds : List PyData}, TpAll H vs ds → Tp H v d → TpAll H (vs ++ [v]) (ds ++ [d])
  | _, _, .nil, h => .cons h .nil
  | _, _, .cons a r, h => .cons a (r.snoc h)
theorem TpAll.app {H : Hp} {ws : List V} {es : List PyData} : ∀ {vs : List V} {ds : List PyData}, TpAll H vs ds → TpAll H ws es → TpAll H (vs ++ ws) (ds ++ es)
  | _, _, .nil, h => h
  | _, _, .cons a r, h => .cons a (r.app h)
theorem TpAll.len {H : Hp} : ∀ {vs : List V} {ds : List PyData}, TpAll H vs ds → vs.length = ds.length
  | _, _, .nil => rfl
  | _, _, .cons _ r => by rw [List.length_cons, List.length_cons, r.len]
theorem TpAll.get {H : Hp} : ∀ {vs : List V} {ds : List PyData} {i : Nat} {d : PyData}, TpAll H vs ds → ds[i]? = some d → ∃ v, vs[i]? = some v ∧ Tp H v d
  | _, _, _, _, .nil, e => by cases e
  | _, _, 0, _, .cons a _, e => ⟨_, rfl, by cases e; exact a⟩
  | _, _, i + 1, _, .cons _ r, e => r.get e
theorem tp_rep {H : Hp} {v : V} {d : PyData} (h : Tp H v d) : ∀ n, TpAll H (List.replicate n v) (List.replicate n d)
  | 0 => .nil
  | n + 1 => .cons h (tp_rep h n)
theorem Tp.new {H : Hp} {p : Addr} {xs : List V} {ds : List PyData} (n : H p = none) (r : TpAll H xs ds) : Tp (upd H p (.tup xs)) (.ref p) (.tuple ds) := .tup upd_same (r.kt (KT.new n))
theorem flat_one {v : V} : ∀ n : Nat, (List.replicate n [v]).flatten = List.replicate n v
  | 0 => rfl
  | n + 1 => by
    rw [List.replicate_succ, List.flatten_cons, flat_one n]
    rfl
/-! ### a comprehension over a range, whose items are new -/
section
variable {K : PySem.W.Frag} {tt : TT} {te : TE} {vs : List Nat} {σ : L2.St} {H : Hp} {D : Addr} {Qd : Hp → Prop} {j : Nat}
theorem lc_rangeC {lo c : Int} {n : Nat} {g : TG} (Pv : Nat → Hp → Prop) (h0 : Pv 0 (upd H D (.lst [])))
    (hs : ∀ i H, i < n → Pv i H → g (.int (lo + (i : Nat) * c)) (wipe σ vs) H fun σ2 H2 => wipe σ2 vs = wipe σ vs ∧ tt σ2 H2 fun b H3 =>
      if b = true then te σ2 H3 fun y H4 => ∃ acc, H4 D = some (.lst acc) ∧ acc.length < sizeLine ∧ Pv (i + 1) (upd H4 D (.lst (acc ++ [y]))) else Pv (i + 1) H3) (hd : ∀ H, Pv n H → Qd H) :
    ∃ W : Nat → Nat → Hp → Prop, (∃ m, W 0 m (upd H D (.lst []))) ∧ ∀ i m H, W i m H →
      ((Itc lo c n).stop i H ∧ Qd H) ∨ ((Itc lo c n).go i H ∧ ∃ Nx : Hp → Prop, (∀ H', Nx H' → ∃ m', m' < m ∧ W (i + 1) m' H') ∧ ∀ x H', (Itc lo c n).yld i H x H' → g x (wipe σ vs) H' fun σ2 H2 => wipe σ2 vs = wipe σ vs ∧ tt σ2 H2 fun b H3 =>
        if b = true then te σ2 H3 fun y H4 => ∃ acc, H4 D = some (.lst acc) ∧ acc.length < sizeLine ∧ Nx (upd H4 D (.lst (acc ++ [y]))) else Nx H3) := by
  refine ⟨fun i m H => m = n - i ∧ i ≤ n ∧ Pv i H, ⟨n, by simp, Nat.zero_le _, h0⟩, ?_⟩
  rintro i m H ⟨rfl, hi, p⟩
  by_cases hlt : i < n
  · refine .inr ⟨hlt, Pv (i + 1), fun H' p' => ⟨n - (i + 1), by omega, rfl, hlt, p'⟩, fun x H' y => ?_⟩
    obtain ⟨rfl, rfl⟩ := y
    exact hs i H' hlt p
  · have e : i = n := by omega
    subst e
    exact .inl ⟨Nat.le_refl _, hd H p⟩
/-- what stands at a turn: so many items that are data -/
structure TpT (H H' : Hp) (D : Addr) (ds : List PyData) : Prop where
  s : Same H H'
  ex : ∃ xs, H' D = some (.lst xs) ∧ TpAll H' xs ds
theorem TpT.new (hD : H D = none) : TpT H (upd H D (.lst [])) D [] := ⟨same_new hD, [], upd_same, .nil⟩
/-- an item more -/
theorem TpT.put {H1 H2 : Hp} {y : V} {d : PyData} {ds : List PyData} (hD : H D = none) (p : TpT H H1 D ds) (s : Same H1 H2) (small : ds.length < sizeLine) (hy : Tp H2 y d) :
    ∃ acc, H2 D = some (.lst acc) ∧ acc.length < sizeLine ∧ TpT H (upd H2 D (.lst (acc ++ [y]))) D (ds ++ [d]) := by
  obtain ⟨xs, e, r⟩ := p.ex
  have e2 := s _ _ e
  refine ⟨xs, e2, by rw [r.len]; exact small, same_mut (p.s.trans s) hD, _, upd_same, ?_⟩
  exact ((r.kt (KT.same s)).snoc hy).kt (KT.lst e2)
end

/-! ### rows of whole numbers as data -/
def tI (l : List Int) : PyData := .tuple (l.map PyData.int)
theorem tpall_ints {H : Hp} : ∀ l : List Int, TpAll H (l.map V.int) (l.map PyData.int)
  | [] => .nil
  | x :: r => .cons (.int x) (tpall_ints r)
theorem tp_ints {H : Hp} {p : Addr} {l : List Int} (h : H p = some (.tup (l.map V.int))) : Tp H (.ref p) (tI l) := .tup h (tpall_ints l)
theorem tpall_inv {H : Hp} : ∀ {l : List Int} {xs : List V}, TpAll H xs (l.map PyData.int) → xs = l.map V.int
  | [], xs, h => by
    cases h
    rfl
  | x :: r, xs, h => by
    cases h with
    | cons a b =>
      cases a
      rw [tpall_inv b]
      rfl
theorem tp_row {H : Hp} {v : V} {l : List Int} (h : Tp H v (tI l)) : ∃ a, v = .ref a ∧ H a = some (.tup (l.map V.int)) := by
  unfold tI at h
  cases h with
  | tup ha r => exact ⟨_, rfl, by rw [ha, tpall_inv r]⟩

/-! ### the other marks -/
def negL (l : List Int) : List Int := l.map fun x => 0 - x
theorem negL_len (l : List Int) : (negL l).length = l.length := List.length_map _
def spNegs : Sp := fun vs H Q _ => ∃ (p : Addr) (l : List Int), vs = [.ref p] ∧ H p = some (.tup (l.map V.int)) ∧ l.length ≤ 1000 ∧ ∀ H' r, Same H H' → H' r = some (.tup ((negL l).map V.int)) → Q (.ref r) H'
section
variable {P : Program} {w : World} {K : PySem.W.Frag} {mg : Str → Option Value} {base : Heap}
theorem has_others {cs : Nat → Addr} (T : Top K mg cs) : Has P w K mg base 1 "others" ["marks"] spNegs := by
  refine has_of T.d_others sc_others bd_others (fun vs H Q E h => ?_) (fun f cdv A outer s H vs Q E hr h => ?_)
  · obtain ⟨p, l, rfl, _⟩ := h
    rfl
  · have hu := hu_of hr
    have nd := sc_others.nd
    obtain ⟨p, l, rfl, hp, few, k⟩ := h
    refine ⟨_, (pss_one (ps_ret (pe_callTy call_tuple_of (by rfl) T.b_tuple (by decide +kernel) (pa_cons (pe_lc (own := [("mark", 1)]) (by rfl) nd (pi_tup (pv 0)) (blkOk_by (own := [("mark", 1)]) (N := nm_others) (sc := defScope s_others) (by decide +kernel)) (fun _ _ _ _ _ => pg_name (i := 1) nd rfl (.inl rfl)) (fun _ _ _ _ _ => pts_nil) (fun _ _ _ _ _ => (pe_un un_neg (pv 1)))) pa_nil)))), ?_⟩
    have line : (5000000 : Nat) < sizeLine := by decide
    refine ⟨_, rfl, p, rfl, ⟨_, SqT.of hp⟩, fun D hD => lc_tup (xs := l.map V.int) (fun i H' => TpT H H' D ((negL (l.take i)).map PyData.int)) (TpT.new hD) (fun i H' _ z => SqT.of (z.s _ _ hp)) (fun i x H' hx z => ?_) (fun H' z => ?_)⟩
    · obtain ⟨y, rfl, hy⟩ := int_at hx
      refine ⟨rfl, yes_go ⟨_, rfl, _, rfl, ?_⟩⟩
      have e : (negL (l.take (i + 1))).map PyData.int = (negL (l.take i)).map PyData.int ++ [.int (-y)] := by
        unfold negL
        rw [List.take_add_one, hy, List.map_append, List.map_append, ← Int.zero_sub y]
        rfl
      rw [e]
      refine z.put hD (Same.refl _) ?_ (.int _)
      have := List.length_take_le' i l
      rw [List.length_map, negL_len]
      omega
    · rw [List.length_map, List.take_length] at z
      obtain ⟨ys, hD', tD⟩ := z.ex
      rw [tpall_inv tD] at hD'
      exact ⟨D, _, rfl, .inl ⟨SqL.of hD', fun r nr => k _ r (z.s.trans (same_new nr)) upd_same⟩⟩
end

/-! ### pieces of tuples -/
theorem cut_nat (xs : List V) (i j : Nat) : cutV xs (some (i : Int)) (some (j : Int)) = (xs.drop i).take (j - i) := by
  unfold cutV
  rw [HT.sIx_nat, HT.sIx_nat]
  by_cases h : i ≤ xs.length
  · rw [Nat.min_eq_left h]
    by_cases h2 : j ≤ xs.length
    · rw [Nat.min_eq_left h2]
    · rw [Nat.min_eq_right (by omega), List.take_of_length_le (by rw [List.length_drop]; omega), List.take_of_length_le (by rw [List.length_drop]; omega)]
  · rw [List.drop_eq_nil_of_le (by omega : xs.length ≤ min i xs.length), List.drop_eq_nil_of_le (by omega : xs.length ≤ i), List.take_nil, List.take_nil]
theorem cut_nat0 (xs : List V) (j : Nat) : cutV xs none (some (j : Int)) = xs.take j := by
  unfold cutV
  rw [HT.sIx_none, HT.sIx_nat, List.drop_zero, Nat.sub_zero]
  by_cases h2 : j ≤ xs.length
  · rw [Nat.min_eq_left h2]
  · rw [Nat.min_eq_right (by omega), List.take_of_length_le (Nat.le_refl _), List.take_of_length_le (by omega)]
section
variable {K : PySem.W.Frag} {H : Hp} {a b : Addr} {xs ys : List V} {Q : VK}
theorem tup_take {m : Nat} (ha : H a = some (.tup xs)) (k : ∀ H' r, Same H H' → H' r = some (.tup (xs.take m)) → Q (.ref r) H') : rSlA K (.ref a) none (some (m : Int)) H Q := by
  refine ⟨a, xs, rfl, SqT.of ha, fun h => ?_, fun _ p hp => ?_⟩
  · rw [HT.sIx_nat] at h
    refine k H a (Same.refl _) ?_
    rw [List.take_of_length_le (by omega)]
    exact ha
  · rw [cut_nat0]
    exact k _ p (same_new hp) upd_same
theorem tup_mid {i j : Nat} (ha : H a = some (.tup xs)) (k : ∀ H' r, Same H H' → H' r = some (.tup ((xs.drop i).take (j - i))) → Q (.ref r) H') : rSlA K (.ref a) (some (i : Int)) (some (j : Int)) H Q := by
  refine ⟨a, xs, rfl, SqT.of ha, fun h => ?_, fun _ p hp => ?_⟩
  · rw [HT.sIx_nat, HT.sIx_nat] at h
    refine k H a (Same.refl _) ?_
    have e : (xs.drop i).take (j - i) = xs := by
      rw [← cut_nat]
      unfold cutV
      rw [HT.sIx_nat, HT.sIx_nat, h.1, h.2, Nat.sub_zero, List.drop_zero, List.take_length]
    rw [e]
    exact ha
  · rw [cut_nat]
    exact k _ p (same_new hp) upd_same
theorem tup_cat (ha : H a = some (.tup xs)) (hb : H b = some (.tup ys)) (small : xs.length + ys.length ≤ sizeLine) (k : ∀ H' r, Same H H' → H' r = some (.tup (xs ++ ys)) → Q (.ref r) H') : rCatA K (.ref a) (.ref b) H Q := by
  refine ⟨a, b, xs, ys, rfl, rfl, SqT.of ha, SqT.of hb, small, fun e => ?_, fun _ e => ?_, fun _ _ p hp => k _ p (same_new hp) upd_same⟩
  · subst e
    exact k H b (Same.refl _) hb
  · subst e
    refine k H a (Same.refl _) ?_
    rw [List.append_nil]
    exact ha
end
section
variable {X : Cx}
theorem sl_tupAK {K : PySem.W.Frag} (h : X.K = K) : SlR X (rSlA K) := h ▸ sl_tupA
theorem op_catAK {K : PySem.W.Frag} (h : X.K = K) : OpR X (binaryOp .Add) (rCatA K) := h ▸ op_catA
end
theorem pg_tupK {X : Cx} {K : PySem.W.Frag} {pos : Pos} {es : List Expr} {k : Nat} {t : TGs} {n : Nat} (hK : X.K = K) (hc : X.calm = true) (h : PGs X es t)
    (hn : (assignEach es X.env).length = n := by rfl) (hst : (assignEach es X.env).findIdx? (·.1) = none := by rfl) : PG X (.Tuple es k pos) (gTup K n t) := hK ▸ pg_tup hc h hn hst
theorem iteFd {p : Prop} [Decidable p] {A B : Prop} (h : ¬ p) (b : B) : if decide p = true then A else B := by
  rw [if_neg fun z => h (of_decide_eq_true z)]
  exact b
theorem iteTd {p : Prop} [Decidable p] {A B : Prop} (h : p) (a : A) : if decide p = true then A else B := by
  rw [if_pos (decide_eq_true h)]
  exact a

/-! ### things -/
inductive Plain (H : Hp) : V → Prop where
  | non : Plain H .non
  | bl (b : Bool) : Plain H (.bl b)
  | int (i : Int) : Plain H (.int i)
  | str (s : Str) : Plain H (.str s)
  | lst {a : Addr} {xs : List V} (h : H a = some (.lst xs)) : Plain H (.ref a)
  | tup {a : Addr} {xs : List V} (h : H a = some (.tup xs)) : Plain H (.ref a)
def isIntV : V → Bool
  | .int _ => true
  | _ => false
def isNumV : V → Bool
  | .int _ => true
  | .bl _ => true
  | _ => false
def isBlV : V → Bool
  | .bl _ => true
  | _ => false
theorem whole_V (x : V) : isIntV x = (isNumV x && !isBlV x) := by cases x <;> rfl
theorem plain_ty {K : PySem.W.Frag} {H : Hp} {x : V} (h : Plain H x) : ∃ s, TyX K H x (.type s) ∧ PySem.W.kitOne K (.type s) (.type "int") = some (isNumV x) ∧ PySem.W.kitOne K (.type s) (.type "bool") = some (isBlV x) := by
  cases h with
  | non => exact ⟨_, .base .non, kit_ty (by decide +kernel), kit_ty (by decide +kernel)⟩
  | bl b => exact ⟨_, .base (.bl b), kit_ty (by show kitB "bool" "int" = some true; decide +kernel), kit_ty (by show kitB "bool" "bool" = some true; decide +kernel)⟩
  | int i => exact ⟨_, .base (.int i), kit_ty (by show kitB "int" "int" = some true; decide +kernel), kit_ty (by show kitB "int" "bool" = some false; decide +kernel)⟩
  | str s => exact ⟨_, .base (.str s), kit_ty (by show kitB "str" "int" = some false; decide +kernel), kit_ty (by show kitB "str" "bool" = some false; decide +kernel)⟩
  | lst e => exact ⟨_, .base (.lst e), kit_ty (by show kitB "list" "int" = some false; decide +kernel), kit_ty (by show kitB "list" "bool" = some false; decide +kernel)⟩
  | tup e => exact ⟨_, .base (.tup e), kit_ty (by show kitB "tuple" "int" = some false; decide +kernel), kit_ty (by show kitB "tuple" "bool" = some false; decide +kernel)⟩
def absI (n : Int) : Int := if n < 0 then -n else n
def markV : V → Bool
  | .int i => decide (1 ≤ absI i) && decide (absI i ≤ 1000000000000)
  | _ => false
theorem int_of {x : V} (h : isIntV x = true) : ∃ i, x = .int i := by
  cases x <;> first | exact ⟨_, rfl⟩ | exact Bool.noConfusion h
theorem mark_no {x : V} (h : isIntV x = false) : markV x = false := by
  cases x <;> first | rfl | exact Bool.noConfusion h

def spWhole : Sp := fun vs H Q _ => ∃ x, vs = [x] ∧ Plain H x ∧ Q (.bl (isIntV x)) H
def spMark : Sp := fun vs H Q _ => ∃ x, vs = [x] ∧ Plain H x ∧ Q (.bl (markV x)) H
section
variable {P : Program} {w : World} {K : PySem.W.Frag} {mg : Str → Option Value} {base : Heap}
theorem has_whole {cs : Nat → Addr} (T : Top K mg cs) : Has P w K mg base 1 "is_whole" ["thing"] spWhole := by
  refine has_of T.d_is_whole sc_is_whole bd_is_whole (fun vs H Q E h => ?_) (fun f cdv A outer s H vs Q E hr h => ?_)
  · obtain ⟨x, rfl, _⟩ := h
    rfl
  · have hu := hu_of hr
    have nd := sc_is_whole.nd
    obtain ⟨x, rfl, hx, k⟩ := h
    refine ⟨_, (pss_one (ps_ret (pe_and (pe_callB call_isi (by rfl) T.b_isinstance (by decide +kernel) (pa_cons (pv 0) (pa_cons (pe_bltn (v := .ty "int") (u := .type "int") (by rfl) T.b_int (by decide +kernel) (by rfl)) pa_nil))) (pe_one (pe_not (pe_callB call_isi (by rfl) T.b_isinstance (by decide +kernel) (pa_cons (pv 0) (pa_cons (pe_bltn (v := .ty "bool") (u := .type "bool") (by rfl) T.b_bool (by decide +kernel) (by rfl)) pa_nil)))))))), ?_⟩
    obtain ⟨s, ty, e1, e2⟩ := plain_ty (K := K) hx
    refine ⟨_, rfl, x, .ty "int", _, _, _, rfl, .ty _, ty, e1, _, rfl, ?_⟩
    rw [whole_V] at k
    cases hb : isNumV x with
    | false =>
      rw [hb] at k
      exact iteF k
    | true =>
      rw [hb] at k
      refine iteT ⟨_, rfl, x, .ty "bool", _, _, _, rfl, .ty _, ty, e2, _, rfl, ?_⟩
      exact k
theorem has_mark {cs : Nat → Addr} (T : Top K mg cs) (h_is_whole : Has P w K mg base 1 "is_whole" ["thing"] spWhole) : Has P w K mg base 2 "is_mark" ["thing"] spMark := by
  refine has_of T.d_is_mark sc_is_mark bd_is_mark (fun vs H Q E h => ?_) (fun f cdv A outer s H vs Q E hr h => ?_)
  · obtain ⟨x, rfl, _⟩ := h
    rfl
  · have hu := hu_of hr
    have nd := sc_is_mark.nd
    obtain ⟨x, rfl, hx, k⟩ := h
    refine ⟨_, (pss_one (ps_ret (pe_and (pe_has h_is_whole (hr.mono (by omega)) (by rfl) (pa_cons (pv 0) pa_nil)) (pe_one (pe_chain op_le op_le pe_int (pe_callB call_abs (by rfl) T.b_abs (by decide +kernel) (pa_cons (pv 0) pa_nil)) (pe_const T.c_GREATEST_NAME (by rfl))))))), ?_⟩
    refine ⟨_, rfl, x, rfl, hx, _, rfl, ?_⟩
    cases hb : isIntV x with
    | false =>
      rw [mark_no hb] at k
      exact iteF k
    | true =>
      obtain ⟨i, rfl⟩ := int_of hb
      refine iteT ⟨_, rfl, i, rfl, _, _, rfl, rfl, _, rfl, ?_⟩
      have k' : Q (.bl (decide (1 ≤ absI i) && decide (absI i ≤ 1000000000000))) H := k
      refine ite2 (fun h1 => ?_) (fun h1 => ?_)
      · have h1' : decide (1 ≤ absI i) = true := h1
        rw [h1'] at k'
        exact ⟨_, _, rfl, rfl, k'⟩
      · have h1' : decide (1 ≤ absI i) = false := Bool.eq_false_iff.mpr h1
        rw [h1'] at k'
        exact k'
end

/-! ### {e for x in ..} whose items are whole numbers -/
/-- the reading: the new set stands at Z; a turn adds one whole number -/
def tScI (w : World) (wi : TI) (g : TG) (te : TE) (own : List Nat) : TE := fun σ H0 Q => wi σ H0 fun J Hb => ∀ Z, Hb Z = none →
  ∃ W : Nat → Nat → Hp → Prop, (∃ m, W 0 m (upd Hb Z (SetO w Z (fun _ => false) 0))) ∧ ∀ i m Hc, W i m Hc →
    (J.stop i Hc ∧ Q (.ref Z) Hc) ∨ (J.go i Hc ∧ ∃ Next : Hp → Prop, (∀ Hd, Next Hd → ∃ m', m' < m ∧ W (i + 1) m' Hd) ∧
      ∀ x Hd, J.yld i Hc x Hd → g x (wipe σ own) Hd fun σ' He => wipe σ' own = wipe σ own ∧ te σ' He fun y Hf =>
        ∃ (k : Int) (S : Int → Bool) (n : Nat), y = .int k ∧ Hf Z = some (SetO w Z S n) ∧ n + 1 < scanBound ∧ Next (upd Hf Z (SetO w Z (fun j => S j || decide (j = k)) (if S k = true then n else n + 1))))
section
variable {X : Cx}
theorem add_at_set {pins : List (Addr × Obj)} {σ : L2.St} {H : Hp} {s : Shared} {E : Value → Shared → Prop} {Z : Addr} {S : Int → Bool} {n : Nat} {k : Int} {u : Value} {Q : Value → Shared → Prop} (I : Inv X pins σ H s)
    (hZ : H Z = some (SetO X.w Z S n)) (few : n + 1 < scanBound) (ru : RelV (.int k) u) (q : ∀ s', Inv X pins σ (upd H Z (SetO X.w Z (fun j => S j || decide (j = k)) (if S k = true then n else n + 1))) s' → Q .none s') :
    wpAny (model X.prog X.w) X.A (call (.builtin "set.add") [.ref Z, u]) Q E s := by
  obtain ⟨t, rfl⟩ := ru
  refine setR_add (setO_get I hZ) few fun h2 same now => ?_
  have there : ∃ o, h2.get? Z = some o := by
    obtain ⟨o, _, _, _, ho, _⟩ := id now
    exact ⟨o, ho⟩
  exact q { s with heap := h2, toks := s.toks + 1 } (I.write (t' := s.toks + 1) (by rw [hZ]; trivial) (.inl rfl) (fun b o hb e => (same.2 b hb).trans e) there (setO_new now))
theorem pe_scI {elt tg iter : Expr} {scope : Scope} {own : List (PySem.Str × Nat)} {pos : Pos} {wi : TI} {g : TG} {te : TE} (hc : X.calm = true) (hN : X.N.Nodup) (hi : PI X tg iter wi) (ok : BlkOk X.N X.env.scope scope own)
    (hg : ∀ (s : Shared) (H : Hp) (C : Addr) (cl : List (PySem.Str × Addr)) (fp : List Addr), PG (X.blk s H scope (compEnvC scope cl C X.env) fp) tg g)
    (he : ∀ (s : Shared) (H : Hp) (C : Addr) (cl : List (PySem.Str × Addr)) (fp : List Addr), PE (X.blk s H scope (compEnvC scope cl C X.env) fp) elt te) (hs : ∀ x, foldedSetIterable iter X.env x = pure x := by intro _; rfl) :
    PE X (.SetComp elt [⟨tg, iter, [], 0⟩] scope pos) (tScI X.w wi g te (own.map (·.2))) := by
  refine ⟨fun pins s σ H Q I rd => ?_⟩
  have caught : ∀ p ∈ scope.names, p.2 = .free → ∃ c, X.env.cells.lookup p.1 = some c := by
    intro p hp e
    exact I.ok.has _ ((ok.free p hp e).elim .inl .inr)
  rw [PpSet.eval_SetComp]
  refine wpAny_comprehension_free (use := none) rfl hs (closure_ok caught) ok.kind (fun p hp e => (ok.uniq p hp).trans (congrArg some e)) ?_
  refine thn (hi.run pins s σ H _ I rd) fun xv sa ha => thn ha fun iv sb hb => ?_
  obtain ⟨it, fp, tn, J, Hb, rfl, Ib, T, tn0, free, q⟩ := hb
  refine PpSet.newSet_ok (newEnv_comp ?_)
  -- the new set's place
  generalize eZ : sb.heap.objs.size = Z
  have noZ : Hb Z = none := Ib.hok.fresh (Nat.le_of_eq eZ)
  obtain ⟨W, ⟨m0, W0⟩, turn⟩ := q Z noZ
  generalize eB : upd Hb Z (SetO X.w Z (fun _ => false) 0) = Hs at W0
  generalize ec : ({ sb with heap := sb.heap.push { cls := .type "set", dict := none, data := .set #[] 0 (.fresh 0 0 (!X.w.params.followText "set-order")) } } : Shared) = sc
  have hsc : sc.heap = sb.heap.push { cls := .type "set", dict := none, data := .set #[] 0 (.fresh 0 0 (!X.w.params.followText "set-order")) } := by
    rw [← ec]
  have Ic : Inv X pins σ Hs sc := by
    rw [← ec, ← eB]
    refine Ib.laid (t' := sb.toks) (fun _ _ e => Heap.get?_push_of_some _ e) (Nat.le_of_eq eZ) ?_
    rw [← eZ]
    exact setO_new (setR_fresh X.w)
  have older : ∀ b ∈ fp, b < Z := by
    intro b hb
    obtain ⟨o, e, _⟩ := T.obj 0 _ tn0 b hb
    exact eZ ▸ Heap.lt_size e
  have free2 : ∀ b ∈ fp, FpOk X pins Hs b ∧ b < sc.heap.objs.size := by
    intro b hb
    have l := older b hb
    refine ⟨⟨?_, (free b hb).2⟩, ?_⟩
    · rw [← eB, upd_ne (Nat.ne_of_lt l)]
      exact (free b hb).1
    · rw [hsc, Heap.size_push, eZ]
      exact Nat.lt_succ_of_lt l
  have tnc : tn 0 sc.heap := T.keep 0 _ _ tn0 fun b _ o e => by
    rw [hsc]
    exact Heap.get?_push_of_some _ e
  have Ie := block_start Ic ok hN free2
  show codeAny _ _ (.compStart (.SetComp elt [⟨tg, iter, [], 0⟩] scope pos) 0 (.ref it) (.ref Z) (compEnvC scope (cellsFrom (sc.heap.objs.size + 1) scope.names (cloFrom X.env.cells scope.names [])) sc.heap.objs.size X.env)) (compPost (model X.prog X.w) X.A X.xe none (EP X pins σ Q) (.ref Z) sc.heap.objs.size) _
  generalize ecl : cellsFrom (sc.heap.objs.size + 1) scope.names (cloFrom X.env.cells scope.names []) = cl at Ie
  have rg := hg sc Hs sc.heap.objs.size cl fp
  have re := he sc Hs sc.heap.objs.size cl fp
  generalize eE : compEnvC scope cl sc.heap.objs.size X.env = env at Ie rg re
  generalize ef : ({ sc with heap := pushCells (sc.heap.push { cls := .type "dict", data := .dict #[] }) scope.names } : Shared) = sf at Ie
  have tnf : tn 0 sf.heap := T.keep 0 _ _ tnc fun b _ o e => by
    rw [← ef]
    exact pushCells_keeps _ _ _ _ (Heap.get?_push_of_some _ e)
  have locE : env.locals = sc.heap.objs.size := by
    rw [← eE]
    rfl
  have held : ∀ {τ : L2.St} {G : Hp} {s' : Shared}, Inv (X.blk sc Hs scope env fp) [] τ G s' → (∀ b ∈ fp, G b = none) → ∀ b ∈ fp, FpOk (X.blk sc Hs scope env fp) [] G b := by
    intro τ G s' J' no b hb
    have x := J'.ok.exf b hb
    exact ⟨no b hb, x.1, J'.ok.exfs b hb, .inl hb, x.2, fun p hp => by cases hp⟩
  refine PpSet.codeAny_compStart_set ?_ (T.self X.A 0 _ _ _ tnf ?_)
  all_goals
    refine PpSet.compLoopS_any (fun m s' => ∃ i G, Inv (X.blk sc Hs scope env fp) [] (wipe σ (own.map (·.2))) G s' ∧ tn i s'.heap ∧ (∀ b ∈ fp, G b = none) ∧ W i m G) ?_ m0 ⟨0, Hs, Ie, tnf, fun b hb => (free2 b hb).1.1, W0⟩
    rintro m s1 ⟨i, G, I1, tn1, no1, w1⟩
    rcases turn i m G w1 with ⟨stop, fin⟩ | ⟨go, Next, less, step⟩
    · refine thnF (T.done (X.blk sc Hs scope env fp) rfl rfl rfl hc i [] s1 _ G (fun _ _ => False) I1 (held I1 no1) tn1 stop) fun r s2 ⟨er, I2⟩ => ?_
      subst er
      have out : Inv X pins σ G s2 := Ic.call' (ch := fp) I2.os I2.base I2.hok I2.bare fun b hb => by
        have z := (free2 b hb).1
        exact ⟨z.2.2.2.1, z.2.1, z.2.2.2.2.1, z.2.2.2.2.2⟩
      have nl : G env.locals = none := I2.free
      obtain ⟨mp, ns, _⟩ := I2.loc
      have ns : s2.heap.Ns env.locals mp := ns
      rw [locE] at nl ns
      have fo := Ic.fpOk (Nat.le_refl _) nl
      exact ⟨mp, ns, fun h3 sb3 => ⟨.ref Z, G, out.turned (t' := s2.toks) (fun b o hb e => (sb3.2 b hb).trans e) fo.1 fo.2.1 fo.2.2.2.1 fo.2.2.2.2.1 fo.2.2.2.2.2, rfl, fin⟩⟩
    · refine thnF (T.item (X.blk sc Hs scope env fp) rfl rfl rfl hc i [] s1 _ G (fun _ _ => False) I1 (held I1 no1) tn1 go) fun r s2 ⟨u, er, h2⟩ => ?_
      subst er
      refine thnF h2 fun _ s3 ⟨x, G3, I3, rx, y3, tn3, no3⟩ => ?_
      refine thnF (rg.run _ s3 _ G3 x u _ (I3.pinned (held I3 no3) (T.obj _ _ tn3)) rx (step x G3 y3)) fun _ s4 ⟨τ, G4, I4, ew, r4⟩ => ?_
      show wpAny _ _ (pure true) _ _ _
      refine wpAny_pure ?_
      show (if true = true then _ else _)
      rw [if_pos rfl]
      refine thnF (re.run _ s4 τ G4 _ I4 r4) fun z s5 ⟨y, G5, I5, rz, k, S, n, ey, hZ, few, nx⟩ => ?_
      subst ey
      refine add_at_set (X := X.blk sc Hs scope env fp) I5 hZ few rz fun s6 I6 => ?_
      obtain ⟨m', lt, w'⟩ := less _ nx
      have kept : ∀ b ∈ fp, ∀ o, s3.heap.get? b = some o → s6.heap.get? b = some o ∧ (upd G5 Z (SetO X.w Z (fun j => S j || decide (j = k)) (if S k = true then n else n + 1))) b = none := by
        intro b hb o e
        have p := I6.pin (b, o) (List.mem_append_right _ (List.mem_append_right _ (mem_pinsAt hb e)))
        exact ⟨p.1, p.2.1⟩
      refine ⟨m', lt, i + 1, _, (I6.unpinned (pins := [])).weak (by rw [← ew, wipe_length]) (fun j v e => ?_), T.keep _ _ _ tn3 fun b hb o e => (kept b hb o e).1, fun b hb => ?_, w'⟩
      · rw [← ew] at e
        exact (wipe_some e).1
      · obtain ⟨o, e, _⟩ := T.obj _ _ tn3 b hb
        exact (kept b hb o e).2
end
/-! ### how many there are in a set -/
theorem call_lenS {X : Cx} : CallR X (.builtin "len") (fun xs H Q => ∃ a S n, xs = [.ref a] ∧ H a = some (SetO X.w a S n) ∧ Q (.int (n : Nat)) H) := by
  intro pins s σ H xs us Q I r h
  obtain ⟨a, S, n, rfl, ha, q⟩ := h
  obtain ⟨u, rfl, ru⟩ := vals1 r
  cases ru
  obtain ⟨o, es, ep, t, ho, hex, hd, _, _, _, hb, hf, hn, _⟩ := setO_get I ha
  have line : scanBound = 4096 := rfl
  exact call_len_set ho hex hd hf (by omega) ⟨.int (n : Nat), H, I.tok _, ⟨_, by rw [hn]⟩, q⟩
def dist (acc : List Int) : List Int → List Int := List.foldl step_dedup acc
theorem dist_le : ∀ (ns acc : List Int), (dist acc ns).length ≤ acc.length + ns.length
  | [], acc => Nat.le_refl _
  | n :: r, acc => by
    show (dist (step_dedup acc n) r).length ≤ acc.length + (r.length + 1)
    have h := dist_le r (step_dedup acc n)
    have h2 : (step_dedup acc n).length ≤ acc.length + 1 := by
      unfold step_dedup
      split
      · omega
      · rw [List.length_append]
        exact Nat.le_refl _
    omega
theorem dist_nodup : ∀ (ns acc : List Int), (dist acc ns).length = acc.length + ns.length ↔ ns.Nodup ∧ ∀ k ∈ ns, k ∉ acc
  | [], acc => by
    constructor
    · intro _
      exact ⟨List.nodup_nil, fun k h => by cases h⟩
    · intro _
      rfl
  | n :: r, acc => by
    show (dist (step_dedup acc n) r).length = acc.length + (r.length + 1) ↔ _
    by_cases hm : n ∈ acc
    · have e : step_dedup acc n = acc := by
        unfold step_dedup
        rw [if_pos (List.any_eq_true.mpr ⟨n, hm, by simp⟩)]
      rw [e]
      have l := dist_le r acc
      constructor
      · intro z
        omega
      · intro z
        exact absurd hm (z.2 n List.mem_cons_self)
    · have e : step_dedup acc n = acc ++ [n] := by
        unfold step_dedup
        rw [if_neg]
        intro z
        obtain ⟨y, hy, ey⟩ := List.any_eq_true.mp z
        exact hm ((beq_iff_eq.mp ey) ▸ hy)
      rw [e]
      have ih := dist_nodup r (acc ++ [n])
      rw [List.length_append] at ih
      have e2 : acc.length + (r.length + 1) = acc.length + [n].length + r.length := by
        show _ = acc.length + 1 + r.length
        omega
      rw [e2, ih, List.nodup_cons]
      constructor
      · rintro ⟨nd, no⟩
        refine ⟨⟨fun z => no n z (List.mem_append_right _ (List.mem_singleton.mpr rfl)), nd⟩, fun k hk => ?_⟩
        rcases List.mem_cons.mp hk with rfl | hk
        · exact hm
        · exact fun z => no k hk (List.mem_append_left _ z)
      · rintro ⟨⟨nm, nd⟩, no⟩
        refine ⟨nd, fun k hk z => ?_⟩
        rcases List.mem_append.mp z with z | z
        · exact no k (List.mem_cons_of_mem _ hk) z
        · exact nm ((List.mem_singleton.mp z) ▸ hk)
/-- how many unlike ones there are -/
def many (ns : List Int) : Nat := (dist [] ns).length
theorem many_nodup (ns : List Int) : many ns = ns.length ↔ ns.Nodup := by
  have h := dist_nodup ns []
  simp only [List.length_nil, Nat.zero_add, List.not_mem_nil, not_false_eq_true, implies_true, and_true] at h
  exact h
theorem first_dist (ns : List Int) : firstMet (fun i => ns.getD i 0) ns.length = dist [] ns := by
  unfold firstMet
  have e : (List.range ns.length).map (fun i => ns.getD i 0) = ns := by
    apply List.ext_getElem?
    intro i
    rw [List.getElem?_map]
    by_cases h : i < ns.length
    · rw [List.getElem?_range h, List.getElem?_eq_getElem h]
      show some (ns.getD i 0) = _
      rw [List.getD_eq_getElem?_getD, List.getElem?_eq_getElem h]
      rfl
    · rw [List.getElem?_eq_none (by rw [List.length_range]; omega), List.getElem?_eq_none (by omega)]
      rfl
  rw [e]
  rfl
theorem ints_are : ∀ {ns : List Int} {us : List Value}, Vals (ns.map V.int) us → IntsAre us ns
  | [], us, h => by
    cases h
    exact .nil
  | n :: r, us, h => by
    cases h with
    | cons a b =>
      obtain ⟨t, rfl⟩ := a
      exact .cons _ _ (ints_are b)
/-- len(set(xs)), xs a list of whole numbers -/
def tLenOf (K : PySem.W.Frag) (ta : TE) : TE := fun σ H Q => ta σ H fun x H1 => ∃ (l : Addr) (ns : List Int), x = .ref l ∧ SqL K H1 l (ns.map V.int) ∧ ns.length ≤ 4000 ∧ Q (.int (many ns : Nat)) H1
theorem pe_lenOf {X : Cx} {a : Expr} {ta : TE} {p p2 q pos : Pos} (hg : Gl X "len") (hm : X.mg "len" = none) (hg2 : Gl X "set") (hm2 : X.mg "set" = none) (ha : PE X a ta) (hc : X.calm = true := by rfl)
    (na : starEach [a] X.env = (false, eval a X.env) :: starEach [] X.env := by rfl) : PE X (.Call (.Name "len" p) [.Call (.Name "set" p2) [a] [] q] [] pos) (tLenOf X.K ta) := by
  refine ⟨fun pins s σ H Q I rd => Call_ (ld_blt I hg hm boot_len (callWith_builtin1 (args_cons ?_ rfl) rfl rfl))⟩
  refine Call_ (ld_blt I hg2 hm2 boot_set (callWith_type1 (args_cons (thn (ha.run pins s σ H _ I rd) fun v sa ⟨x, Ha, Ia, rx, rest⟩ => args_nil ?_) na) na rfl))
  obtain ⟨l, ns, rfl, at_l, few, rest⟩ := rest
  cases rx
  obtain ⟨its, vs, pl, _⟩ := Ia.list at_l
  have size : its.toArray.size = ns.length := by
    rw [List.size_toArray, ← vs.length, List.length_map]
  have line : scanBound = 4096 := rfl
  refine call_set_list (Ia.ok.hd hc) pl.isList (by simpa using ints_are vs) (by omega) fun h2 tk made kept => args_nil ?_
  rw [size, first_dist] at made
  obtain ⟨o, es, ep, t, ho, hex, hd, _, _, _, hf, hn⟩ := made
  have Ib : Inv X pins σ Ha { sa with heap := h2, toks := tk } := Ia.kept fun b o e => kept b o (Heap.lt_size e) e
  have le := dist_le ns []
  exact call_len_set ho hex hd hf (by rw [hn]; simp only [List.length_nil] at le; omega) ⟨.int (many ns : Nat), Ha, Ib.tok _, ⟨_, by rw [hn]; rfl⟩, rest⟩
/-- the set of f's numbers over a tuple: how many there are is told, whether as many as items -/
theorem scI_tup {w : World} {K : PySem.W.Frag} {a : Addr} {xs : List V} {te : TE} {vs : List Nat} {σ : L2.St} {H : Hp} {Z : Addr} {Qd : Hp → Prop} {j : Nat} (f : V → Int) (hx : SqT K H a xs) (hZ : H Z = none) (hz : xs.length ≤ 4000)
    (hs : ∀ x ∈ xs, SelT H σ vs j tYes te x true (.int (f x))) (k : ∀ H' S n, Same H H' → H' Z = some (SetO w Z S n) → (n = xs.length ↔ (xs.map f).Nodup) → (∀ i, S i = true ↔ i ∈ xs.map f) → Qd H') :
    ∃ W : Nat → Nat → Hp → Prop, (∃ m, W 0 m (upd H Z (SetO w Z (fun _ => false) 0))) ∧ ∀ i m Hc, W i m Hc →
    ((Itt K a).stop i Hc ∧ Qd Hc) ∨ ((Itt K a).go i Hc ∧ ∃ Next : Hp → Prop, (∀ Hd, Next Hd → ∃ m', m' < m ∧ W (i + 1) m' Hd) ∧
      ∀ x Hd, (Itt K a).yld i Hc x Hd → gName j x (wipe σ vs) Hd fun σ' He => wipe σ' vs = wipe σ vs ∧ te σ' He fun y Hf =>
        ∃ (k : Int) (S : Int → Bool) (n : Nat), y = .int k ∧ Hf Z = some (SetO w Z S n) ∧ n + 1 < scanBound ∧ Next (upd Hf Z (SetO w Z (fun j => S j || decide (j = k)) (if S k = true then n else n + 1)))) := by
  have line : scanBound = 4096 := rfl
  refine ⟨fun i m Hc => m = xs.length - i ∧ i ≤ xs.length ∧ Same H Hc ∧ ∃ S n, Hc Z = some (SetO w Z S n) ∧ n ≤ i ∧ (n = i ↔ ((xs.take i).map f).Nodup) ∧ ∀ v, S v = true ↔ v ∈ (xs.take i).map f,
    ⟨xs.length, rfl, Nat.zero_le _, same_new hZ, _, 0, upd_same, Nat.le_refl _, by simp, by simp⟩, ?_⟩
  rintro i m Hc ⟨rfl, hi, sm, S, n, hS, le, iff, mem⟩
  have at_a := Same.seqT sm hx
  by_cases lt : i < xs.length
  · refine .inr ⟨⟨xs, xs[i], at_a, List.getElem?_eq_getElem lt⟩, fun Hd => Same H Hd ∧ ∃ S n, Hd Z = some (SetO w Z S n) ∧ n ≤ i + 1 ∧ (n = i + 1 ↔ ((xs.take (i + 1)).map f).Nodup) ∧ ∀ v, S v = true ↔ v ∈ (xs.take (i + 1)).map f,
      fun Hd h => ⟨xs.length - (i + 1), by omega, rfl, lt, h⟩, ?_⟩
    rintro x Hd ⟨rfl, hy⟩
    have gx := hy xs at_a
    have ex := Option.some.inj ((List.getElem?_eq_getElem lt).symm.trans gx)
    have s := hs x (List.mem_of_getElem? gx)
    refine ⟨s.wip, s.elt rfl Hd sm _ fun He se => ⟨f x, S, n, rfl, se Z _ hS, by omega, fun b o e => ?_, _, _, upd_same, ?_, ?_, fun v => ?_⟩⟩
    · rw [upd_ne (ne_of_none e hZ)]
      exact se b o (sm b o e)
    · split <;> omega
    · have et : xs.take (i + 1) = xs.take i ++ [x] := by
        rw [List.take_add_one, gx]
        rfl
      rw [et, List.map_append, List.nodup_append]
      have hm := mem (f x)
      constructor
      · intro h
        by_cases c : S (f x) = true
        · rw [if_pos c] at h
          omega
        · rw [if_neg c] at h
          refine ⟨iff.mp (by omega), by simp, fun p hp q hq => ?_⟩
          have eq : q = f x := by simpa using hq
          rw [eq]
          intro e
          rw [e] at hp
          exact c (hm.mpr hp)
      · rintro ⟨h1, _, h3⟩
        have c : ¬ S (f x) = true := fun c => h3 _ (hm.mp c) _ (by simp) rfl
        rw [if_neg c, iff.mpr h1]
    · have et : xs.take (i + 1) = xs.take i ++ [x] := by
        rw [List.take_add_one, gx]
        rfl
      rw [et, List.map_append, List.mem_append, Bool.or_eq_true, decide_eq_true_eq, mem v]
      simp
  · have e : i = xs.length := by omega
    subst e
    rw [List.take_length] at iff mem
    exact .inl ⟨⟨xs, at_a, Nat.le_refl _⟩, k Hc S n sm hS iff mem⟩

/-- the set of f's numbers over a list: how many there are is told, whether as many as items -/
theorem scI_list {w : World} {K : PySem.W.Frag} {a : Addr} {xs : List V} {te : TE} {vs : List Nat} {σ : L2.St} {H : Hp} {Z : Addr} {Qd : Hp → Prop} {j : Nat} (f : V → Int) (hx : SqL K H a xs) (hZ : H Z = none) (hz : xs.length ≤ 4000)
    (hs : ∀ x ∈ xs, SelT H σ vs j tYes te x true (.int (f x))) (k : ∀ H' S n, Same H H' → H' Z = some (SetO w Z S n) → (n = xs.length ↔ (xs.map f).Nodup) → (∀ i, S i = true ↔ i ∈ xs.map f) → Qd H') :
    ∃ W : Nat → Nat → Hp → Prop, (∃ m, W 0 m (upd H Z (SetO w Z (fun _ => false) 0))) ∧ ∀ i m Hc, W i m Hc →
    ((Itl K a).stop i Hc ∧ Qd Hc) ∨ ((Itl K a).go i Hc ∧ ∃ Next : Hp → Prop, (∀ Hd, Next Hd → ∃ m', m' < m ∧ W (i + 1) m' Hd) ∧
      ∀ x Hd, (Itl K a).yld i Hc x Hd → gName j x (wipe σ vs) Hd fun σ' He => wipe σ' vs = wipe σ vs ∧ te σ' He fun y Hf =>
        ∃ (k : Int) (S : Int → Bool) (n : Nat), y = .int k ∧ Hf Z = some (SetO w Z S n) ∧ n + 1 < scanBound ∧ Next (upd Hf Z (SetO w Z (fun j => S j || decide (j = k)) (if S k = true then n else n + 1)))) := by
  have line : scanBound = 4096 := rfl
  refine ⟨fun i m Hc => m = xs.length - i ∧ i ≤ xs.length ∧ Same H Hc ∧ ∃ S n, Hc Z = some (SetO w Z S n) ∧ n ≤ i ∧ (n = i ↔ ((xs.take i).map f).Nodup) ∧ ∀ v, S v = true ↔ v ∈ (xs.take i).map f,
    ⟨xs.length, rfl, Nat.zero_le _, same_new hZ, _, 0, upd_same, Nat.le_refl _, by simp, by simp⟩, ?_⟩
  rintro i m Hc ⟨rfl, hi, sm, S, n, hS, le, iff, mem⟩
  have at_a := Same.seq sm hx
  by_cases lt : i < xs.length
  · refine .inr ⟨⟨xs, xs[i], at_a, List.getElem?_eq_getElem lt⟩, fun Hd => Same H Hd ∧ ∃ S n, Hd Z = some (SetO w Z S n) ∧ n ≤ i + 1 ∧ (n = i + 1 ↔ ((xs.take (i + 1)).map f).Nodup) ∧ ∀ v, S v = true ↔ v ∈ (xs.take (i + 1)).map f,
      fun Hd h => ⟨xs.length - (i + 1), by omega, rfl, lt, h⟩, ?_⟩
    rintro x Hd ⟨rfl, hy⟩
    have gx := hy xs at_a
    have ex := Option.some.inj ((List.getElem?_eq_getElem lt).symm.trans gx)
    have s := hs x (List.mem_of_getElem? gx)
    refine ⟨s.wip, s.elt rfl Hd sm _ fun He se => ⟨f x, S, n, rfl, se Z _ hS, by omega, fun b o e => ?_, _, _, upd_same, ?_, ?_, fun v => ?_⟩⟩
    · rw [upd_ne (ne_of_none e hZ)]
      exact se b o (sm b o e)
    · split <;> omega
    · have et : xs.take (i + 1) = xs.take i ++ [x] := by
        rw [List.take_add_one, gx]
        rfl
      rw [et, List.map_append, List.nodup_append]
      have hm := mem (f x)
      constructor
      · intro h
        by_cases c : S (f x) = true
        · rw [if_pos c] at h
          omega
        · rw [if_neg c] at h
          refine ⟨iff.mp (by omega), by simp, fun p hp q hq => ?_⟩
          have eq : q = f x := by simpa using hq
          rw [eq]
          intro e
          rw [e] at hp
          exact c (hm.mpr hp)
      · rintro ⟨h1, _, h3⟩
        have c : ¬ S (f x) = true := fun c => h3 _ (hm.mp c) _ (by simp) rfl
        rw [if_neg c, iff.mpr h1]
    · have et : xs.take (i + 1) = xs.take i ++ [x] := by
        rw [List.take_add_one, gx]
        rfl
      rw [et, List.map_append, List.mem_append, Bool.or_eq_true, decide_eq_true_eq, mem v]
      simp
  · have e : i = xs.length := by omega
    subst e
    rw [List.take_length] at iff mem
    exact .inl ⟨⟨xs, at_a, Nat.le_refl _⟩, k Hc S n sm hS iff mem⟩

/-! ### marks handed in: whether they are well made, the greatest name, the first new name -/
def absL (l : List Int) : List Int := l.map absI
/-- whether they are marks: 1 to 60 of unlike names up to 10 ** 9 -/
def wellM (l : List Int) : Bool := decide (1 ≤ l.length ∧ l.length ≤ 60) && (l.all (fun x => decide (1 ≤ absI x) && decide (absI x ≤ 1000000000)) && decide ((absL l).Nodup))
def spAreM (K : PySem.W.Frag) : Sp := fun vs H Q _ => ∃ (a : Addr) (l : List Int), vs = [.ref a] ∧ SqL K H a (l.map V.int) ∧ l.length ≤ 1000 ∧ ∀ H', Same H H' → Q (.bl (wellM l)) H'
/-- m is the greatest name -/
def Top1 (l : List Int) (m : Int) : Prop := m ∈ absL l ∧ ∀ y ∈ absL l, y ≤ m
def spGreat (K : PySem.W.Frag) : Sp := fun vs H Q _ => ∃ (a : Addr) (l : List Int), vs = [.ref a] ∧ SqL K H a (l.map V.int) ∧ 1 ≤ l.length ∧ l.length ≤ 1000 ∧ ∀ H' m, Same H H' → Top1 l m → Q (.int m) H'
theorem abs_le9 {l : List Int} (h : wellM l = true) : ∀ y ∈ absL l, 1 ≤ y ∧ y ≤ 1000000000 := fun y hy => by
  obtain ⟨x, hx, rfl⟩ := List.mem_map.mp hy
  unfold wellM at h
  rw [Bool.and_eq_true, Bool.and_eq_true, List.all_eq_true] at h
  have := h.2.1 x hx
  rw [Bool.and_eq_true, decide_eq_true_eq, decide_eq_true_eq] at this
  exact this
theorem wellM_len {l : List Int} (h : wellM l = true) : 1 ≤ l.length ∧ l.length ≤ 60 := by
  unfold wellM at h
  rw [Bool.and_eq_true, decide_eq_true_eq] at h
  exact h.1
def absOf1 : V → Int
  | .int i => absI i
  | _ => 0
section
variable {P : Program} {w : World} {K : PySem.W.Frag} {mg : Str → Option Value} {base : Heap}
theorem has_areM {cs : Nat → Addr} (T : Top K mg cs) (h_is_mark : Has P w K mg base 2 "is_mark" ["thing"] spMark) : Has P w K mg base 3 "are_marks" ["marks"] (spAreM K) := by
  refine has_of T.d_are_marks sc_are_marks bd_are_marks (fun vs H Q E h => ?_) (fun f cdv A outer s H vs Q E hr h => ?_)
  · obtain ⟨a, l, rfl, _⟩ := h
    rfl
  · have hu := hu_of hr
    have nd := sc_are_marks.nd
    obtain ⟨a, l, rfl, ha, few, k⟩ := h
    refine ⟨_, (pss_cons (ps_if (pt_not (pt_chain op_le op_le pe_int (pe_callB call_len_seq (by rfl) T.b_len (by decide +kernel) (pa_cons (pv 0) pa_nil)) (pe_const T.c_MOST_HANDED (by rfl)))) (pss_one (ps_ret pe_bl)) pss_nil)
    (pss_cons (ps_if (pt_not (pt_val (pe_callB (cr_all rfl) (by rfl) T.b_all (by decide +kernel) (pa_cons (pe_lc (own := [("mark", 1)]) (by rfl) nd (pi_list (pv 0)) (blkOk_by (own := [("mark", 1)]) (N := nm_are_marks) (sc := defScope s_are_marks) (by decide +kernel)) (fun _ _ _ _ _ => pg_name (i := 1) nd rfl (.inl rfl)) (fun _ _ _ _ _ => pts_nil) (fun _ _ _ _ _ => (pe_and (pe_has h_is_mark (hr.mono (by omega)) (by rfl) (pa_cons (pv 1) pa_nil)) (pe_one (pe_cmpR op_le (pe_callB call_abs (by rfl) T.b_abs (by decide +kernel) (pa_cons (pv 1) pa_nil)) (pe_const T.c_GREATEST_HANDED (by rfl)) (nomark _)))))) pa_nil)))) (pss_one (ps_ret pe_bl)) pss_nil)
    (pss_one (ps_ret (pe_cmpR op_eq (pe_callB call_lenS (by rfl) T.b_len (by decide +kernel) (pa_cons (pe_scI (own := [("mark", 1)]) (by rfl) nd (pi_list (pv 0)) (blkOk_by (own := [("mark", 1)]) (N := nm_are_marks) (sc := defScope s_are_marks) (by decide +kernel)) (fun _ _ _ _ _ => pg_name (i := 1) nd rfl (.inl rfl)) (fun _ _ _ _ _ => (pe_callB call_abs (by rfl) T.b_abs (by decide +kernel) (pa_cons (pv 1) pa_nil)))) pa_nil)) (pe_callB call_len_seq (by rfl) T.b_len (by decide +kernel) (pa_cons (pv 0) pa_nil)) (nomark _)))))), ?_⟩
    refine ⟨_, rfl, a, l.map V.int, rfl, .inl ha, _, _, rfl, rfl, _, rfl, ?_⟩
    have hl : ((l.map V.int).length : Int) = (l.length : Int) := by rw [List.length_map]
    -- where it is not well made by its length
    have out : ¬ (1 ≤ l.length ∧ l.length ≤ 60) → Q (.bl false) H := fun z => by
      have e : wellM l = false := by
        unfold wellM
        rw [decide_eq_false z, Bool.false_and]
      have k' := k H (Same.refl H)
      rw [e] at k'
      exact k'
    refine ite2 (fun c1 => ?_) (fun c1 => ?_)
    · have d1 : 1 ≤ l.length := by
        have := of_decide_eq_true c1
        omega
      refine ⟨_, _, rfl, rfl, _, rfl, ite2 (fun c2 => ?_) (fun c2 => ?_)⟩
      · refine out fun z => ?_
        have c2 : (!decide (((l.map V.int).length : Int) ≤ 60)) = true := c2
        rw [hl, decide_eq_true (by omega)] at c2
        cases c2
      · have d2 : l.length ≤ 60 := by
          have c2 : ¬ (!decide (((l.map V.int).length : Int) ≤ 60)) = true := c2
          rw [hl] at c2
          by_cases z : (l.length : Int) ≤ 60
          · omega
          · rw [decide_eq_false z] at c2
            exact absurd rfl c2
        refine ⟨_, rfl, a, rfl, ⟨_, ha⟩, fun D hD => lc_sel_list (fun _ => true) (fun x => .bl (decide (1 ≤ absOf1 x) && decide (absOf1 x ≤ 1000000000))) ha hD (by rw [List.length_map]; omega) (fun x hm => ?_) fun H1 s1 h1 => ?_⟩
        · obtain ⟨y, _, rfl⟩ := List.mem_map.mp hm
          refine ⟨rfl, fun H' s' R q => q H' (Same.refl _), fun _ H' s' R q => ⟨_, rfl, .int y, rfl, .int y, _, rfl, ?_⟩⟩
          have q1 := q H' (Same.refl _)
          have q2 : R (.bl (decide (1 ≤ absI y) && decide (absI y ≤ 1000000000))) H' := q1
          refine ite2 (fun m1 => ?_) (fun m1 => ?_)
          · have m1 : (decide (1 ≤ absI y) && decide (absI y ≤ 1000000000000)) = true := m1
            rw [Bool.and_eq_true] at m1
            rw [m1.1, Bool.true_and] at q2
            exact ⟨_, rfl, y, rfl, _, _, rfl, rfl, q2⟩
          · have m1 : ¬ (decide (1 ≤ absI y) && decide (absI y ≤ 1000000000000)) = true := m1
            have e : (decide (1 ≤ absI y) && decide (absI y ≤ 1000000000)) = false := by
              refine Bool.eq_false_iff.mpr fun z => m1 ?_
              rw [Bool.and_eq_true, decide_eq_true_eq, decide_eq_true_eq] at z ⊢
              exact ⟨z.1, by omega⟩
            rw [e] at q2
            exact q2
        · have eb : ((l.map V.int).filter (fun _ => true)).map (fun x => V.bl (decide (1 ≤ absOf1 x) && decide (absOf1 x ≤ 1000000000))) = (l.map fun x => decide (1 ≤ absI x) && decide (absI x ≤ 1000000000)).map V.bl := by
            rw [filter_all, List.map_map, List.map_map]
            rfl
          rw [eb] at h1
          refine ⟨D, _, rfl, SqL.of h1, _, rfl, ?_⟩
          have ea : ((l.map fun x => decide (1 ≤ absI x) && decide (absI x ≤ 1000000000)).all id) = l.all fun x => decide (1 ≤ absI x) && decide (absI x ≤ 1000000000) := by
            rw [List.all_map]
            rfl
          rw [ea]
          have ew : wellM l = ((l.all fun x => decide (1 ≤ absI x) && decide (absI x ≤ 1000000000)) && decide ((absL l).Nodup)) := by
            unfold wellM
            rw [decide_eq_true (show 1 ≤ l.length ∧ l.length ≤ 60 from ⟨d1, d2⟩), Bool.true_and]
          rw [ew] at k
          cases hm : (l.all fun x => decide (1 ≤ absI x) && decide (absI x ≤ 1000000000)) with
          | false =>
            rw [hm] at k
            exact iteT (k H1 s1)
          | true =>
            rw [hm, Bool.true_and] at k
            have ha1 : SqL K H1 a (l.map V.int) := s1.seq ha
            refine iteF ⟨_, rfl, a, rfl, ⟨_, ha1⟩, fun Z hZ => scI_list absOf1 ha1 hZ (by rw [List.length_map]; omega) (fun x hx2 => ?_) fun H2 S n s2 h2 iff _ => ?_⟩
            · obtain ⟨i, _, rfl⟩ := List.mem_map.mp hx2
              exact ⟨rfl, fun H' s' R q => q H' (Same.refl _), fun _ H' s' R q => ⟨_, rfl, i, rfl, q H' (Same.refl _)⟩⟩
            · refine ⟨Z, S, n, rfl, h2, _, rfl, a, _, rfl, .inl (s2.seq ha1), rfl, ?_⟩
              have em : (l.map V.int).map absOf1 = absL l := by
                rw [List.map_map]
                rfl
              rw [em] at iff
              have ed : decide (V.int (n : Nat) = V.int ((l.map V.int).length : Nat)) = decide ((absL l).Nodup) := by
                by_cases c : n = (l.map V.int).length
                · rw [decide_eq_true (iff.mp c), decide_eq_true]
                  rw [c]
                · rw [decide_eq_false fun z => c (iff.mpr z), decide_eq_false]
                  intro z
                  exact c (Int.ofNat.inj (V.int.inj z))
              rw [ed]
              exact k H2 (s1.trans s2)
    · refine ⟨_, rfl, iteT ?_⟩
      refine out fun z => c1 (decide_eq_true ?_)
      omega
theorem has_great {cs : Nat → Addr} (T : Top K mg cs) : Has P w K mg base 1 "greatest_name" ["marks"] (spGreat K) := by
  refine has_of T.d_greatest_name sc_greatest_name bd_greatest_name (fun vs H Q E h => ?_) (fun f cdv A outer s H vs Q E hr h => ?_)
  · obtain ⟨a, l, rfl, _⟩ := h
    rfl
  · have hu := hu_of hr
    have nd := sc_greatest_name.nd
    obtain ⟨a, l, rfl, ha, one, few, k⟩ := h
    refine ⟨_, (pss_one (ps_ret (pe_callB (cr_max rfl) (by rfl) T.b_max (by decide +kernel) (pa_cons (pe_lc (own := [("mark", 1)]) (by rfl) nd (pi_list (pv 0)) (blkOk_by (own := [("mark", 1)]) (N := nm_greatest_name) (sc := defScope s_greatest_name) (by decide +kernel)) (fun _ _ _ _ _ => pg_name (i := 1) nd rfl (.inl rfl)) (fun _ _ _ _ _ => pts_nil) (fun _ _ _ _ _ => (pe_callB call_abs (by rfl) T.b_abs (by decide +kernel) (pa_cons (pv 1) pa_nil)))) pa_nil)))), ?_⟩
    refine ⟨_, rfl, a, rfl, ⟨_, ha⟩, fun D hD => lc_sel_list (fun _ => true) (fun x => .int (absOf1 x)) ha hD (by rw [List.length_map]; omega) (fun x hm => ?_) fun H1 s1 h1 => ?_⟩
    · obtain ⟨y, _, rfl⟩ := List.mem_map.mp hm
      exact ⟨rfl, fun H' s' R q => q H' (Same.refl _), fun _ H' s' R q => ⟨_, rfl, y, rfl, q H' (Same.refl _)⟩⟩
    · have eb : ((l.map V.int).filter (fun _ => true)).map (fun x => V.int (absOf1 x)) = (absL l).map V.int := by
        unfold absL
        rw [filter_all, List.map_map, List.map_map]
        rfl
      rw [eb] at h1
      exact ⟨D, absL l, rfl, SqL.of h1, by unfold absL; rw [List.length_map]; omega, fun m hm top => k H1 m s1 ⟨hm, top⟩⟩
/-- the first new name: above all marks, or what is handed in -/
def NewF (fresh : V) (m n : Int) : Prop := (fresh = .non ∧ n = m + 1) ∨ (fresh = .int n ∧ m + 1 ≤ n)
def spFirst (K : PySem.W.Frag) (CF : Addr) : Sp := fun vs H Q E => ∃ (a : Addr) (l : List Int) (fresh : V), vs = [.ref a, fresh] ∧ SqL K H a (l.map V.int) ∧ 1 ≤ l.length ∧ l.length ≤ 1000 ∧ (fresh = .non ∨ ∃ n : Int, fresh = .int n) ∧ (∀ x ∈ l, absI x ≤ 1000000000) ∧
  ∀ H' m, Same H H' → Top1 l m → (∀ n : Int, NewF fresh m n → Q (.int n) H') ∧
    (∀ n : Int, fresh = .int n → n < m + 1 → ∀ (H'' : Hp) (d : Addr), Same H H'' → H d = none → H'' d = some (.xd [("lowest", .int (m + 1))]) → E (.ref CF) (some d) H'')
theorem has_first {C : Addr} {cs : Nat → Addr} (T : Top K mg cs) (h_NoFresh : HasC P w K mg base C "NoFresh" ["self", "lowest"] (spI1 C "lowest")) (h_greatest_name : Has P w K mg base 1 "greatest_name" ["marks"] (spGreat K)) : HasX P w K mg base 3 "first_new" ["marks", "fresh"] (spFirst K C) := by
  refine has_ofX T.d_first_new sc_first_new bd_first_new (fun vs H Q E h => ?_) (fun f cdv A outer s H vs Q E hr h => ?_)
  · obtain ⟨a, l, fresh, rfl, _⟩ := h
    rfl
  · have hu := hu_of hr
    have nd := sc_first_new.nd
    obtain ⟨a, l, fresh, rfl, ha, one, few, hf, low, k⟩ := h
    refine ⟨_, (pss_cons (ps_set (i := 2) nd rfl (.inl rfl) (pe_op op_add (pe_has h_greatest_name (hr.mono (by omega)) (by rfl) (pa_cons (pv 0) pa_nil)) pe_int))
    (pss_cons (ps_if (pt_cmpR op_isN (pv 1) pe_non (nomark _)) (pss_one (ps_ret (pv 2))) pss_nil)
    (pss_cons (ps_if (pt_cmpR op_lt (pv 1) (pv 2) (nomark _)) (pss_one (ps_raise rfl (takes_of rfl rfl rfl rfl) (pmk_hasC h_NoFresh (hr.mono (by omega)) (by rfl) (pa_cons (pv 2) pa_nil)))) pss_nil)
    (pss_one (ps_ret (pv 1)))))), ?_⟩
    refine ⟨_, rfl, a, l, rfl, ha, one, few, fun H1 m s1 top => ?_⟩
    obtain ⟨k1, k3⟩ := k H1 m s1 top
    have m9 : 0 ≤ m ∧ m ≤ 1000000000 := by
      obtain ⟨x, hx, rfl⟩ := List.mem_map.mp top.1
      refine ⟨?_, low x hx⟩
      unfold absI
      split <;> omega
    refine ⟨_, _, rfl, rfl, ?_⟩
    rcases hf with rfl | ⟨n, rfl⟩
    · refine ⟨_, rfl, rfl, _, rfl, iteTd rfl ⟨_, rfl, k1 _ (.inl ⟨rfl, rfl⟩)⟩⟩
    · refine ⟨_, rfl, rfl, _, rfl, iteFd (by intro z; cases z) ?_⟩
      refine ⟨_, rfl, _, rfl, n, m + 1, rfl, rfl, _, rfl, ite2 (fun c => ?_) (fun c => ?_)⟩
      · have c1 : n < m + 1 := of_decide_eq_true c
        refine ⟨_, rfl, by show 1 ≤ 1000; decide, fun b nb => ⟨b, _, rfl, .int _ (by omega) (by omega), upd_same, fun dx ndx ne => ⟨rfl, .inr ⟨dx, [("lowest", .int (m + 1))], upd_same, ?_, ?_, ?_⟩⟩⟩⟩
        · rw [upd_ne ne, upd_same]
        · rwa [upd_ne ne] at ndx
        · rw [upd_ne ne] at ndx
          have nH : ∀ {c : Addr}, H1 c = none → H c = none := fun {c} e => by
            cases z : H c with
            | none => rfl
            | some o =>
              rw [s1 _ _ z] at e
              cases e
          refine k3 n rfl c1 _ dx (fun c o e => ?_) (nH ndx) upd_same
          have cd : c ≠ dx := ne_of_none e (nH ndx)
          have cb : c ≠ b := ne_of_none e (nH nb)
          rw [upd_ne cd, del_ne cb, upd_ne cb, upd_ne cd, upd_ne cb]
          exact s1 _ _ e
      · have c1 : ¬ n < m + 1 := fun z => c (decide_eq_true z)
        exact ⟨_, rfl, k1 n (.inr ⟨rfl, by omega⟩)⟩
end

/-! ### adding bit by bit, as plain functions -/
/-- the new names, each with its tuples, and the clauses -/
structure Adds where
  ns : List (Int × List (List Int))
  cs : List (List Int)
def sumT : List Int → List (List Int) × List (List Int)
  | [a, b] => ([[a, -b], [-a, b]], [[-a, -b], [a, b]])
  | [a, b, c] => ([[a, -b, -c], [-a, b, -c], [-a, -b, c], [a, b, c]], [[-a, -b, -c], [a, b, -c], [a, -b, c], [-a, b, c]])
  | _ => ([], [])
def carT : List Int → List (List Int) × List (List Int)
  | [a, b] => ([[a, b]], [[-a], [-b]])
  | [a, b, c] => ([[a, b], [a, c], [b, c]], [[a, b], [a, c], [b, c]].map negL)
  | _ => ([], [])
/-- a name more -/
def Adds.name (f : Int) (st : Adds) (t : List (List Int) × List (List Int)) : Adds × Int :=
  (⟨st.ns ++ [(f + (st.ns.length : Nat), t.1)], st.cs ++ t.1.map (fun m => negL m ++ [f + (st.ns.length : Nat)]) ++ t.2.map (fun m => negL m ++ [-(f + (st.ns.length : Nat))])⟩, f + (st.ns.length : Nat))
/-- what stands within a column: what is named, the column, what is carried -/
structure Colm where
  st : Adds
  col : List Int
  car : List Int
def Colm.step (f : Int) (z : Colm) : Colm :=
  let s := z.st.name f (sumT (z.col.take 3))
  let c := s.1.name f (carT (z.col.take 3))
  ⟨c.1, z.col.drop 3 ++ [s.2], z.car ++ [c.2]⟩
def Colm.run (f : Int) : Nat → Colm → Colm
  | 0, z => z
  | n + 1, z => if 1 < z.col.length then Colm.run f n (z.step f) else z
theorem Colm.run_end {f : Int} {n : Nat} {z : Colm} (h : ¬ 1 < z.col.length) : z.run f n = z := by
  cases n with
  | zero => rfl
  | succ n => exact if_neg h
theorem Colm.step_col {f : Int} {z : Colm} (h : 1 < z.col.length) : (z.step f).col.length + 1 ≤ z.col.length ∧ 1 ≤ (z.step f).col.length := by
  show (z.col.drop 3 ++ [_]).length + 1 ≤ _ ∧ 1 ≤ (z.col.drop 3 ++ [_]).length
  rw [List.length_append, List.length_drop, List.length_singleton]
  omega
/-- more turns than the column is long change nothing -/
theorem Colm.run_more {f : Int} : ∀ {n m : Nat} {z : Colm}, z.col.length ≤ n → z.col.length ≤ m → z.run f n = z.run f m
  | 0, m, z, h, _ => by
    rw [Colm.run_end (n := m) (by omega)]
    rfl
  | n + 1, 0, z, _, h => by
    rw [Colm.run_end (n := n + 1) (by omega)]
    rfl
  | n + 1, m + 1, z, h1, h2 => by
    by_cases c : 1 < z.col.length
    · have s := (Colm.step_col (f := f) c).1
      show (if 1 < z.col.length then _ else _) = if 1 < z.col.length then _ else _
      rw [if_pos c, if_pos c]
      exact Colm.run_more (by omega) (by omega)
    · rw [Colm.run_end c, Colm.run_end c]
theorem Colm.run_step {f : Int} {z : Colm} {n : Nat} (c : 1 < z.col.length) (h : z.col.length ≤ n) : z.run f n = (z.step f).run f n := by
  have s := (Colm.step_col (f := f) c).1
  cases n with
  | zero => omega
  | succ n =>
    have e : z.run f (n + 1) = (z.step f).run f n := if_pos c
    rw [e]
    exact Colm.run_more (by omega) (by omega)
/-- the columns: what is named, the bits, the column that is next -/
structure Addg where
  st : Adds
  bits : List Int
  col : List Int
/-- a column summed up: its sum, and what is carried -/
def Addg.colm (f : Int) (z : Addg) : Colm := Colm.run f z.col.length ⟨z.st, z.col, []⟩
def Addg.step (f : Int) (z : Addg) : Addg := ⟨(z.colm f).st, z.bits ++ [(z.colm f).col.headD 0], (z.colm f).car⟩
def Addg.run (f : Int) : Nat → Addg → Addg
  | 0, z => z
  | n + 1, z => if z.col = [] then z else Addg.run f n (z.step f)
/-- how much has come to be, within a column -/
structure ColB (z0 : Addg) (z : Colm) : Prop where
  n : z.st.ns.length + 2 * z.col.length ≤ z0.st.ns.length + 2 * z0.col.length
  c : z.car.length + z.col.length ≤ z0.col.length
  w : z.st.cs.length ≤ 8 * z.st.ns.length
  l : 1 ≤ z.col.length
theorem take3 {l : List Int} (h : 1 < l.length) : (∃ a b, l.take 3 = [a, b]) ∨ ∃ a b c, l.take 3 = [a, b, c] := by
  match l, h with
  | [a, b], _ => exact .inl ⟨a, b, rfl⟩
  | a :: b :: c :: r, _ => exact .inr ⟨a, b, c, rfl⟩
theorem sumT_few (l : List Int) : (sumT l).1.length + (sumT l).2.length ≤ 8 := by
  unfold sumT
  split
  · exact Nat.le_of_ble_eq_true rfl
  · exact Nat.le_refl 8
  · exact Nat.zero_le _
theorem carT_few (l : List Int) : (carT l).1.length + (carT l).2.length ≤ 8 := by
  unfold carT
  split
  · exact Nat.le_of_ble_eq_true rfl
  · exact Nat.le_of_ble_eq_true rfl
  · exact Nat.zero_le _
theorem Adds.name_ns {f : Int} {st : Adds} {t : List (List Int) × List (List Int)} : (st.name f t).1.ns.length = st.ns.length + 1 := by
  show (st.ns ++ [_]).length = _
  rw [List.length_append, List.length_singleton]
theorem Adds.name_cs {f : Int} {st : Adds} {t : List (List Int) × List (List Int)} : (st.name f t).1.cs.length = st.cs.length + t.1.length + t.2.length := by
  show (st.cs ++ t.1.map _ ++ t.2.map _).length = _
  rw [List.length_append, List.length_append, List.length_map, List.length_map]
theorem ColB.step {f : Int} {z0 : Addg} {z : Colm} (b : ColB z0 z) (h : 1 < z.col.length) : ColB z0 (z.step f) := by
  have s := Colm.step_col (f := f) h
  have e1 : (z.step f).st.ns.length = z.st.ns.length + 1 + 1 := by
    show (((z.st.name f _).1.name f _).1).ns.length = _
    rw [Adds.name_ns, Adds.name_ns]
  have e2 : (z.step f).st.cs.length ≤ z.st.cs.length + 8 + 8 := by
    show (((z.st.name f _).1.name f _).1).cs.length ≤ _
    rw [Adds.name_cs, Adds.name_cs]
    have := sumT_few (z.col.take 3)
    have := carT_few (z.col.take 3)
    omega
  have e3 : (z.step f).car.length = z.car.length + 1 := by
    show (z.car ++ [_]).length = _
    rw [List.length_append, List.length_singleton]
  obtain ⟨h1, h2, h3, h4⟩ := b
  exact ⟨by omega, by omega, by omega, s.2⟩
theorem Colm.run_b {f : Int} {z0 : Addg} : ∀ {n : Nat} {z : Colm}, ColB z0 z → z.col.length ≤ n → ColB z0 (z.run f n) ∧ (z.run f n).col.length = 1
  | 0, z, b, h => absurd b.l (by omega)
  | n + 1, z, b, h => by
    by_cases c : 1 < z.col.length
    · have e : z.run f (n + 1) = (z.step f).run f n := if_pos c
      rw [e]
      have s := (Colm.step_col (f := f) c).1
      exact Colm.run_b (b.step c) (by omega)
    · rw [Colm.run_end c]
      have := b.l
      exact ⟨b, by omega⟩
/-- how much has come to be, behind so many columns -/
structure AddB (N : Nat) (z : Addg) : Prop where
  n : z.st.ns.length + z.col.length * (z.col.length + 1) ≤ N * (N + 1)
  w : z.st.cs.length ≤ 8 * z.st.ns.length
  b : z.bits.length + z.col.length ≤ N
theorem AddB.colB {N : Nat} {z : Addg} (b : AddB N z) (h : z.col ≠ []) : ColB z ⟨z.st, z.col, []⟩ :=
  ⟨Nat.le_refl _, by show 0 + z.col.length ≤ _; omega, b.w, List.length_pos_iff.mpr h⟩
theorem AddB.step {f : Int} {N : Nat} {z : Addg} (b : AddB N z) (h : z.col ≠ []) : AddB N (z.step f) ∧ (z.step f).col.length + 1 ≤ z.col.length := by
  obtain ⟨c, l⟩ := Colm.run_b (f := f) (b.colB h) (Nat.le_refl z.col.length)
  have l1 : 1 ≤ z.col.length := List.length_pos_iff.mpr h
  have e : (z.step f).col = (z.colm f).car := rfl
  have es : (z.step f).st = (z.colm f).st := rfl
  have eb : (z.step f).bits.length = z.bits.length + 1 := by
    show (z.bits ++ [_]).length = _
    rw [List.length_append, List.length_singleton]
  have c : ColB z (z.colm f) := c
  have l : (z.colm f).col.length = 1 := l
  have hc := c.c
  have hn := c.n
  refine ⟨⟨?_, by rw [es]; exact c.w, by rw [e, eb]; have := b.b; omega⟩, by rw [e]; omega⟩
  rw [e, es]
  have k : (z.colm f).car.length + 1 ≤ z.col.length := by omega
  have m : (z.colm f).car.length * ((z.colm f).car.length + 1) ≤ (z.col.length - 1) * z.col.length := Nat.mul_le_mul (by omega) k
  have m2 : (z.col.length - 1) * z.col.length + 2 * z.col.length = z.col.length * (z.col.length + 1) := by
    obtain ⟨q, hq⟩ : ∃ q, z.col.length = q + 1 := ⟨z.col.length - 1, by omega⟩
    rw [hq, Nat.add_sub_cancel, ← Nat.add_mul, Nat.mul_comm (q + 1) (q + 1 + 1)]
  have := b.n
  omega
theorem Addg.run_end {f : Int} {n : Nat} {z : Addg} (h : z.col = []) : z.run f n = z := by
  cases n with
  | zero => rfl
  | succ n => exact if_pos h
theorem Addg.run_more {f : Int} {N : Nat} : ∀ {n m : Nat} {z : Addg}, AddB N z → z.col.length ≤ n → z.col.length ≤ m → z.run f n = z.run f m
  | 0, m, z, _, h, _ => by
    rw [Addg.run_end (n := m) (List.length_eq_zero_iff.mp (by omega))]
    rfl
  | n + 1, 0, z, _, _, h => by
    rw [Addg.run_end (n := n + 1) (List.length_eq_zero_iff.mp (by omega))]
    rfl
  | n + 1, m + 1, z, b, h1, h2 => by
    by_cases c : z.col = []
    · rw [Addg.run_end c, Addg.run_end c]
    · obtain ⟨b1, s⟩ := b.step (f := f) c
      show (if z.col = [] then _ else _) = if z.col = [] then _ else _
      rw [if_neg c, if_neg c]
      exact Addg.run_more b1 (by omega) (by omega)
theorem Addg.run_step {f : Int} {N : Nat} {z : Addg} {n : Nat} (b : AddB N z) (c : z.col ≠ []) (h : z.col.length ≤ n) : z.run f n = (z.step f).run f n := by
  obtain ⟨b1, s⟩ := b.step (f := f) c
  have := List.length_pos_iff.mpr c
  cases n with
  | zero => omega
  | succ n =>
    have e : z.run f (n + 1) = (z.step f).run f n := if_neg c
    rw [e]
    exact Addg.run_more b1 (by omega) (by omega)
/-- the adding of marks -/
def addOf (f : Int) (l : List Int) : Addg := Addg.run f l.length ⟨⟨[], []⟩, [], l⟩
theorem addB0 (l : List Int) : AddB l.length ⟨⟨[], []⟩, [], l⟩ := ⟨by show 0 + l.length * (l.length + 1) ≤ _; omega, Nat.le_refl _, by show 0 + l.length ≤ _; omega⟩

/-! ### the tuples of a sum and of a carry -/
/-- two lists of rows, as a tuple -/
structure TwoL (H0 H : Hp) (r : Addr) (t : List (List Int) × List (List Int)) : Prop where
  ex : ∃ p q vs ws, H r = some (.tup [.ref p, .ref q]) ∧ H p = some (.lst vs) ∧ TpAll H vs (t.1.map tI) ∧ H q = some (.lst ws) ∧ TpAll H ws (t.2.map tI) ∧ H0 p = none ∧ H0 q = none ∧ p ≠ q
def spTwo (K : PySem.W.Frag) (F : List Int → List (List Int) × List (List Int)) : Sp := fun vs H Q _ => ∃ (a : Addr) (l : List Int), vs = [.ref a] ∧ SqL K H a (l.map V.int) ∧ ((∃ a b, l = [a, b]) ∨ ∃ a b c, l = [a, b, c]) ∧
  ∀ H' r, Same H H' → TwoL H H' r (F l) → Q (.ref r) H'
/-- the other marks of a tuple or of a list -/
def spNeg2 (K : PySem.W.Frag) : Sp := fun vs H Q _ => ∃ (p : Addr) (l : List Int), vs = [.ref p] ∧ (H p = some (.tup (l.map V.int)) ∨ SqL K H p (l.map V.int)) ∧ l.length ≤ 1000 ∧ ∀ H' r, Same H H' → H' r = some (.tup ((negL l).map V.int)) → Q (.ref r) H'
/-- rows that are known -/
structure Rw (H0 H : Hp) (rs : List (Addr × List Int)) : Prop where
  s : Same H0 H
  k : ∀ q ∈ rs, H q.1 = some (.tup (q.2.map V.int))
theorem Rw.nil {H : Hp} : Rw H H [] := ⟨Same.refl _, fun q hq => by cases hq⟩
theorem Rw.same {H0 H H' : Hp} {rs : List (Addr × List Int)} (z : Rw H0 H rs) (s : Same H H') : Rw H0 H' rs := ⟨z.s.trans s, fun q hq => s _ _ (z.k q hq)⟩
theorem Rw.new {H0 H : Hp} {rs : List (Addr × List Int)} {p : Addr} {o : HO} (z : Rw H0 H rs) (n : H p = none) : Rw H0 (upd H p o) rs := z.same (same_new n)
theorem Rw.put {H0 H : Hp} {rs : List (Addr × List Int)} {p : Addr} {l : List Int} (z : Rw H0 H rs) (n : H p = none) : Rw H0 (upd H p (.tup (l.map V.int))) (rs ++ [(p, l)]) := by
  refine ⟨z.s.trans (same_new n), fun q hq => ?_⟩
  rcases List.mem_append.mp hq with h | h
  · exact same_new n _ _ (z.k q h)
  · cases List.mem_singleton.mp h
    exact upd_same
theorem Rw.out {H0 H : Hp} {rs : List (Addr × List Int)} (z : Rw H0 H rs) {p : Addr} (n : H p = none) : H0 p = none := by
  cases e : H0 p with
  | none => rfl
  | some o =>
    rw [z.s _ _ e] at n
    cases n
theorem rw_all {H : Hp} : ∀ {rs : List (Addr × List Int)}, (∀ q ∈ rs, H q.1 = some (.tup (q.2.map V.int))) → TpAll H (rs.map fun q => V.ref q.1) (rs.map fun q => tI q.2)
  | [], _ => .nil
  | q :: r, h => .cons (tp_ints (h q List.mem_cons_self)) (rw_all fun p hp => h p (List.mem_cons_of_mem _ hp))
section
variable {P : Program} {w : World} {K : PySem.W.Frag} {mg : Str → Option Value} {base : Heap}
theorem has_neg2 {cs : Nat → Addr} (T : Top K mg cs) : Has P w K mg base 1 "others" ["marks"] (spNeg2 K) := by
  refine has_of T.d_others sc_others bd_others (fun vs H Q E h => ?_) (fun f cdv A outer s H vs Q E hr h => ?_)
  · obtain ⟨p, l, rfl, _⟩ := h
    rfl
  · have hu := hu_of hr
    have nd := sc_others.nd
    obtain ⟨p, l, rfl, hp, few, k⟩ := h
    have line : (5000000 : Nat) < sizeLine := by decide
    have turn : ∀ {H : Hp} {D : Addr} (_ : H D = none) (i : Nat) (y : Int) (H' : Hp), l[i]? = some y → TpT H H' D ((negL (l.take i)).map PyData.int) →
        ∃ acc, H' D = some (.lst acc) ∧ acc.length < sizeLine ∧ TpT H (upd H' D (.lst (acc ++ [.int (-y)]))) D ((negL (l.take (i + 1))).map PyData.int) := fun {H D} hD i y H' hy z => by
      have e : (negL (l.take (i + 1))).map PyData.int = (negL (l.take i)).map PyData.int ++ [.int (-y)] := by
        unfold negL
        rw [List.take_add_one, hy, List.map_append, List.map_append, ← Int.zero_sub y]
        rfl
      rw [e]
      refine z.put hD (Same.refl _) ?_ (.int _)
      have := List.length_take_le' i l
      rw [List.length_map, negL_len]
      omega
    rcases hp with hp | hp
    · refine ⟨_, (pss_one (ps_ret (pe_callTy call_tuple_of (by rfl) T.b_tuple (by decide +kernel) (pa_cons (pe_lc (own := [("mark", 1)]) (by rfl) nd (pi_tup (pv 0)) (blkOk_by (own := [("mark", 1)]) (N := nm_others) (sc := defScope s_others) (by decide +kernel)) (fun _ _ _ _ _ => pg_name (i := 1) nd rfl (.inl rfl)) (fun _ _ _ _ _ => pts_nil) (fun _ _ _ _ _ => (pe_un un_neg (pv 1)))) pa_nil)))), ?_⟩
      refine ⟨_, rfl, p, rfl, ⟨_, SqT.of hp⟩, fun D hD => lc_tup (xs := l.map V.int) (fun i H' => TpT H H' D ((negL (l.take i)).map PyData.int)) (TpT.new hD) (fun i H' _ z => SqT.of (z.s _ _ hp)) (fun i x H' hx z => ?_) (fun H' z => ?_)⟩
      · obtain ⟨y, rfl, hy⟩ := int_at hx
        exact ⟨rfl, yes_go ⟨_, rfl, _, rfl, turn hD i y H' hy z⟩⟩
      · rw [List.length_map, List.take_length] at z
        obtain ⟨ys, hD', tD⟩ := z.ex
        rw [tpall_inv tD] at hD'
        exact ⟨D, _, rfl, .inl ⟨SqL.of hD', fun r nr => k _ r (z.s.trans (same_new nr)) upd_same⟩⟩
    · refine ⟨_, (pss_one (ps_ret (pe_callTy call_tuple_of (by rfl) T.b_tuple (by decide +kernel) (pa_cons (pe_lc (own := [("mark", 1)]) (by rfl) nd (pi_list (pv 0)) (blkOk_by (own := [("mark", 1)]) (N := nm_others) (sc := defScope s_others) (by decide +kernel)) (fun _ _ _ _ _ => pg_name (i := 1) nd rfl (.inl rfl)) (fun _ _ _ _ _ => pts_nil) (fun _ _ _ _ _ => (pe_un un_neg (pv 1)))) pa_nil)))), ?_⟩
      refine ⟨_, rfl, p, rfl, ⟨_, hp⟩, fun D hD => lc_list (xs := l.map V.int) (fun i H' => TpT H H' D ((negL (l.take i)).map PyData.int)) (TpT.new hD) (fun i H' _ z => z.s.seq hp) (fun i x H' hx z => ?_) (fun H' z => ?_)⟩
      · obtain ⟨y, rfl, hy⟩ := int_at hx
        exact ⟨rfl, yes_go ⟨_, rfl, _, rfl, turn hD i y H' hy z⟩⟩
      · rw [List.length_map, List.take_length] at z
        obtain ⟨ys, hD', tD⟩ := z.ex
        rw [tpall_inv tD] at hD'
        exact ⟨D, _, rfl, .inl ⟨SqL.of hD', fun r nr => k _ r (z.s.trans (same_new nr)) upd_same⟩⟩
end

section
variable {P : Program} {w : World} {K : PySem.W.Frag} {mg : Str → Option Value} {base : Heap}
theorem has_sumT {cs : Nat → Addr} (T : Top K mg cs) : Has P w K mg base 1 "_sum_tuples" ["marks"] (spTwo K sumT) := by
  refine has_of T.d__sum_tuples sc__sum_tuples bd__sum_tuples (fun vs H Q E h => ?_) (fun f cdv A outer s H vs Q E hr h => ?_)
  · obtain ⟨a, l, rfl, _⟩ := h
    rfl
  · have hu := hu_of hr
    have nd := sc__sum_tuples.nd
    obtain ⟨p, l, rfl, hp, hl, k⟩ := h
    refine ⟨_, (pss_cons (ps_if (pt_cmpR op_eq (pe_callB call_len_seq (by rfl) T.b_len (by decide +kernel) (pa_cons (pv 0) pa_nil)) pe_int (nomark _)) (pss_cons (ps_asg (pv 0) (pg_unl (by rfl) (pgs_cons (pg_name (i := 1) nd rfl (.inl rfl)) (pgs_cons (pg_name (i := 2) nd rfl (.inl rfl)) pgs_nil))))
    (pss_one (ps_ret (pe_tup (pa_cons (pe_lst (pa_cons (pe_tup (pa_cons (pv 1) (pa_cons (pe_un un_neg (pv 2)) pa_nil))) (pa_cons (pe_tup (pa_cons (pe_un un_neg (pv 1)) (pa_cons (pv 2) pa_nil))) pa_nil))) (pa_cons (pe_lst (pa_cons (pe_tup (pa_cons (pe_un un_neg (pv 1)) (pa_cons (pe_un un_neg (pv 2)) pa_nil))) (pa_cons (pe_tup (pa_cons (pv 1) (pa_cons (pv 2) pa_nil))) pa_nil))) pa_nil)))))) pss_nil)
    (pss_cons (ps_asg (pv 0) (pg_unl (by rfl) (pgs_cons (pg_name (i := 1) nd rfl (.inl rfl)) (pgs_cons (pg_name (i := 2) nd rfl (.inl rfl)) (pgs_cons (pg_name (i := 3) nd rfl (.inl rfl)) pgs_nil)))))
    (pss_cons (ps_set (i := 4) nd rfl (.inl rfl) (pe_lst (pa_cons (pe_tup (pa_cons (pv 1) (pa_cons (pe_un un_neg (pv 2)) (pa_cons (pe_un un_neg (pv 3)) pa_nil)))) (pa_cons (pe_tup (pa_cons (pe_un un_neg (pv 1)) (pa_cons (pv 2) (pa_cons (pe_un un_neg (pv 3)) pa_nil)))) (pa_cons (pe_tup (pa_cons (pe_un un_neg (pv 1)) (pa_cons (pe_un un_neg (pv 2)) (pa_cons (pv 3) pa_nil)))) (pa_cons (pe_tup (pa_cons (pv 1) (pa_cons (pv 2) (pa_cons (pv 3) pa_nil)))) pa_nil))))))
    (pss_cons (ps_set (i := 5) nd rfl (.inl rfl) (pe_lst (pa_cons (pe_tup (pa_cons (pe_un un_neg (pv 1)) (pa_cons (pe_un un_neg (pv 2)) (pa_cons (pe_un un_neg (pv 3)) pa_nil)))) (pa_cons (pe_tup (pa_cons (pv 1) (pa_cons (pv 2) (pa_cons (pe_un un_neg (pv 3)) pa_nil)))) (pa_cons (pe_tup (pa_cons (pv 1) (pa_cons (pe_un un_neg (pv 2)) (pa_cons (pv 3) pa_nil)))) (pa_cons (pe_tup (pa_cons (pe_un un_neg (pv 1)) (pa_cons (pv 2) (pa_cons (pv 3) pa_nil)))) pa_nil))))))
    (pss_one (ps_ret (pe_tup (pa_cons (pv 4) (pa_cons (pv 5) pa_nil))))))))), ?_⟩
    rcases hl with ⟨a, b, rfl⟩ | ⟨a, b, c, rfl⟩
    · refine ⟨_, rfl, p, _, rfl, .inl hp, rfl, _, rfl, iteT ?_⟩
      refine ⟨_, rfl, p, _, rfl, hp, rfl, _, _, rfl, _, _, rfl, rfl, ?_⟩
      refine ⟨_, rfl, _, rfl, _, rfl, (by decide : (2 : Nat) ≤ sizeLine), fun p1 n1 => ⟨_, rfl, _, rfl, _, rfl, (by decide : (2 : Nat) ≤ sizeLine), fun p2 n2 => ⟨(by decide : (2 : Nat) ≤ sizeLine), fun D1 m1 => ?_⟩⟩⟩
      have z2 := ((Rw.nil (H := H)).put (l := [a, -b]) n1).put (l := [-a, b]) n2
      have z3 := z2.new (o := .lst [V.ref p1, V.ref p2]) m1
      have o1 := z2.out m1
      have hD1 : (upd (upd (upd H p1 (.tup ([a, -b].map V.int))) p2 (.tup ([-a, b].map V.int))) D1 (.lst [V.ref p1, V.ref p2])) D1 = some (.lst [V.ref p1, V.ref p2]) := upd_same
      refine ⟨_, rfl, _, rfl, _, rfl, _, rfl, (by decide : (2 : Nat) ≤ sizeLine), fun p3 n3 => ⟨_, rfl, _, rfl, (by decide : (2 : Nat) ≤ sizeLine), fun p4 n4 => ⟨(by decide : (2 : Nat) ≤ sizeLine), fun D2 m2 => ⟨(by decide : (2 : Nat) ≤ sizeLine), fun r nr => ?_⟩⟩⟩⟩
      have z5 := ((z3).put (l := [-a, -b]) n3).put (l := [a, b]) n4
      have e1 := (same_new n4 (o := .tup ([a, b].map V.int)) _ _ (same_new n3 (o := .tup ([-a, -b].map V.int)) _ _ hD1))
      have o2 := z5.out m2
      have ne : D1 ≠ D2 := ne_of_none e1 m2
      have z7 := (z5.new (o := .lst [V.ref p3, V.ref p4]) m2).new (o := .tup [V.ref D1, .ref D2]) nr
      have e2 := same_new nr (o := .tup [V.ref D1, .ref D2]) _ _ (same_new m2 (o := .lst [V.ref p3, V.ref p4]) _ _ e1)
      have e3 := same_new nr (o := .tup [V.ref D1, .ref D2]) _ _ (show (upd _ D2 (.lst [V.ref p3, V.ref p4])) D2 = some (.lst [V.ref p3, V.ref p4]) from upd_same)
      refine k _ r z7.s ⟨D1, D2, _, _, upd_same, e2, rw_all (rs := [(p1, [a, -b]), (p2, [-a, b])]) (fun q hq => z7.k q (by simp only [List.mem_cons, List.not_mem_nil, or_false] at hq; rcases hq with rfl | rfl <;> simp)), e3, rw_all (rs := [(p3, [-a, -b]), (p4, [a, b])]) (fun q hq => z7.k q (by simp only [List.mem_cons, List.not_mem_nil, or_false] at hq; rcases hq with rfl | rfl <;> simp)), o1, o2, ne⟩
    · refine ⟨_, rfl, p, _, rfl, .inl hp, rfl, _, rfl, iteF ?_⟩
      refine ⟨_, rfl, p, _, rfl, hp, rfl, _, _, rfl, _, _, rfl, _, _, rfl, rfl, ?_⟩
      refine ⟨_, rfl, _, rfl, _, rfl, _, rfl, _, rfl, (by decide : (3 : Nat) ≤ sizeLine), fun p1 n1 => ⟨_, rfl, _, rfl, _, rfl, _, rfl, _, rfl, (by decide : (3 : Nat) ≤ sizeLine), fun p2 n2 => ⟨_, rfl, _, rfl, _, rfl, _, rfl, _, rfl, (by decide : (3 : Nat) ≤ sizeLine), fun p3 n3 => ⟨_, rfl, _, rfl, _, rfl, (by decide : (3 : Nat) ≤ sizeLine), fun p4 n4 => ⟨(by decide : (4 : Nat) ≤ sizeLine), fun D1 m1 => ?_⟩⟩⟩⟩⟩
      have z2 := ((((Rw.nil (H := H)).put (l := [a, -b, -c]) n1).put (l := [-a, b, -c]) n2).put (l := [-a, -b, c]) n3).put (l := [a, b, c]) n4
      have z3 := z2.new (o := .lst [V.ref p1, V.ref p2, V.ref p3, V.ref p4]) m1
      have o1 := z2.out m1
      have hD1 : (upd (upd (upd (upd (upd H p1 (.tup ([a, -b, -c].map V.int))) p2 (.tup ([-a, b, -c].map V.int))) p3 (.tup ([-a, -b, c].map V.int))) p4 (.tup ([a, b, c].map V.int))) D1 (.lst [V.ref p1, V.ref p2, V.ref p3, V.ref p4])) D1 = some (.lst [V.ref p1, V.ref p2, V.ref p3, V.ref p4]) := upd_same
      refine ⟨_, rfl, _, rfl, _, rfl, _, rfl, _, rfl, _, rfl, (by decide : (3 : Nat) ≤ sizeLine), fun p5 n5 => ⟨_, rfl, _, rfl, _, rfl, _, rfl, (by decide : (3 : Nat) ≤ sizeLine), fun p6 n6 => ⟨_, rfl, _, rfl, _, rfl, _, rfl, (by decide : (3 : Nat) ≤ sizeLine), fun p7 n7 => ⟨_, rfl, _, rfl, _, rfl, _, rfl, (by decide : (3 : Nat) ≤ sizeLine), fun p8 n8 => ⟨(by decide : (4 : Nat) ≤ sizeLine), fun D2 m2 => ⟨_, rfl, _, rfl, (by decide : (2 : Nat) ≤ sizeLine), fun r nr => ?_⟩⟩⟩⟩⟩⟩
      have z5 := ((((z3).put (l := [-a, -b, -c]) n5).put (l := [a, b, -c]) n6).put (l := [a, -b, c]) n7).put (l := [-a, b, c]) n8
      have e1 := (same_new n8 (o := .tup ([-a, b, c].map V.int)) _ _ (same_new n7 (o := .tup ([a, -b, c].map V.int)) _ _ (same_new n6 (o := .tup ([a, b, -c].map V.int)) _ _ (same_new n5 (o := .tup ([-a, -b, -c].map V.int)) _ _ hD1))))
      have o2 := z5.out m2
      have ne : D1 ≠ D2 := ne_of_none e1 m2
      have z7 := (z5.new (o := .lst [V.ref p5, V.ref p6, V.ref p7, V.ref p8]) m2).new (o := .tup [V.ref D1, .ref D2]) nr
      have e2 := same_new nr (o := .tup [V.ref D1, .ref D2]) _ _ (same_new m2 (o := .lst [V.ref p5, V.ref p6, V.ref p7, V.ref p8]) _ _ e1)
      have e3 := same_new nr (o := .tup [V.ref D1, .ref D2]) _ _ (show (upd _ D2 (.lst [V.ref p5, V.ref p6, V.ref p7, V.ref p8])) D2 = some (.lst [V.ref p5, V.ref p6, V.ref p7, V.ref p8]) from upd_same)
      refine k _ r z7.s ⟨D1, D2, _, _, upd_same, e2, rw_all (rs := [(p1, [a, -b, -c]), (p2, [-a, b, -c]), (p3, [-a, -b, c]), (p4, [a, b, c])]) (fun q hq => z7.k q (by simp only [List.mem_cons, List.not_mem_nil, or_false] at hq; rcases hq with rfl | rfl | rfl | rfl <;> simp)), e3, rw_all (rs := [(p5, [-a, -b, -c]), (p6, [a, b, -c]), (p7, [a, -b, c]), (p8, [-a, b, c])]) (fun q hq => z7.k q (by simp only [List.mem_cons, List.not_mem_nil, or_false] at hq; rcases hq with rfl | rfl | rfl | rfl <;> simp)), o1, o2, ne⟩
theorem has_carT {cs : Nat → Addr} (T : Top K mg cs) (h_others : Has P w K mg base 1 "others" ["marks"] (spNeg2 K)) : Has P w K mg base 2 "_carry_tuples" ["marks"] (spTwo K carT) := by
  refine has_of T.d__carry_tuples sc__carry_tuples bd__carry_tuples (fun vs H Q E h => ?_) (fun f cdv A outer s H vs Q E hr h => ?_)
  · obtain ⟨a, l, rfl, _⟩ := h
    rfl
  · have hu := hu_of hr
    have nd := sc__carry_tuples.nd
    obtain ⟨p, l, rfl, hp, hl, k⟩ := h
    refine ⟨_, (pss_cons (ps_if (pt_cmpR op_eq (pe_callB call_len_seq (by rfl) T.b_len (by decide +kernel) (pa_cons (pv 0) pa_nil)) pe_int (nomark _)) (pss_cons (ps_asg (pv 0) (pg_unl (by rfl) (pgs_cons (pg_name (i := 1) nd rfl (.inl rfl)) (pgs_cons (pg_name (i := 2) nd rfl (.inl rfl)) pgs_nil))))
    (pss_one (ps_ret (pe_tup (pa_cons (pe_lst (pa_cons (pe_tup (pa_cons (pv 1) (pa_cons (pv 2) pa_nil))) pa_nil)) (pa_cons (pe_lst (pa_cons (pe_tup (pa_cons (pe_un un_neg (pv 1)) pa_nil)) (pa_cons (pe_tup (pa_cons (pe_un un_neg (pv 2)) pa_nil)) pa_nil))) pa_nil)))))) pss_nil)
    (pss_cons (ps_asg (pv 0) (pg_unl (by rfl) (pgs_cons (pg_name (i := 1) nd rfl (.inl rfl)) (pgs_cons (pg_name (i := 2) nd rfl (.inl rfl)) (pgs_cons (pg_name (i := 3) nd rfl (.inl rfl)) pgs_nil)))))
    (pss_cons (ps_set (i := 4) nd rfl (.inl rfl) (pe_lst (pa_cons (pe_tup (pa_cons (pv 1) (pa_cons (pv 2) pa_nil))) (pa_cons (pe_tup (pa_cons (pv 1) (pa_cons (pv 3) pa_nil))) (pa_cons (pe_tup (pa_cons (pv 2) (pa_cons (pv 3) pa_nil))) pa_nil)))))
    (pss_one (ps_ret (pe_tup (pa_cons (pv 4) (pa_cons (pe_lc (own := [("both", 5)]) (by rfl) nd (pi_list (pv 4)) (blkOk_by (own := [("both", 5)]) (N := nm__carry_tuples) (sc := defScope s__carry_tuples) (by decide +kernel)) (fun _ _ _ _ _ => pg_name (i := 5) nd rfl (.inl rfl)) (fun _ _ _ _ _ => pts_nil) (fun _ _ _ _ _ => (pe_has h_others (hr.mono (by omega)) (by rfl) (pa_cons (pv 5) pa_nil)))) pa_nil)))))))), ?_⟩
    rcases hl with ⟨a, b, rfl⟩ | ⟨a, b, c, rfl⟩
    · refine ⟨_, rfl, p, _, rfl, .inl hp, rfl, _, rfl, iteT ?_⟩
      refine ⟨_, rfl, p, _, rfl, hp, rfl, _, _, rfl, _, _, rfl, rfl, ?_⟩
      refine ⟨_, rfl, _, rfl, (by decide : (2 : Nat) ≤ sizeLine), fun p1 n1 => ⟨(by decide : (1 : Nat) ≤ sizeLine), fun D1 m1 => ?_⟩⟩
      have z2 := (Rw.nil (H := H)).put (l := [a, b]) n1
      have z3 := z2.new (o := .lst [V.ref p1]) m1
      have o1 := z2.out m1
      have hD1 : (upd (upd H p1 (.tup ([a, b].map V.int))) D1 (.lst [V.ref p1])) D1 = some (.lst [V.ref p1]) := upd_same
      refine ⟨_, rfl, _, rfl, (by decide : (1 : Nat) ≤ sizeLine), fun p2 n2 => ⟨_, rfl, _, rfl, (by decide : (1 : Nat) ≤ sizeLine), fun p3 n3 => ⟨(by decide : (2 : Nat) ≤ sizeLine), fun D2 m2 => ⟨(by decide : (2 : Nat) ≤ sizeLine), fun r nr => ?_⟩⟩⟩⟩
      have z5 := ((z3).put (l := [-a]) n2).put (l := [-b]) n3
      have e1 := (same_new n3 (o := .tup ([-b].map V.int)) _ _ (same_new n2 (o := .tup ([-a].map V.int)) _ _ hD1))
      have o2 := z5.out m2
      have ne : D1 ≠ D2 := ne_of_none e1 m2
      have z7 := (z5.new (o := .lst [V.ref p2, V.ref p3]) m2).new (o := .tup [V.ref D1, .ref D2]) nr
      have e2 := same_new nr (o := .tup [V.ref D1, .ref D2]) _ _ (same_new m2 (o := .lst [V.ref p2, V.ref p3]) _ _ e1)
      have e3 := same_new nr (o := .tup [V.ref D1, .ref D2]) _ _ (show (upd _ D2 (.lst [V.ref p2, V.ref p3])) D2 = some (.lst [V.ref p2, V.ref p3]) from upd_same)
      refine k _ r z7.s ⟨D1, D2, _, _, upd_same, e2, rw_all (rs := [(p1, [a, b])]) (fun q hq => z7.k q (by simp only [List.mem_cons, List.not_mem_nil, or_false] at hq; rcases hq with rfl <;> simp)), e3, rw_all (rs := [(p2, [-a]), (p3, [-b])]) (fun q hq => z7.k q (by simp only [List.mem_cons, List.not_mem_nil, or_false] at hq; rcases hq with rfl | rfl <;> simp)), o1, o2, ne⟩
    · refine ⟨_, rfl, p, _, rfl, .inl hp, rfl, _, rfl, iteF ?_⟩
      refine ⟨_, rfl, p, _, rfl, hp, rfl, _, _, rfl, _, _, rfl, _, _, rfl, rfl, ?_⟩
      refine ⟨_, rfl, _, rfl, (by decide : (2 : Nat) ≤ sizeLine), fun p1 n1 => ⟨_, rfl, _, rfl, (by decide : (2 : Nat) ≤ sizeLine), fun p2 n2 => ⟨_, rfl, _, rfl, (by decide : (2 : Nat) ≤ sizeLine), fun p3 n3 => ⟨(by decide : (3 : Nat) ≤ sizeLine), fun D1 m1 => ?_⟩⟩⟩⟩
      have z2 := (((Rw.nil (H := H)).put (l := [a, b]) n1).put (l := [a, c]) n2).put (l := [b, c]) n3
      have z3 := z2.new (o := .lst [V.ref p1, V.ref p2, V.ref p3]) m1
      have o1 := z2.out m1
      have hD1 : (upd (upd (upd (upd H p1 (.tup ([a, b].map V.int))) p2 (.tup ([a, c].map V.int))) p3 (.tup ([b, c].map V.int))) D1 (.lst [V.ref p1, V.ref p2, V.ref p3])) D1 = some (.lst [V.ref p1, V.ref p2, V.ref p3]) := upd_same
      have t3 := rw_all (rs := [(p1, [a, b]), (p2, [a, c]), (p3, [b, c])]) (fun q hq => z3.k q (by simp only [List.mem_cons, List.not_mem_nil, or_false] at hq; rcases hq with rfl | rfl | rfl <;> simp))
      refine ⟨_, rfl, _, rfl, D1, rfl, ⟨_, SqL.of hD1⟩, fun D2 m2 => lc_list (xs := [V.ref p1, V.ref p2, V.ref p3]) (fun i H' => TpT _ H' D2 (([[a, b], [a, c], [b, c]].take i).map fun r => tI (negL r))) (TpT.new m2) (fun i H' _ z => SqL.of (z.s _ _ hD1)) (fun i x H' hx z => ?_) (fun H' z => ?_)⟩
      · have hi : i < 3 := (List.getElem?_eq_some_iff.mp hx).1
        obtain ⟨r0, hr0⟩ : ∃ r0, ([[a, b], [a, c], [b, c]] : List (List Int))[i]? = some r0 := ⟨_, List.getElem?_eq_getElem (show i < [[a, b], [a, c], [b, c]].length from hi)⟩
        have w0 : r0.length ≤ 2 := by
          have := List.mem_of_getElem? hr0
          simp only [List.mem_cons, List.not_mem_nil, or_false] at this
          rcases this with rfl | rfl | rfl <;> exact Nat.le_refl 2
        have t3' : TpAll _ [V.ref p1, V.ref p2, V.ref p3] ([[a, b], [a, c], [b, c]].map tI) := t3
        obtain ⟨v, hv, tv⟩ := t3'.get (show ([[a, b], [a, c], [b, c]].map tI)[i]? = some (tI r0) by rw [List.getElem?_map, hr0]; rfl)
        rw [hx] at hv
        cases hv
        obtain ⟨q, rfl, hq⟩ := tp_row (tv.kt (KT.same z.s))
        refine ⟨rfl, yes_go ⟨_, rfl, q, r0, rfl, .inl hq, by omega, fun H1 b1 s1 hb => ?_⟩⟩
        rw [List.take_add_one, hr0, List.map_append]
        refine z.put m2 s1 ?_ (tp_ints hb)
        rw [List.length_map]
        have := List.length_take_le i [[a, b], [a, c], [b, c]]
        have line : (5000000 : Nat) < sizeLine := by decide
        have : ([[a, b], [a, c], [b, c]] : List (List Int)).length = 3 := rfl
        omega
      · obtain ⟨ys, hy, ty⟩ := z.ex
        have e1 := z.s _ _ hD1
        refine ⟨(by decide : (2 : Nat) ≤ sizeLine), fun r nr => ?_⟩
        refine k _ r ((z3.s.trans z.s).trans (same_new nr)) ⟨D1, D2, _, ys, upd_same, same_new nr _ _ e1, (t3.kt (KT.same z.s)).kt (KT.new nr), same_new nr _ _ hy, ty.kt (KT.new nr), o1, z3.out m2, ne_of_none hD1 m2⟩

end

/-! ### an adding in the heap -/
def nD (x : Int × List (List Int)) : PyData := .tuple [.int x.1, .tuple (x.2.map tI)]
structure AdR (H : Hp) (C S dx N W B : Addr) (f : Int) (st : Adds) (bits : List Int) : Prop where
  ins : H S = some (.ins C dx [("_first", .int f), ("named", .ref N), ("said", .ref W), ("bits", .ref B)])
  ne : N ≠ W ∧ N ≠ B ∧ W ≠ B
  bt : H B = some (.lst (bits.map V.int))
  ex : ∃ vn vc, H N = some (.lst vn) ∧ TpAll H vn (st.ns.map nD) ∧ H W = some (.lst vc) ∧ TpAll H vc (st.cs.map tI)
/-- what stays: all but three -/
structure AK (N W B : Addr) (H H' : Hp) : Prop where
  k : ∀ b o, H b = some o → b ≠ N → b ≠ W → b ≠ B → H' b = some o
theorem AK.refl {N W B : Addr} {H : Hp} : AK N W B H H := ⟨fun _ _ h _ _ _ => h⟩
theorem AK.trans {N W B : Addr} {H H1 H2 : Hp} (a : AK N W B H H1) (b : AK N W B H1 H2) : AK N W B H H2 := ⟨fun c o h n m r => b.k c o (a.k c o h n m r) n m r⟩
theorem AK.same {N W B : Addr} {H H1 : Hp} (s : Same H H1) : AK N W B H H1 := ⟨fun c o h _ _ _ => s c o h⟩
theorem AK.upN {N W B : Addr} {H : Hp} {o : HO} : AK N W B H (upd H N o) := ⟨fun c u h n _ _ => by rw [upd_ne n]; exact h⟩
theorem AK.upW {N W B : Addr} {H : Hp} {o : HO} : AK N W B H (upd H W o) := ⟨fun c u h _ n _ => by rw [upd_ne n]; exact h⟩
theorem AK.upB {N W B : Addr} {H : Hp} {o : HO} : AK N W B H (upd H B o) := ⟨fun c u h _ _ n => by rw [upd_ne n]; exact h⟩
section
variable {H : Hp} {C S dx N W B : Addr} {f : Int} {st : Adds} {bits : List Int}
theorem AdR.lsts (h : AdR H C S dx N W B f st bits) : (∃ xs, H N = some (.lst xs)) ∧ (∃ xs, H W = some (.lst xs)) ∧ ∃ xs, H B = some (.lst xs) := by
  obtain ⟨vn, vc, hn, _, hc, _⟩ := h.ex
  exact ⟨⟨_, hn⟩, ⟨_, hc⟩, ⟨_, h.bt⟩⟩
theorem AdR.kt (h : AdR H C S dx N W B f st bits) {H' : Hp} (k : AK N W B H H') : KT H H' := fun a xs e => by
  obtain ⟨⟨a1, h1⟩, ⟨a2, h2⟩, ⟨a3, h3⟩⟩ := h.lsts
  exact k.k a _ e (ne_of e h1 (by intro z; cases z)) (ne_of e h2 (by intro z; cases z)) (ne_of e h3 (by intro z; cases z))
theorem AdR.same (h : AdR H C S dx N W B f st bits) {H' : Hp} (s : Same H H') : AdR H' C S dx N W B f st bits := by
  obtain ⟨vn, vc, hn, tn, hc, tc⟩ := h.ex
  exact ⟨s _ _ h.ins, h.ne, s _ _ h.bt, vn, vc, s _ _ hn, tn.kt (KT.same s), s _ _ hc, tc.kt (KT.same s)⟩
theorem AdR.sn (h : AdR H C S dx N W B f st bits) : S ≠ N ∧ S ≠ W ∧ S ≠ B := by
  obtain ⟨⟨a1, h1⟩, ⟨a2, h2⟩, ⟨a3, h3⟩⟩ := h.lsts
  exact ⟨ne_of h.ins h1 (by intro z; cases z), ne_of h.ins h2 (by intro z; cases z), ne_of h.ins h3 (by intro z; cases z)⟩
/-- a name more -/
theorem AdR.putN (h : AdR H C S dx N W B f st bits) {vn : List V} (hn : H N = some (.lst vn)) (tn : TpAll H vn (st.ns.map nD)) {v : V} {d : Int × List (List Int)} (tv : Tp H v (nD d)) : AdR (upd H N (.lst (vn ++ [v]))) C S dx N W B f ⟨st.ns ++ [d], st.cs⟩ bits := by
  obtain ⟨vn', vc, hn', _, hc, tc⟩ := h.ex
  have k : KT H (upd H N (.lst (vn ++ [v]))) := KT.lst hn
  refine ⟨by rw [upd_ne h.sn.1]; exact h.ins, h.ne, by rw [upd_ne h.ne.2.1.symm]; exact h.bt, _, vc, upd_same, ?_, by rw [upd_ne h.ne.1.symm]; exact hc, tc.kt k⟩
  have e : (st.ns ++ [d]).map nD = st.ns.map nD ++ [nD d] := by rw [List.map_append]; rfl
  rw [show (⟨st.ns ++ [d], st.cs⟩ : Adds).ns = st.ns ++ [d] from rfl, e]
  exact (tn.snoc tv).kt k
/-- clauses more -/
theorem AdR.putW (h : AdR H C S dx N W B f st bits) {vc : List V} (hc : H W = some (.lst vc)) (tc : TpAll H vc (st.cs.map tI)) {ws : List V} {rows : List (List Int)} (tw : TpAll H ws (rows.map tI)) : AdR (upd H W (.lst (vc ++ ws))) C S dx N W B f ⟨st.ns, st.cs ++ rows⟩ bits := by
  obtain ⟨vn, vc', hn, tn, hc', _⟩ := h.ex
  have k : KT H (upd H W (.lst (vc ++ ws))) := KT.lst hc
  refine ⟨by rw [upd_ne h.sn.2.1]; exact h.ins, h.ne, by rw [upd_ne h.ne.2.2.symm]; exact h.bt, vn, _, by rw [upd_ne h.ne.1]; exact hn, tn.kt k, upd_same, ?_⟩
  rw [show (⟨st.ns, st.cs ++ rows⟩ : Adds).cs = st.cs ++ rows from rfl, List.map_append]
  exact (tc.app tw).kt k
/-- a bit more -/
theorem AdR.putB (h : AdR H C S dx N W B f st bits) {b : Int} : AdR (upd H B (.lst (bits.map V.int ++ [.int b]))) C S dx N W B f st (bits ++ [b]) := by
  obtain ⟨vn, vc, hn, tn, hc, tc⟩ := h.ex
  have k : KT H (upd H B (.lst (bits.map V.int ++ [.int b]))) := KT.lst h.bt
  exact ⟨by rw [upd_ne h.sn.2.2]; exact h.ins, h.ne, by rw [upd_same, List.map_append]; rfl, vn, vc, by rw [upd_ne h.ne.2.1]; exact hn, tn.kt k, by rw [upd_ne h.ne.2.2]; exact hc, tc.kt k⟩
end
def spAdName (C : Addr) : Sp := fun vs H Q _ => ∃ (S dx N W B r p q : Addr) (f : Int) (st : Adds) (bits : List Int) (t : List (List Int) × List (List Int)) (ps qs : List V), vs = [.ref S, .ref r] ∧ AdR H C S dx N W B f st bits ∧
  H r = some (.tup [.ref p, .ref q]) ∧ H p = some (.lst ps) ∧ TpAll H ps (t.1.map tI) ∧ H q = some (.lst qs) ∧ TpAll H qs (t.2.map tI) ∧ (p ≠ N ∧ p ≠ W) ∧ (q ≠ N ∧ q ≠ W) ∧ st.ns.length ≤ 100000 ∧ st.cs.length ≤ 1000000 ∧ t.1.length ≤ 100 ∧ t.2.length ≤ 100 ∧ (∀ m ∈ t.1, m.length ≤ 10) ∧ (∀ m ∈ t.2, m.length ≤ 10) ∧
  ∀ H', AdR H' C S dx N W B f (st.name f t).1 bits → AK N W B H H' → Q (.int (f + (st.ns.length : Nat))) H'
section
variable {P : Program} {w : World} {K : PySem.W.Frag} {mg : Str → Option Value} {base : Heap}
theorem hm_adName {cs : Nat → Addr} (T : Top K mg cs) (h_others : Has P w K mg base 1 "others" ["marks"] (spNeg2 K)) : HasM P w K mg base (cs 6) 2 "_name" ["self", "tuples"] (spAdName (cs 6)) := by
  refine has_ofM T.m_Adding__name sc_Adding__name bd_Adding__name (fun vs H Q E h => ?_) (fun f cdv Ar outer s H vs Q E hr h => ?_)
  · obtain ⟨S, dx, N, W, B, r, p, q, f, st, bits, t, ps, qs, rfl, _⟩ := h
    rfl
  · have hu := hu_of hr
    have nd := sc_Adding__name.nd
    obtain ⟨S, dx, N, W, B, r, p, q, f, st, bits, t, ps, qs, rfl, R, hr0, hp, tp, hq, tq, np, nq, few, few2, f1, f2, w1, w2, k⟩ := h
    refine ⟨_, (pss_cons (ps_asg (pv 1) (pg_tup (by rfl) (pgs_cons (pg_name (i := 2) nd rfl (.inl rfl)) (pgs_cons (pg_name (i := 3) nd rfl (.inl rfl)) pgs_nil))))
    (pss_cons (ps_set (i := 4) nd rfl (.inr rfl) (pe_op op_add (pe_fld (pv 0) rfl) (pe_callB call_len_seq (by rfl) T.b_len (by decide +kernel) (pa_cons (pe_fld (pv 0) rfl) pa_nil))))
    (pss_cons (ps_expr (pe_bm PySem.F.plainAttrs_list PySem.F.slot_list_append PySem.F.type_list_append mt_append (pe_fld (pv 0) rfl) (pa_cons (pe_tup (pa_cons (pv 4) (pa_cons (pe_callTy call_tuple_of (by rfl) T.b_tuple (by decide +kernel) (pa_cons (pv 2) pa_nil)) pa_nil))) pa_nil)))
    (pss_cons (ps_expr (pe_bm PySem.F.plainAttrs_list PySem.F.slot_list_extend PySem.F.type_list_extend mt_extend (pe_fld (pv 0) rfl) (pa_cons (pe_lc (own := [("marks", 5)]) (by rfl) nd (pi_list (pv 2)) (blkOk_by (own := [("marks", 5)]) (N := nm_Adding__name) (sc := defScope s_Adding__name) (by decide +kernel)) (fun _ _ _ _ _ => pg_name (i := 5) nd rfl (.inl rfl)) (fun _ _ _ _ _ => pts_nil) (fun _ _ _ _ _ => (pe_op (op_catAK (K := K) rfl) (pe_has h_others (hr.mono (by omega)) (by rfl) (pa_cons (pv 5) pa_nil)) (pe_tup (pa_cons (pv 4) pa_nil))))) pa_nil)))
    (pss_cons (ps_expr (pe_bm PySem.F.plainAttrs_list PySem.F.slot_list_extend PySem.F.type_list_extend mt_extend (pe_fld (pv 0) rfl) (pa_cons (pe_lc (own := [("marks", 5)]) (by rfl) nd (pi_list (pv 3)) (blkOk_by (own := [("marks", 5)]) (N := nm_Adding__name) (sc := defScope s_Adding__name) (by decide +kernel)) (fun _ _ _ _ _ => pg_name (i := 5) nd rfl (.inl rfl)) (fun _ _ _ _ _ => pts_nil) (fun _ _ _ _ _ => (pe_op (op_catAK (K := K) rfl) (pe_has h_others (hr.mono (by omega)) (by rfl) (pa_cons (pv 5) pa_nil)) (pe_tup (pa_cons (pe_un un_neg (pv 4)) pa_nil))))) pa_nil)))
    (pss_one (ps_ret (pv 4)))))))), ?_⟩
    obtain ⟨vn, vc, hn, tn, hc, tc⟩ := R.ex
    have ln := tn.len
    rw [List.length_map] at ln
    have line : (5000000 : Nat) < sizeLine := by decide
    refine ⟨_, rfl, r, _, rfl, SqT.of hr0, rfl, _, _, rfl, _, _, rfl, rfl, ?_⟩
    refine ⟨_, rfl, S, _, dx, _, _, rfl, R.ins, T.cl_Adding, T.n_Adding__first, rfl, _, rfl, S, _, dx, _, _, rfl, R.ins, T.cl_Adding, T.n_Adding_named, rfl, N, _, rfl, .inl (SqL.of hn), _, _, rfl, rfl, ?_⟩
    rw [ln]
    generalize ez : f + ((st.ns.length : Nat) : Int) = z at k ⊢
    refine ⟨_, rfl, S, _, dx, _, _, rfl, R.ins, T.cl_Adding, T.n_Adding_named, rfl, .inl ⟨rfl, _, SqL.of hn⟩, _, rfl, _, rfl, p, ps, rfl, .inl ⟨SqL.of hp, fun p1 n1 => ?_⟩⟩
    have s1 := same_new (o := .tup ps) n1
    have t1 : Tp (upd H p1 (.tup ps)) (.ref p1) (.tuple (t.1.map tI)) := .new n1 tp
    have R1 := R.same s1
    have x1 := s1 _ _ hn
    have p1p : H p = some (.lst ps) := hp
    refine ⟨(by decide : (2 : Nat) ≤ sizeLine), fun p2 n2 => ⟨N, vn, .ref p2, rfl, rfl, same_new n2 _ _ x1, by omega, ?_⟩⟩
    have s2 := s1.trans (same_new (o := .tup [V.int z, .ref p1]) n2)
    have t2 : Tp (upd (upd H p1 (.tup ps)) p2 (.tup [V.int z, .ref p1])) (.ref p2) (nD (z, t.1)) := .new n2 (.cons (.int _) (.cons t1 .nil))
    have s2' : Same H (upd (upd H p1 (.tup ps)) p2 (.tup [(fun i j => V.int (i + j)) f (st.ns.length : Nat), .ref p1])) := by
      rw [show (fun i j => V.int (i + j)) f ((st.ns.length : Nat) : Int) = V.int z by rw [← ez]]
      exact s2
    have R2 := R.same s2
    have R3 := R2.putN (s2 _ _ hn) (tn.kt (KT.same s2)) t2
    have hp3 : (upd (upd (upd H p1 (.tup ps)) p2 (.tup [V.int z, .ref p1])) N (.lst (vn ++ [.ref p2]))) p = some (.lst ps) := by
      rw [upd_ne np.1]
      exact s2 _ _ hp
    have hq3 : (upd (upd (upd H p1 (.tup ps)) p2 (.tup [V.int z, .ref p1])) N (.lst (vn ++ [.ref p2]))) q = some (.lst qs) := by
      rw [upd_ne nq.1]
      exact s2 _ _ hq
    have k3 : AK N W B H (upd (upd (upd H p1 (.tup ps)) p2 (.tup [V.int z, .ref p1])) N (.lst (vn ++ [.ref p2]))) := AK.trans (AK.same s2) AK.upN
    have tp3 := tp.kt (R.kt k3)
    have tq3 := tq.kt (R.kt k3)
    show tSeq _ _ _ _ (upd (upd (upd H p1 (.tup ps)) p2 (.tup [(fun i j => V.int (i + j)) f ((st.ns.length : Nat) : Int), .ref p1])) N (.lst (vn ++ [.ref p2])))
    rw [show (fun i j => V.int (i + j)) f ((st.ns.length : Nat) : Int) = V.int z by rw [← ez]]
    generalize upd (upd (upd H p1 (.tup ps)) p2 (.tup [V.int z, .ref p1])) N (.lst (vn ++ [.ref p2])) = H3 at R3 hp3 hq3 k3 tp3 tq3 ⊢
    obtain ⟨vn4, vc4, hn4, tn4, hc4, tc4⟩ := R3.ex
    have lc4 := tc4.len
    rw [List.length_map] at lc4
    have lc4 : vc4.length = st.cs.length := lc4
    have lp4 := tp3.len
    rw [List.length_map] at lp4
    refine ⟨_, rfl, S, _, dx, _, _, rfl, R3.ins, T.cl_Adding, T.n_Adding_said, rfl, .inl ⟨rfl, _, SqL.of hc4⟩, _, rfl, p, rfl, ⟨_, SqL.of hp3⟩, fun D4 m4 => lc_list (xs := ps) (fun i H' => TpT H3 H' D4 ((t.1.take i).map fun r => tI (negL r ++ [z]))) (TpT.new m4) (fun i H' _ y => SqL.of (y.s _ _ hp3)) (fun i x H' hx y => ?_) (fun H' y => ?_)⟩
    · have hi : i < t.1.length := by
        rw [← lp4]
        exact (List.getElem?_eq_some_iff.mp hx).1
      have hr0 : t.1[i]? = some t.1[i] := List.getElem?_eq_getElem hi
      have wr := w1 _ (List.getElem_mem hi)
      generalize t.1[i] = r0 at hr0 wr
      obtain ⟨v, hv, tv⟩ := tp3.get (show (t.1.map tI)[i]? = some (tI r0) by rw [List.getElem?_map, hr0]; rfl)
      rw [hx] at hv
      cases hv
      obtain ⟨a, rfl, ha⟩ := tp_row (tv.kt (KT.same y.s))
      refine ⟨rfl, yes_go ⟨_, rfl, a, r0, rfl, .inl ha, by omega, fun H1 b s1 hb => ⟨_, rfl, by show 1 ≤ sizeLine; decide, fun q nq => tup_cat (same_new nq _ _ hb) upd_same (by rw [List.length_map, negL_len]; show r0.length + 1 ≤ _; omega) fun H2 c s2 hc => ?_⟩⟩⟩
      have hc' : H2 c = some (.tup ((negL r0 ++ [z]).map V.int)) := by
        rw [hc, List.map_append]
        rfl
      rw [List.take_add_one, hr0, List.map_append]
      exact y.put m4 ((s1.trans (same_new nq)).trans s2) (by rw [List.length_map]; have := List.length_take_le i t.1; omega) (tp_ints hc')
    rw [lp4, List.take_length] at y
    obtain ⟨ys4, hy4, ty4⟩ := y.ex
    have ly4 := ty4.len
    rw [List.length_map] at ly4
    have ss4 := y.s
    refine ⟨W, D4, vc4, ys4, rfl, rfl, ss4 _ _ hc4, hy4, by omega, ?_⟩
    have ty4' : TpAll H' ys4 ((t.1.map fun r => negL r ++ [z]).map tI) := by
      rw [List.map_map]
      exact ty4
    have R4 := (R3.same ss4).putW (ss4 _ _ hc4) (tc4.kt (KT.same ss4)) ty4'
    have k4 : AK N W B H (upd H' W (.lst (vc4 ++ ys4))) := AK.trans k3 (AK.trans (AK.same ss4) AK.upW)
    have hq4 : (upd H' W (.lst (vc4 ++ ys4))) q = some (.lst qs) := by
      rw [upd_ne nq.2]
      exact ss4 _ _ hq3
    have tq4 := tq.kt (R.kt k4)
    have cs4 : vc4.length + ys4.length ≤ 1000200 := by
      have : vc4.length = st.cs.length := lc4
      omega
    generalize upd H' W (.lst (vc4 ++ ys4)) = H4 at R4 k4 hq4 tq4 ⊢
    clear hy4 ty4 ty4' ss4 y
    clear H'
    obtain ⟨vn5, vc5, hn5, tn5, hc5, tc5⟩ := R4.ex
    have lc5 := tc5.len
    rw [List.length_map] at lc5
    have lc5 : vc5.length = (st.cs ++ t.1.map fun r => negL r ++ [z]).length := lc5
    rw [List.length_append, List.length_map] at lc5
    have lp5 := tq4.len
    rw [List.length_map] at lp5
    refine ⟨_, rfl, S, _, dx, _, _, rfl, R4.ins, T.cl_Adding, T.n_Adding_said, rfl, .inl ⟨rfl, _, SqL.of hc5⟩, _, rfl, q, rfl, ⟨_, SqL.of hq4⟩, fun D5 m5 => lc_list (xs := qs) (fun i H' => TpT H4 H' D5 ((t.2.take i).map fun r => tI (negL r ++ [-z]))) (TpT.new m5) (fun i H' _ y => SqL.of (y.s _ _ hq4)) (fun i x H' hx y => ?_) (fun H' y => ?_)⟩
    · have hi : i < t.2.length := by
        rw [← lp5]
        exact (List.getElem?_eq_some_iff.mp hx).1
      have hr0 : t.2[i]? = some t.2[i] := List.getElem?_eq_getElem hi
      have wr := w2 _ (List.getElem_mem hi)
      generalize t.2[i] = r0 at hr0 wr
      obtain ⟨v, hv, tv⟩ := tq4.get (show (t.2.map tI)[i]? = some (tI r0) by rw [List.getElem?_map, hr0]; rfl)
      rw [hx] at hv
      cases hv
      obtain ⟨a, rfl, ha⟩ := tp_row (tv.kt (KT.same y.s))
      refine ⟨rfl, yes_go ⟨_, rfl, a, r0, rfl, .inl ha, by omega, fun H1 b s1 hb => ⟨_, rfl, _, rfl, by show 1 ≤ sizeLine; decide, fun q nq => tup_cat (same_new nq _ _ hb) upd_same (by rw [List.length_map, negL_len]; show r0.length + 1 ≤ _; omega) fun H2 c s2 hc => ?_⟩⟩⟩
      have hc' : H2 c = some (.tup ((negL r0 ++ [-z]).map V.int)) := by
        rw [hc, List.map_append]
        rfl
      rw [List.take_add_one, hr0, List.map_append]
      exact y.put m5 ((s1.trans (same_new nq)).trans s2) (by rw [List.length_map]; have := List.length_take_le i t.2; omega) (tp_ints hc')
    rw [lp5, List.take_length] at y
    obtain ⟨ys5, hy5, ty5⟩ := y.ex
    have ly5 := ty5.len
    rw [List.length_map] at ly5
    have ss5 := y.s
    refine ⟨W, D5, vc5, ys5, rfl, rfl, ss5 _ _ hc5, hy5, by omega, ?_⟩
    have ty5' : TpAll H' ys5 ((t.2.map fun r => negL r ++ [-z]).map tI) := by
      rw [List.map_map]
      exact ty5
    have R5 := (R4.same ss5).putW (ss5 _ _ hc5) (tc5.kt (KT.same ss5)) ty5'
    have k5 : AK N W B H (upd H' W (.lst (vc5 ++ ys5))) := AK.trans k4 (AK.trans (AK.same ss5) AK.upW)
    refine ⟨_, rfl, ?_⟩
    have e : (st.name f t).1 = ⟨st.ns ++ [(z, t.1)], st.cs ++ t.1.map (fun r => negL r ++ [z]) ++ t.2.map (fun r => negL r ++ [-z])⟩ := by
      rw [← ez]
      rfl
    exact k _ (by rw [e]; exact R5) k5
end

/-! ### an adding is made -/
theorem cut_from (xs : List V) (i : Nat) : cutV xs (some (i : Int)) none = xs.drop i := by
  unfold cutV
  rw [HT.sIx_none, HT.sIx_nat]
  by_cases h : i ≤ xs.length
  · rw [Nat.min_eq_left h, List.take_of_length_le (by rw [List.length_drop]; omega)]
  · rw [List.drop_eq_nil_of_le (by omega : xs.length ≤ min i xs.length), List.drop_eq_nil_of_le (by omega : xs.length ≤ i), List.take_nil]
theorem sumT_w (l : List Int) : (∀ m ∈ (sumT l).1, m.length ≤ 10) ∧ ∀ m ∈ (sumT l).2, m.length ≤ 10 := by
  unfold sumT
  split <;> simp
theorem carT_w (l : List Int) : (∀ m ∈ (carT l).1, m.length ≤ 10) ∧ ∀ m ∈ (carT l).2, m.length ≤ 10 := by
  unfold carT
  split <;> simp [negL]
theorem AK.none {N W B D : Addr} {H H' : Hp} (k : AK N W B H H') (n : D ≠ N ∧ D ≠ W ∧ D ≠ B) (e : H' D = Option.none) : H D = Option.none := by
  cases z : H D with
  | none => rfl
  | some o =>
    rw [k.k D o z n.1 n.2.1 n.2.2] at e
    cases e
theorem AK.put {N W B D : Addr} {o : HO} {H H' : Hp} (k : AK N W B H H') (e : H D = Option.none) : AK N W B H (upd H' D o) := ⟨fun b u z n1 n2 n3 => by
  rw [upd_ne (ne_of_none z e)]
  exact k.k b u z n1 n2 n3⟩
/-- another list is written -/
theorem AdR.put {H : Hp} {C S dx N W B D : Addr} {f : Int} {st : Adds} {bits : List Int} {xs ys : List V} (h : AdR H C S dx N W B f st bits) (n : D ≠ N ∧ D ≠ W ∧ D ≠ B) (e : H D = some (.lst xs)) : AdR (upd H D (.lst ys)) C S dx N W B f st bits := by
  obtain ⟨vn, vc, hn, tn, hc, tc⟩ := h.ex
  have k : KT H (upd H D (.lst ys)) := KT.lst e
  exact ⟨by rw [upd_ne (ne_of h.ins e (by intro z; cases z))]; exact h.ins, h.ne, by rw [upd_ne n.2.2.symm]; exact h.bt, vn, vc, by rw [upd_ne n.1.symm]; exact hn, tn.kt k, by rw [upd_ne n.2.1.symm]; exact hc, tc.kt k⟩
def spAdding (K : PySem.W.Frag) (C : Addr) : Sp := fun vs H Q _ => ∃ (S dx a : Addr) (f : Int) (l : List Int), vs = [.ref S, .ref a, .int f] ∧ H S = some (.ins C dx []) ∧ H a = some (.lst (l.map V.int)) ∧ l.length ≤ 60 ∧
  ∀ H' N W B, AdR H' C S dx N W B f (addOf f l).st (addOf f l).bits → (∀ b o, H b = some o → b ≠ S → H' b = some o) → H N = none → H W = none → H B = none → Q .non H'
section
variable {P : Program} {w : World} {K : PySem.W.Frag} {mg : Str → Option Value} {base : Heap}
theorem hi_adding {cs : Nat → Addr} (T : Top K mg cs) (h_Adding__name : HasM P w K mg base (cs 6) 2 "_name" ["self", "tuples"] (spAdName (cs 6))) (h__sum_tuples : Has P w K mg base 1 "_sum_tuples" ["marks"] (spTwo K sumT)) (h__carry_tuples : Has P w K mg base 2 "_carry_tuples" ["marks"] (spTwo K carT)) :
    HasI P w K mg base (cs 6) 3 "Adding" ["self", "marks", "first"] (spAdding K (cs 6)) := by
  refine has_ofI T.g_Adding T.i_Adding sc_Adding___init__ bd_Adding___init__ (fun vs H Q E h => ?_) (fun f cdv Ar outer s H vs Q E hr h => ?_)
  · obtain ⟨S, dx, a, f, l, rfl, _⟩ := h
    rfl
  · have hu := hu_of hr
    have nd := sc_Adding___init__.nd
    obtain ⟨S, dx, a, f, l, rfl, hS, ha, few, k⟩ := h
    refine ⟨_, (pss_cons (ps_fld (pv 0) (pv 2) rfl)
    (pss_cons (ps_fld (pv 0) (pe_lst pa_nil) rfl)
    (pss_cons (ps_fld (pv 0) (pe_lst pa_nil) rfl)
    (pss_cons (ps_fld (pv 0) (pe_lst pa_nil) rfl)
    (pss_cons (ps_set (i := 3) nd rfl (.inl rfl) (pe_callTy call_list_of (by rfl) T.b_list (by decide +kernel) (pa_cons (pv 1) pa_nil)))
    (pss_one (ps_while PassesOwn.never (pt_truth (pv 3) (by intro _; rfl)) (pss_cons (ps_set (i := 4) nd rfl (.inl rfl) (pe_lst pa_nil))
    (pss_cons (ps_while PassesOwn.never (pt_cmpR op_gt (pe_callB call_len_seq (by rfl) T.b_len (by decide +kernel) (pa_cons (pv 3) pa_nil)) pe_int (nomark _)) (pss_cons (ps_set (i := 5) nd rfl (.inl rfl) (pe_slice sl_list (pv 3) po_none (po_some pe_int)))
    (pss_cons (ps_set (i := 3) nd rfl (.inl rfl) (pe_op op_cat (pe_slice sl_list (pv 3) (po_some pe_int) po_none) (pe_lst (pa_cons (pe_hasM T.cl_Adding h_Adding__name (hr.mono (by omega)) (pv 0) (pa_cons (pe_has h__sum_tuples (hr.mono (by omega)) (by rfl) (pa_cons (pv 5) pa_nil)) pa_nil)) pa_nil))))
    (pss_one (ps_expr (pe_bm PySem.F.plainAttrs_list PySem.F.slot_list_append PySem.F.type_list_append mt_append (pv 4) (pa_cons (pe_hasM T.cl_Adding h_Adding__name (hr.mono (by omega)) (pv 0) (pa_cons (pe_has h__carry_tuples (hr.mono (by omega)) (by rfl) (pa_cons (pv 5) pa_nil)) pa_nil)) pa_nil)))))))
    (pss_cons (ps_expr (pe_bm PySem.F.plainAttrs_list PySem.F.slot_list_append PySem.F.type_list_append mt_append (pe_fld (pv 0) rfl) (pa_cons (pe_ix ix_list (pv 3) pe_int (fun _ _ => rfl)) pa_nil)))
    (pss_one (ps_set (i := 3) nd rfl (.inl rfl) (pv 4))))))))))))), ?_⟩
    have line : (5000000 : Nat) < sizeLine := by decide
    refine ⟨_, rfl, _, rfl, S, _, dx, _, rfl, hS, T.cl_Adding, T.n_Adding__first, by show 0 < 1000; decide, ?_⟩
    have kp : ∀ {G G' : Hp} {o : HO}, (∀ b o, H b = some o → b ≠ S → G b = some o) → (∀ b o, G b = some o → G' b = some o) → ∀ b u, H b = some u → b ≠ S → (upd G' S o) b = some u := fun {G G' o} k1 k2 b u e n => by
      rw [upd_ne n]
      exact k2 b u (k1 b u e n)
    have h1 : (upd H S (.ins (cs 6) dx (putF "_first" (.int f) []))) S = some (.ins (cs 6) dx (putF "_first" (.int f) [])) := upd_same
    have k1 := kp (o := .ins (cs 6) dx (putF "_first" (.int f) [])) (fun b o e _ => e) (Same.refl H)
    generalize upd H S (.ins (cs 6) dx (putF "_first" (.int f) [])) = H1 at h1 k1
    have out : ∀ {G : Hp} {N : Addr} {o : HO}, G S = some o → (∀ b o, H b = some o → b ≠ S → G b = some o) → G N = none → H N = none ∧ N ≠ S := fun {G N o} hG kG n => by
      have ne : N ≠ S := fun z => by
        rw [z, hG] at n
        cases n
      refine ⟨?_, ne⟩
      cases e : H N with
      | none => rfl
      | some u =>
        rw [kG N u e ne] at n
        cases n
    refine ⟨by show 0 ≤ sizeLine; decide, fun N nN => ⟨_, rfl, S, _, dx, _, rfl, same_new nN _ _ h1, T.cl_Adding, T.n_Adding_named, by show 1 < 1000; decide, ?_⟩⟩
    obtain ⟨oN, NS⟩ := out h1 k1 nN
    have h2 : (upd (upd H1 N (.lst [])) S (.ins (cs 6) dx (putF "named" (.ref N) (putF "_first" (.int f) [])))) S = some (.ins (cs 6) dx (putF "named" (.ref N) (putF "_first" (.int f) []))) := upd_same
    have k2 := kp (o := .ins (cs 6) dx (putF "named" (.ref N) (putF "_first" (.int f) []))) k1 (same_new nN (o := .lst []))
    have N2 : (upd (upd H1 N (.lst [])) S (.ins (cs 6) dx (putF "named" (.ref N) (putF "_first" (.int f) [])))) N = some (.lst []) := by
      rw [upd_ne NS]
      exact upd_same
    generalize upd (upd H1 N (.lst [])) S (.ins (cs 6) dx (putF "named" (.ref N) (putF "_first" (.int f) []))) = H2 at h2 k2 N2
    refine ⟨by show 0 ≤ sizeLine; decide, fun W nW => ⟨_, rfl, S, _, dx, _, rfl, same_new nW _ _ h2, T.cl_Adding, T.n_Adding_said, by show 2 < 1000; decide, ?_⟩⟩
    obtain ⟨oW, WS⟩ := out h2 k2 nW
    have NW : N ≠ W := ne_of_none N2 nW
    have h3 : (upd (upd H2 W (.lst [])) S (.ins (cs 6) dx (putF "said" (.ref W) (putF "named" (.ref N) (putF "_first" (.int f) []))))) S = some (.ins (cs 6) dx (putF "said" (.ref W) (putF "named" (.ref N) (putF "_first" (.int f) [])))) := upd_same
    have k3 := kp (o := .ins (cs 6) dx (putF "said" (.ref W) (putF "named" (.ref N) (putF "_first" (.int f) [])))) k2 (same_new nW (o := .lst []))
    have W3 : (upd (upd H2 W (.lst [])) S (.ins (cs 6) dx (putF "said" (.ref W) (putF "named" (.ref N) (putF "_first" (.int f) []))))) W = some (.lst []) := by
      rw [upd_ne WS]
      exact upd_same
    have N3 : (upd (upd H2 W (.lst [])) S (.ins (cs 6) dx (putF "said" (.ref W) (putF "named" (.ref N) (putF "_first" (.int f) []))))) N = some (.lst []) := by
      rw [upd_ne NS, upd_ne NW]
      exact N2
    generalize upd (upd H2 W (.lst [])) S (.ins (cs 6) dx (putF "said" (.ref W) (putF "named" (.ref N) (putF "_first" (.int f) [])))) = H3 at h3 k3 W3 N3
    refine ⟨by show 0 ≤ sizeLine; decide, fun B nB => ⟨_, rfl, S, _, dx, _, rfl, same_new nB _ _ h3, T.cl_Adding, T.n_Adding_bits, by show 3 < 1000; decide, ?_⟩⟩
    obtain ⟨oB, BS⟩ := out h3 k3 nB
    have NB : N ≠ B := ne_of_none N3 nB
    have WB : W ≠ B := ne_of_none W3 nB
    have R4 : AdR (upd (upd H3 B (.lst [])) S (.ins (cs 6) dx (putF "bits" (.ref B) (putF "said" (.ref W) (putF "named" (.ref N) (putF "_first" (.int f) [])))))) (cs 6) S dx N W B f ⟨[], []⟩ [] := by
      refine ⟨upd_same, ⟨NW, NB, WB⟩, ?_, [], [], ?_, .nil, ?_, .nil⟩
      · rw [upd_ne BS]
        exact upd_same
      · rw [upd_ne NS, upd_ne NB]
        exact N3
      · rw [upd_ne WS, upd_ne WB]
        exact W3
    have k4 := kp (o := .ins (cs 6) dx (putF "bits" (.ref B) (putF "said" (.ref W) (putF "named" (.ref N) (putF "_first" (.int f) []))))) k3 (same_new nB (o := .lst []))
    have a4 := k4 a _ ha (ne_of ha hS (by intro z; cases z))
    generalize upd (upd H3 B (.lst [])) S (.ins (cs 6) dx (putF "bits" (.ref B) (putF "said" (.ref W) (putF "named" (.ref N) (putF "_first" (.int f) []))))) = H4 at R4 k4 a4
    refine ⟨_, rfl, a, _, rfl, .inl (SqL.of a4), fun D0 n0 => ?_⟩
    -- a list that is new stands beside the net's own
    have apart : ∀ {G : Hp} {st : Adds} {bits : List Int} {D : Addr}, AdR G (cs 6) S dx N W B f st bits → G D = none → D ≠ N ∧ D ≠ W ∧ D ≠ B := fun {G st bits D} R n => by
      obtain ⟨⟨_, e1⟩, ⟨_, e2⟩, ⟨_, e3⟩⟩ := R.lsts
      exact ⟨(ne_of_none e1 n).symm, (ne_of_none e2 n).symm, (ne_of_none e3 n).symm⟩
    refine ⟨fun m σ H' => ∃ (z : Addg) (Dc : Addr) (v4 v5 : Option V), m = z.col.length ∧ σ = [some (.ref S), some (.ref a), some (.int f), some (.ref Dc), v4, v5] ∧ AdR H' (cs 6) S dx N W B f z.st z.bits ∧ H' Dc = some (.lst (z.col.map V.int)) ∧ (Dc ≠ N ∧ Dc ≠ W ∧ Dc ≠ B) ∧
      AddB l.length z ∧ z.run f l.length = addOf f l ∧ z.col.length ≤ l.length ∧ AK N W B H4 H', ⟨l.length, ⟨⟨[], []⟩, [], l⟩, D0, none, none, rfl, rfl, R4.same (same_new n0), upd_same, apart R4 n0, addB0 l, rfl, Nat.le_refl _, AK.same (same_new n0)⟩, ?_⟩
    rintro m σ H5 ⟨z, Dc, v4, v5, rfl, rfl, R5, hDc, nDc, zb, zr, zl, k5⟩
    refine ⟨_, rfl, _, .inl ⟨_, SqL.of hDc, rfl⟩, ?_⟩
    refine ite2 (fun c => ?_) (fun c => ?_)
    rotate_left
    · -- no column is left
      have ze : z.col = [] := by
        cases e : z.col with
        | nil => rfl
        | cons x r =>
          rw [e] at c
          exact absurd rfl c
      rw [Addg.run_end ze] at zr
      rw [← zr] at k
      refine k H5 N W B R5 (fun b o e n => k5.k b o (k4 b o e n) (ne_of_none e oN) (ne_of_none e oW) (ne_of_none e oB)) oN oW oB
    have zc : z.col ≠ [] := fun e => by
      rw [e] at c
      cases c
    have zn : z.st.ns.length ≤ 100000 - 1000 ∧ z.st.cs.length ≤ 1000000 - 10000 := by
      have := zb.n
      have := zb.w
      have : l.length * (l.length + 1) ≤ 60 * 61 := Nat.mul_le_mul few (by omega)
      omega
    refine ⟨_, fun σ' H' h => h, by show 0 ≤ sizeLine; decide, fun Dk nk => ?_⟩
    -- the column's own turns
    refine ⟨fun m σ H' => ∃ (y : Colm) (Dc Dk : Addr) (v5 : Option V), m = y.col.length ∧ σ = [some (.ref S), some (.ref a), some (.int f), some (.ref Dc), some (.ref Dk), v5] ∧ AdR H' (cs 6) S dx N W B f y.st z.bits ∧ H' Dc = some (.lst (y.col.map V.int)) ∧ H' Dk = some (.lst (y.car.map V.int)) ∧
      (Dc ≠ N ∧ Dc ≠ W ∧ Dc ≠ B) ∧ (Dk ≠ N ∧ Dk ≠ W ∧ Dk ≠ B) ∧ Dk ≠ Dc ∧ H4 Dk = none ∧ ColB z y ∧ y.run f z.col.length = z.colm f ∧ y.col.length ≤ z.col.length ∧ AK N W B H4 H', ⟨z.col.length, ⟨z.st, z.col, []⟩, Dc, Dk, v5, rfl, rfl, R5.same (same_new nk), same_new nk _ _ hDc, upd_same, nDc, apart R5 nk, (ne_of_none hDc nk).symm, AK.none k5 (apart R5 nk) nk, zb.colB zc, rfl, Nat.le_refl _, AK.trans k5 (AK.same (same_new nk))⟩, ?_⟩
    clear hDc nDc R5 k5 nk Dk v5 v4 Dc H5 c
    rintro m σ H5 ⟨y, Dc, Dk, v5, rfl, rfl, R5, hDc, hDk, nDc, nDk, nkc, zk, yb, yr, yl, k5⟩
    refine ⟨_, rfl, Dc, _, rfl, .inl (SqL.of hDc), _, _, rfl, rfl, _, rfl, ?_⟩
    have hl : ((y.col.map V.int).length : Int) = (y.col.length : Int) := by rw [List.length_map]
    have ynb : y.st.ns.length ≤ 100000 - 500 ∧ y.st.cs.length ≤ 1000000 - 5000 := by
      have := yb.n
      have := yb.w
      have := zb.n
      have : l.length * (l.length + 1) ≤ 60 * 61 := Nat.mul_le_mul few (by omega)
      have : z.col.length ≤ 60 := by omega
      omega
    refine ite2 (fun c => ?_) (fun c => ?_)
    rotate_left
    · -- the column is summed up
      have c1 : ¬ 1 < y.col.length := fun q => c (decide_eq_true (by show (1 : Int) < _; omega))
      have l1 : y.col.length = 1 := by
        have := yb.l
        omega
      rw [Colm.run_end c1] at yr
      obtain ⟨b0, eb⟩ : ∃ b0, y.col = [b0] := by
        match h : y.col, l1 with
        | [b0], _ => exact ⟨b0, rfl⟩
      rw [eb] at hDc
      have bs := zb.b
      refine ⟨_, rfl, S, _, dx, _, _, rfl, R5.ins, T.cl_Adding, T.n_Adding_bits, rfl, .inl ⟨rfl, _, SqL.of R5.bt⟩, _, rfl, Dc, _, 0, .int b0, rfl, rfl, SqL.of hDc, rfl, B, _, _, rfl, rfl, R5.bt, by rw [List.length_map]; omega, ?_⟩
      have R6 := R5.putB (b := b0)
      have hDk6 : (upd H5 B (.lst (z.bits.map V.int ++ [.int b0]))) Dk = some (.lst (y.car.map V.int)) := by
        rw [upd_ne nDk.2.2]
        exact hDk
      obtain ⟨zb2, zl2⟩ := zb.step (f := f) zc
      have e1 : (z.step f).st = y.st := by
        show (z.colm f).st = _
        rw [← yr]
      have e2 : (z.step f).bits = z.bits ++ [b0] := by
        show z.bits ++ [(z.colm f).col.headD 0] = _
        rw [← yr, eb]
        rfl
      have e3 : (z.step f).col = y.car := by
        show (z.colm f).car = _
        rw [← yr]
      refine ⟨_, rfl, (z.step f).col.length, by omega, z.step f, Dk, _, _, rfl, rfl, ?_, ?_, nDk, zb2, ?_, by omega, AK.trans k5 AK.upB⟩
      · rw [e1, e2]
        exact R6
      · rw [e3]
        exact hDk6
      · rw [← zr]
        exact (Addg.run_step zb zc zl).symm
    · have c1 : 1 < y.col.length := by
        have := of_decide_eq_true c
        have : (1 : Int) < ((y.col.map V.int).length : Int) := this
        omega
      have ct : cutV (y.col.map V.int) none (some 3) = (y.col.take 3).map V.int := (cut_nat0 _ 3).trans (List.map_take ..).symm
      have cd : cutV (y.col.map V.int) (some 3) none = (y.col.drop 3).map V.int := (cut_from _ 3).trans (List.map_drop ..).symm
      have ok3 := take3 c1
      refine ⟨_, fun σ' H' h => h, _, rfl, 3, rfl, Dc, _, rfl, SqL.of hDc, fun Dt nt => ?_⟩
      rw [ct]
      have aDt := apart R5 nt
      have hDt : (upd H5 Dt (.lst ((y.col.take 3).map V.int))) Dt = some (.lst ((y.col.take 3).map V.int)) := upd_same
      have s6 := same_new nt (o := .lst ((y.col.take 3).map V.int))
      have R6 := R5.same s6
      generalize upd H5 Dt (.lst ((y.col.take 3).map V.int)) = H6 at hDt s6 R6 ⊢
      refine ⟨_, rfl, 3, rfl, Dc, _, rfl, SqL.of (s6 _ _ hDc), fun D3 n3 => ?_⟩
      rw [cd]
      have aD3 := apart R6 n3
      have hD3 : (upd H6 D3 (.lst ((y.col.drop 3).map V.int))) D3 = some (.lst ((y.col.drop 3).map V.int)) := upd_same
      have s7 := same_new n3 (o := .lst ((y.col.drop 3).map V.int))
      have R7 := R6.same s7
      have s57 := s6.trans s7
      have hDt7 := s7 _ _ hDt
      generalize upd H6 D3 (.lst ((y.col.drop 3).map V.int)) = H7 at hD3 s7 R7 s57 hDt7 ⊢
      refine ⟨_, rfl, S, dx, _, rfl, R7.ins, rfl, _, rfl, Dt, _, rfl, SqL.of hDt7, ok3, fun H8 r8 s8 two => ?_⟩
      obtain ⟨p8, q8, vs8, ws8, hr8, hp8, tp8, hq8, tq8, np8, nq8, _⟩ := two.ex
      have R8 := R7.same s8
      have ap := apart R7 np8
      have aq := apart R7 nq8
      have fw := sumT_few (y.col.take 3)
      refine ⟨S, dx, N, W, B, r8, p8, q8, f, y.st, z.bits, _, _, _, rfl, R8, hr8, hp8, tp8, hq8, tq8, ⟨ap.1, ap.2.1⟩, ⟨aq.1, aq.2.1⟩, by omega, by omega, by omega, by omega, (sumT_w _).1, (sumT_w _).2, fun H9 R9 k9 => ?_⟩
      have keep9 : ∀ {D : Addr} {xs : List V}, (D ≠ N ∧ D ≠ W ∧ D ≠ B) → H7 D = some (.lst xs) → H9 D = some (.lst xs) := fun {D xs} n e => k9.k D _ (s8 _ _ e) n.1 n.2.1 n.2.2
      have hD39 := keep9 aD3 hD3
      have hDk9 := keep9 nDk (s57 _ _ hDk)
      have hDt9 := keep9 aDt hDt7
      have k59 : AK N W B H4 H9 := AK.trans k5 (AK.trans (AK.same (s57.trans s8)) k9)
      have n1e : (y.st.name f (sumT (y.col.take 3))).1.ns.length = y.st.ns.length + 1 := Adds.name_ns
      have c1e : (y.st.name f (sumT (y.col.take 3))).1.cs.length = y.st.cs.length + (sumT (y.col.take 3)).1.length + (sumT (y.col.take 3)).2.length := Adds.name_cs
      generalize eS : y.st.name f (sumT (y.col.take 3)) = sS at R9 n1e c1e
      have s2e : f + ((y.st.ns.length : Nat) : Int) = sS.2 := by
        rw [← eS]
        rfl
      rw [s2e]
      refine ⟨by show 1 ≤ sizeLine; decide, fun Dn nn => ⟨D3, Dn, _, _, rfl, rfl, same_new nn _ _ hD39, upd_same, by rw [List.length_map, List.length_drop]; show _ + 1 ≤ _; omega, fun Dm nm => ?_⟩⟩
      have s10 := (same_new nn (o := .lst [V.int sS.2])).trans (same_new nm (o := .lst ((y.col.drop 3).map V.int ++ [V.int sS.2])))
      have aDm := apart (R9.same (same_new nn (o := .lst [V.int sS.2]))) nm
      have hDm : (upd (upd H9 Dn (.lst [V.int sS.2])) Dm (.lst ((y.col.drop 3).map V.int ++ [V.int sS.2]))) Dm = some (.lst ((y.col.drop 3 ++ [sS.2]).map V.int)) := by
        rw [upd_same, List.map_append]
        rfl
      have nkm : Dk ≠ Dm := ne_of_none (same_new nn (o := .lst [V.int sS.2]) _ _ hDk9) nm
      have R10 := R9.same s10
      have hDk10 := s10 _ _ hDk9
      have hDt10 := s10 _ _ hDt9
      generalize upd (upd H9 Dn (.lst [V.int sS.2])) Dm (.lst ((y.col.drop 3).map V.int ++ [V.int sS.2])) = H10 at s10 hDm R10 hDk10 hDt10 ⊢
      refine ⟨_, rfl, .inl ⟨rfl, _, SqL.of hDk10⟩, _, rfl, S, dx, _, rfl, R10.ins, rfl, _, rfl, Dt, _, rfl, SqL.of hDt10, ok3, fun H11 r11 s11 two => ?_⟩
      obtain ⟨p11, q11, vs11, ws11, hr11, hp11, tp11, hq11, tq11, np11, nq11, _⟩ := two.ex
      have R11 := R10.same s11
      have ap := apart R10 np11
      have aq := apart R10 nq11
      have fw2 := carT_few (y.col.take 3)
      refine ⟨S, dx, N, W, B, r11, p11, q11, f, sS.1, z.bits, _, _, _, rfl, R11, hr11, hp11, tp11, hq11, tq11, ⟨ap.1, ap.2.1⟩, ⟨aq.1, aq.2.1⟩, by omega, by omega, by omega, by omega, (carT_w _).1, (carT_w _).2, fun H12 R12 k12 => ?_⟩
      have keep12 : ∀ {D : Addr} {xs : List V}, (D ≠ N ∧ D ≠ W ∧ D ≠ B) → H10 D = some (.lst xs) → H12 D = some (.lst xs) := fun {D xs} n e => k12.k D _ (s11 _ _ e) n.1 n.2.1 n.2.2
      have hDm12 := keep12 aDm hDm
      have hDk12 := keep12 nDk hDk10
      have k412 : AK N W B H4 H12 := AK.trans k59 (AK.trans (AK.same (s10.trans s11)) k12)
      have cb := yb.c
      refine ⟨Dk, _, _, rfl, rfl, hDk12, by rw [List.length_map]; omega, ?_⟩
      have st := Colm.step_col (f := f) c1
      have es : y.step f = ⟨(sS.1.name f (carT (y.col.take 3))).1, y.col.drop 3 ++ [sS.2], y.car ++ [(sS.1.name f (carT (y.col.take 3))).2]⟩ := by
        rw [← eS]
        rfl
      have R13 : AdR (upd H12 Dk (.lst (y.car.map V.int ++ [.int (f + (sS.1.ns.length : Nat))]))) (cs 6) S dx N W B f (y.step f).st z.bits := by
        rw [es]
        exact R12.put nDk hDk12
      refine ⟨(y.step f).col.length, by omega, y.step f, Dm, Dk, _, rfl, rfl, R13, ?_, ?_, aDm, nDk, nkm, zk, yb.step c1, ?_, by omega, k412.put zk⟩
      · rw [upd_ne nkm.symm, es]
        exact hDm12
      · rw [upd_same, es, List.map_append]
        rfl
      · rw [← yr]
        exact (Colm.run_step c1 yl).symm
end

/-! ### over enumerate(xs) -/
theorem for_enum {K : PySem.W.Frag} {a : Addr} {xs : List V} {g : TG} {tb : TS} {D : Ends} {σ : L2.St} {H : Hp} (Pv : Nat → L2.St → Hp → Prop) (h0 : Pv 0 σ H) (hl : ∀ i σ H, i ≤ xs.length → Pv i σ H → SqL K H a xs)
    (hs : ∀ (i : Nat) x T σ H, xs[i]? = some x → Pv i σ H → H T = none → g (.ref T) σ (upd H T (.tup [.int (i : Nat), x])) fun σ2 H2 => tb { D with nx := Pv (i + 1), ct := Pv (i + 1), bk := D.nx } σ2 H2) (hd : ∀ σ H, Pv xs.length σ H → D.nx σ H) :
    ∃ W : Nat → Nat → L2.St → Hp → Prop, (∃ m, W 0 m σ H) ∧ ∀ i m σ H, W i m σ H →
      ((Ite K a).stop i H ∧ D.nx σ H) ∨ ((Ite K a).go i H ∧ ∃ N : L2.St → Hp → Prop, (∀ σ' H', N σ' H' → ∃ m', m' < m ∧ W (i + 1) m' σ' H') ∧ ∀ x H', (Ite K a).yld i H x H' → g x σ H' fun σ2 H2 => tb { D with nx := N, ct := N, bk := D.nx } σ2 H2) := by
  refine ⟨fun i m σ H => m = xs.length - i ∧ i ≤ xs.length ∧ Pv i σ H, ⟨xs.length, by simp, Nat.zero_le _, h0⟩, ?_⟩
  rintro i m σ H ⟨rfl, hi, p⟩
  have q := hl i σ H hi p
  by_cases hlt : i < xs.length
  · refine .inr ⟨⟨xs, xs[i], q, by simp [hlt]⟩, Pv (i + 1), fun σ' H' p' => ⟨xs.length - (i + 1), by omega, rfl, hlt, p'⟩, fun x H' y => ?_⟩
    obtain ⟨T, x, rfl, nT, rfl, f⟩ := y
    exact hs i x T σ _ (f xs q) p nT
  · have e : i = xs.length := by omega
    subst e
    exact .inl ⟨⟨xs, q, Nat.le_refl _⟩, hd σ H p⟩
theorem lc_enum {K : PySem.W.Frag} {a : Addr} {xs : List V} {g : TG} {tt : TT} {te : TE} {vs : List Nat} {σ : L2.St} {H1 : Hp} {D : Addr} {Qd : Hp → Prop} (Pv : Nat → Hp → Prop) (h0 : Pv 0 (upd H1 D (.lst [])))
    (hq : ∀ n H, Pv n H → SqL K H a xs)
    (hs : ∀ (n : Nat) x T H, xs[n]? = some x → Pv n H → H T = none → g (.ref T) (wipe σ vs) (upd H T (.tup [.int (n : Nat), x])) fun σ2 H2 => wipe σ2 vs = wipe σ vs ∧ tt σ2 H2 fun c H3 =>
      if c = true then te σ2 H3 fun y H4 => ∃ acc, H4 D = some (.lst acc) ∧ acc.length < sizeLine ∧ Pv (n + 1) (upd H4 D (.lst (acc ++ [y]))) else Pv (n + 1) H3) (hd : ∀ H, Pv xs.length H → Qd H) :
    ∃ W : Nat → Nat → Hp → Prop, (∃ m, W 0 m (upd H1 D (.lst []))) ∧ ∀ n m H, W n m H →
      ((Ite K a).stop n H ∧ Qd H) ∨ ((Ite K a).go n H ∧ ∃ Nx : Hp → Prop, (∀ H', Nx H' → ∃ m', m' < m ∧ W (n + 1) m' H') ∧ ∀ x H', (Ite K a).yld n H x H' → g x (wipe σ vs) H' fun σ2 H2 => wipe σ2 vs = wipe σ vs ∧ tt σ2 H2 fun c H3 =>
        if c = true then te σ2 H3 fun y H4 => ∃ acc, H4 D = some (.lst acc) ∧ acc.length < sizeLine ∧ Nx (upd H4 D (.lst (acc ++ [y]))) else Nx H3) := by
  refine ⟨fun n m H => m = xs.length - n ∧ n ≤ xs.length ∧ Pv n H, ⟨xs.length, rfl, Nat.zero_le _, h0⟩, ?_⟩
  rintro n m H ⟨rfl, hn, pv⟩
  have qx := hq n H pv
  by_cases lt : n < xs.length
  · refine .inr ⟨⟨xs, _, qx, List.getElem?_eq_getElem lt⟩, Pv (n + 1), fun H' p' => ⟨xs.length - (n + 1), by omega, rfl, lt, p'⟩, fun v H' y => ?_⟩
    obtain ⟨T, x, rfl, nT, rfl, f⟩ := y
    exact hs n x T H (f xs qx) pv nT
  · have e : n = xs.length := by omega
    subst e
    exact .inl ⟨⟨xs, qx, Nat.le_refl _⟩, hd H pv⟩

/-! ### the clauses of the bits -/
def bitO (m : Int) (j : Nat) : Int := Builtin.bitAnd (m / 2 ^ ((j : Int)).toNat) 1
/-- the bits above place p that m has, of the first n -/
def hiN (bits : List Int) (m : Int) (p : Nat) : Nat → List Int
  | 0 => []
  | n + 1 => hiN bits m p n ++ (if p < n ∧ bitO m n = 1 then [bits.getD n 0] else [])
def lastN (bits : List Int) (m : Int) : Nat → List (List Int)
  | 0 => []
  | n + 1 => lastN bits m n ++ (if bitO m n = 0 then [negL (bits.getD n 0 :: hiN bits m n bits.length)] else [])
def lastC (bits : List Int) (m : Int) : List (List Int) := if bits.length < Builtin.Int.intBits m then [] else lastN bits m bits.length
theorem hiN_len (bits : List Int) (m : Int) (p : Nat) : ∀ n, (hiN bits m p n).length ≤ n
  | 0 => Nat.le_refl _
  | n + 1 => by
    have := hiN_len bits m p n
    show (hiN bits m p n ++ _).length ≤ _
    rw [List.length_append]
    split
    · show _ + 1 ≤ _
      omega
    · show _ + 0 ≤ _
      omega
theorem lastN_len (bits : List Int) (m : Int) : ∀ n, (lastN bits m n).length ≤ n
  | 0 => Nat.le_refl _
  | n + 1 => by
    have := lastN_len bits m n
    show (lastN bits m n ++ _).length ≤ _
    rw [List.length_append]
    split
    · show _ + 1 ≤ _
      omega
    · show _ + 0 ≤ _
      omega
theorem lastC_len (bits : List Int) (m : Int) : (lastC bits m).length ≤ bits.length := by
  unfold lastC
  split
  · exact Nat.zero_le _
  · exact lastN_len _ _ _
theorem TpT.same {H H' H2 : Hp} {D : Addr} {ds : List PyData} (z : TpT H H' D ds) (s : Same H' H2) : TpT H H2 D ds := by
  obtain ⟨xs, h, t⟩ := z.ex
  exact ⟨z.s.trans s, xs, s _ _ h, t.kt (KT.same s)⟩
def spLast (K : PySem.W.Frag) : Sp := fun vs H Q _ => ∃ (a : Addr) (bits : List Int) (m : Int), vs = [.ref a, .int m] ∧ SqL K H a (bits.map V.int) ∧ bits.length ≤ 500 ∧
  ∀ H' q ys, Same H H' → H q = none → H' q = some (.lst ys) → TpAll H' ys ((lastC bits m).map tI) → Q (.ref q) H'
section
variable {P : Program} {w : World} {K : PySem.W.Frag} {mg : Str → Option Value} {base : Heap}
theorem has_last {cs : Nat → Addr} (T : Top K mg cs) (h_others : Has P w K mg base 1 "others" ["marks"] (spNeg2 K)) : Has P w K mg base 2 "_last_clauses" ["bits", "most"] (spLast K) := by
  refine has_of T.d__last_clauses sc__last_clauses bd__last_clauses (fun vs H Q E h => ?_) (fun f cdv A outer s H vs Q E hr h => ?_)
  · obtain ⟨a, bits, m, rfl, _⟩ := h
    rfl
  · have hu := hu_of hr
    have nd := sc__last_clauses.nd
    obtain ⟨a, bits, m, rfl, ha, few, k⟩ := h
    refine ⟨_, (pss_cons (ps_if (pt_cmpR op_gt (pe_bits (pv 1)) (pe_callB call_len_seq (by rfl) T.b_len (by decide +kernel) (pa_cons (pv 0) pa_nil)) (nomark _)) (pss_one (ps_ret (pe_lst pa_nil))) pss_nil)
    (pss_cons (ps_set (i := 2) nd rfl (.inl rfl) (pe_lst pa_nil))
    (pss_cons (ps_for PassesOwn.never rfl (pi_enum (by rfl) T.b_enumerate (pa_cons (pv 0) pa_nil)) (pg_tup (by rfl) (pgs_cons (pg_name (i := 3) nd rfl (.inr rfl)) (pgs_cons (pg_name (i := 4) nd rfl (.inl rfl)) pgs_nil)))
      (pss_one (ps_if (pt_cmpR op_eq (pe_op op_and (pe_op op_shr (pv 1) (pv 3)) pe_int) pe_int (nomark _)) (pss_cons (ps_setLc (i := 5) (own := [("at", 6), ("one", 7)]) (by rfl) nd rfl rfl (sw_true rfl rfl rfl (by decide +kernel)) (pi_enum (by rfl) T.b_enumerate (pa_cons (pv 0) pa_nil)) (blkOk_by (own := [("at", 6), ("one", 7)]) (N := nm__last_clauses) (sc := defScope s__last_clauses) (by decide +kernel)) (fun _ _ _ _ _ => pg_tupK (K := K) (n := 2) rfl (by rfl) (pgs_cons (pg_name (i := 6) nd rfl (.inl rfl)) (pgs_cons (pg_name (i := 7) nd rfl (.inl rfl)) pgs_nil))) (fun _ _ _ _ _ => pts_one (PW.pt (pw_and (pt_cmpR op_gt (pv 6) (pv 3) (nomark _)) (pw_and1 (pt_cmpR op_eq (pe_op op_and (pe_op op_shr (pv 1) (pv 6)) pe_int) pe_int (nomark _)))))) (fun _ _ _ _ _ => (pv 7)))
    (pss_one (ps_expr (pe_bm PySem.F.plainAttrs_list PySem.F.slot_list_append PySem.F.type_list_append mt_append (pv 2) (pa_cons (pe_has h_others (hr.mono (by omega)) (by rfl) (pa_cons (pe_op op_cat (pe_lst (pa_cons (pv 4) pa_nil)) (pv 5)) pa_nil)) pa_nil))))) pss_nil)))
    (pss_one (ps_ret (pv 2)))))), ?_⟩
    have line : (5000000 : Nat) < sizeLine := by decide
    have hl : ((bits.map V.int).length : Int) = (bits.length : Int) := by rw [List.length_map]
    refine ⟨_, rfl, m, rfl, _, rfl, a, _, rfl, .inl ha, _, _, rfl, rfl, _, rfl, ite2 (fun c => ?_) (fun c => ?_)⟩
    · have c1 : bits.length < Builtin.Int.intBits m := by
        have c : ((bits.map V.int).length : Int) < ((Builtin.Int.intBits m : Nat) : Int) := of_decide_eq_true c
        omega
      have e : lastC bits m = [] := if_pos c1
      rw [e] at k
      exact ⟨by show 0 ≤ sizeLine; decide, fun q nq => k _ q [] (same_new nq) nq upd_same .nil⟩
    have c1 : ¬ bits.length < Builtin.Int.intBits m := fun z => c (decide_eq_true (by show ((bits.map V.int).length : Int) < ((Builtin.Int.intBits m : Nat) : Int); omega))
    have e : lastC bits m = lastN bits m bits.length := if_neg c1
    rw [e] at k
    refine ⟨by show 0 ≤ sizeLine; decide, fun D nD => ?_⟩
    have s0 := same_new nD (o := .lst [])
    refine ⟨_, rfl, a, _, rfl, s0.seq ha, for_enum (xs := bits.map V.int) (fun i σ H' => ∃ (v3 v4 v5 : Option V), σ = [some (.ref a), some (.int m), some (.ref D), v3, v4, v5, none, none] ∧ TpT H H' D ((lastN bits m i).map tI)) ⟨none, none, none, rfl, TpT.new nD⟩ ?_ ?_ ?_⟩
    · rintro i σ H' _ ⟨_, _, _, _, z⟩
      exact z.s.seq ha
    · rintro i x Tp0 σ H' hx ⟨v3, v4, v5, rfl, z⟩ nT
      obtain ⟨b, rfl, hb⟩ := int_at hx
      have hi : i < bits.length := (List.getElem?_eq_some_iff.mp hb).1
      have bD : bits.getD i 0 = b := by
        rw [List.getD_eq_getElem?_getD, hb]
        rfl
      refine ⟨Tp0, _, rfl, SqT.of upd_same, rfl, _, _, rfl, _, _, rfl, rfl, ?_⟩
      have sT := same_new nT (o := .tup [V.int (i : Nat), V.int b])
      have z1 := z.same sT
      have ha1 : SqL K (upd H' Tp0 (.tup [V.int (i : Nat), V.int b])) a (bits.map V.int) := z1.s.seq ha
      generalize upd H' Tp0 (.tup [V.int (i : Nat), V.int b]) = H1 at z1 ha1 ⊢
      refine ⟨_, rfl, _, rfl, m, _, rfl, rfl, Int.natCast_nonneg _, _, _, rfl, rfl, rfl, _, rfl, ite2 (fun c => ?_) (fun c => ?_)⟩
      · have c1 : bitO m i = 0 := V.int.inj (of_decide_eq_true c)
        have e2 : lastN bits m (i + 1) = lastN bits m i ++ [negL (b :: hiN bits m i bits.length)] := by
          show lastN bits m i ++ _ = _
          rw [if_pos c1, bD]
        refine ⟨_, rfl, a, _, rfl, ha1, fun Z nZ => lc_enum (xs := bits.map V.int) (fun j Hc => TpT H1 Hc Z ((hiN bits m i j).map PyData.int)) (TpT.new nZ) (fun j Hc y => y.s.seq ha1) (fun j x p Hc hx y np => ?_) (fun Hc y => ?_)⟩
        · obtain ⟨b1, rfl, hb1⟩ := int_at hx
          have b1D : bits.getD j 0 = b1 := by
            rw [List.getD_eq_getElem?_getD, hb1]
            rfl
          have hj : j < bits.length := (List.getElem?_eq_some_iff.mp hb1).1
          have sp := same_new np (o := .tup [V.int (j : Nat), V.int b1])
          have hN := hiN_len bits m i j
          have no : ¬ (i < j ∧ bitO m j = 1) → TpT H1 (upd Hc p (.tup [V.int (j : Nat), V.int b1])) Z ((hiN bits m i (j + 1)).map PyData.int) := fun q => by
            have e3 : hiN bits m i (j + 1) = hiN bits m i j := by
              show hiN bits m i j ++ _ = _
              rw [if_neg q, List.append_nil]
            rw [e3]
            exact y.same sp
          refine ⟨p, _, rfl, SqT.of upd_same, rfl, _, _, rfl, _, _, rfl, rfl, rfl, _, rfl, _, rfl, _, _, rfl, rfl, _, rfl, ite2 (fun c2 => ?_) (fun c2 => ?_)⟩
          · have c3 : i < j := by
              have := of_decide_eq_true c2
              omega
            refine ⟨_, rfl, _, rfl, m, _, rfl, rfl, Int.natCast_nonneg _, _, _, rfl, rfl, rfl, _, rfl, ite2 (fun c4 => ?_) (fun c4 => ?_)⟩
            · have c5 : bitO m j = 1 := V.int.inj (of_decide_eq_true c4)
              have e3 : (hiN bits m i (j + 1)).map PyData.int = (hiN bits m i j).map PyData.int ++ [.int b1] := by
                show (hiN bits m i j ++ _).map _ = _
                rw [if_pos ⟨c3, c5⟩, b1D, List.map_append]
                rfl
              refine ⟨_, rfl, ?_⟩
              rw [e3]
              exact y.put nZ sp (by rw [List.length_map]; omega) (.int _)
            · exact no fun q => c4 (decide_eq_true (congrArg V.int q.2))
          · exact no fun q => c2 (decide_eq_true (by show ((i : Nat) : Int) < ((j : Nat) : Int); omega))
        · rw [List.length_map] at y
          obtain ⟨ys, hy, ty⟩ := y.ex
          rw [tpall_inv ty] at hy
          obtain ⟨ds, hD, tD⟩ := (z1.same y.s).ex
          have lD := tD.len
          rw [List.length_map] at lD
          have hN := hiN_len bits m i bits.length
          have lN := lastN_len bits m i
          refine ⟨_, rfl, .inl ⟨rfl, _, SqL.of hD⟩, _, rfl, by show 1 ≤ sizeLine; decide, fun L1 n1 => ⟨_, rfl, L1, Z, _, _, rfl, rfl, upd_same, same_new n1 _ _ hy, by rw [List.length_map]; show 1 + _ ≤ _; omega, fun L2 n2 => ⟨L2, b :: hiN bits m i bits.length, rfl, .inr (SqL.of upd_same), by rw [List.length_cons]; omega, fun H3 r s3 hr3 => ?_⟩⟩⟩
          have s13 := ((same_new n1 (o := .lst [V.int b])).trans (same_new n2 (o := .lst ([V.int b] ++ (hiN bits m i bits.length).map V.int)))).trans s3
          have z3 := (z1.same y.s).same s13
          refine ⟨D, ds, _, rfl, rfl, s13 _ _ hD, by omega, _, _, _, rfl, ?_⟩
          rw [e2, List.map_append]
          obtain ⟨acc, h1, _, h3⟩ := (z1.same y.s).put nD s13 (by rw [List.length_map]; omega) (tp_ints hr3)
          rw [s13 _ _ hD] at h1
          cases h1
          exact h3
      · have c1 : ¬ bitO m i = 0 := fun q => c (decide_eq_true (congrArg V.int q))
        have e2 : lastN bits m (i + 1) = lastN bits m i := by
          show lastN bits m i ++ _ = _
          rw [if_neg c1, List.append_nil]
        refine ⟨_, _, _, rfl, ?_⟩
        rw [e2]
        exact z1
    · rintro σ H' ⟨_, _, _, rfl, z⟩
      rw [List.length_map] at z
      obtain ⟨ys, hy, ty⟩ := z.ex
      exact ⟨_, rfl, k _ D ys z.s nD hy ty⟩
end

/-! ### Added is made -/
/-- the clauses by which it is said -/
def addCs (f : Int) (l : List Int) (most : Int) : List (List Int) := (addOf f l).st.cs ++ lastC (addOf f l).bits most
theorem Addg.run_b {f : Int} {N : Nat} : ∀ {n : Nat} {z : Addg}, AddB N z → AddB N (z.run f n)
  | 0, z, b => b
  | n + 1, z, b => by
    show AddB N (if z.col = [] then z else Addg.run f n (z.step f))
    by_cases c : z.col = []
    · rw [if_pos c]
      exact b
    · rw [if_neg c]
      exact Addg.run_b (b.step c).1
theorem addOf_b (f : Int) (l : List Int) : AddB l.length (addOf f l) := Addg.run_b (addB0 l)
structure AddedR (H : Hp) (C S dx : Addr) (l : List Int) (most f : Int) : Prop where
  ex : ∃ M N2 C2 vn vc, H S = some (.ins C dx [("_marks", .ref M), ("_most", .int most), ("_first", .int f), ("_names", .ref N2), ("_clauses", .ref C2)]) ∧ H M = some (.lst (l.map V.int)) ∧
    H N2 = some (.lst vn) ∧ TpAll H vn ((addOf f l).st.ns.map nD) ∧ H C2 = some (.lst vc) ∧ TpAll H vc ((addCs f l most).map tI)
/-- all but S stays -/
def SK (S : Addr) (H H' : Hp) : Prop := ∀ b o, H b = some o → b ≠ S → H' b = some o
def spAdded (K : PySem.W.Frag) (C CM CF : Addr) : Sp := fun vs H Q E => ∃ (S dx a : Addr) (l : List Int) (most : Int) (fresh : V), vs = [.ref S, .ref a, .int most, fresh] ∧ H S = some (.ins C dx []) ∧ H a = some (.lst (l.map V.int)) ∧ l.length ≤ 1000 ∧ (fresh = .non ∨ ∃ n : Int, fresh = .int n) ∧
  (wellM l = false → ∀ H', SK S H H' → E (.ref CM) none H') ∧
  (wellM l = true → ∀ m, Top1 l m → (∀ n, NewF fresh m n → ∀ H', AddedR H' C S dx l most n → SK S H H' → Q .non H') ∧
    (∀ n : Int, fresh = .int n → n < m + 1 → ∀ H' d, SK S H H' → H d = none → H' d = some (.xd [("lowest", .int (m + 1))]) → E (.ref CF) (some d) H'))
section
variable {P : Program} {w : World} {K : PySem.W.Frag} {mg : Str → Option Value} {base : Heap}
theorem hx_added {CM CF : Addr} {cs : Nat → Addr} (T : Top K mg cs) (h_NoMarks : HasC P w K mg base CM "NoMarks" ["self"] (spI0 CM)) (h_are_marks : Has P w K mg base 3 "are_marks" ["marks"] (spAreM K)) (h_first_new : HasX P w K mg base 3 "first_new" ["marks", "fresh"] (spFirst K CF))
    (h_Adding___init__ : HasI P w K mg base (cs 6) 3 "Adding" ["self", "marks", "first"] (spAdding K (cs 6))) (h__last_clauses : Has P w K mg base 2 "_last_clauses" ["bits", "most"] (spLast K)) :
    HasIX P w K mg base (cs 7) 5 "Added" "fresh" ["self", "marks", "most"] (spAdded K (cs 7) CM CF) := by
  refine has_ofIX T.g_Added T.i_Added sc_Added___init__ bk0_Added___init__ bk1_Added___init__ (fun vs H Q E h => ?_) (fun f cdv A outer s H vs Q E hr h => ?_)
  · obtain ⟨S, dx, a, l, most, fresh, rfl, _⟩ := h
    rfl
  · have hu := hu_of hr
    have nd := sc_Added___init__.nd
    obtain ⟨S, dx, a, l, most, fresh, rfl, hS, ha, few, hf, kM, kW⟩ := h
    refine ⟨_, (pss_cons (ps_if (pt_not (pt_val (pe_has h_are_marks (hr.mono (by omega)) (by rfl) (pa_cons (pv 1) pa_nil)))) (pss_one (ps_raise rfl (takes_of rfl rfl rfl rfl) (pmk_own0 h_NoMarks (hr.mono (by omega)) (by rfl)))) pss_nil)
    (pss_cons (ps_fld (pv 0) (pe_callTy call_list_of (by rfl) T.b_list (by decide +kernel) (pa_cons (pv 1) pa_nil)) rfl)
    (pss_cons (ps_fld (pv 0) (pv 2) rfl)
    (pss_cons (ps_fld (pv 0) (pe_hasX (takes_of rfl rfl rfl rfl) h_first_new (hr.mono (by omega)) (by rfl) (pa_cons (pv 1) (pa_cons (pv 3) pa_nil))) rfl)
    (pss_cons (ps_set (i := 4) nd rfl (.inl rfl) (pe_hasI h_Adding___init__ (hr.mono (by omega)) (by rfl) (pa_cons (pv 1) (pa_cons (pe_fld (pv 0) rfl) pa_nil))))
    (pss_cons (ps_fld (pv 0) (pe_callTy call_list_of (by rfl) T.b_list (by decide +kernel) (pa_cons (pe_fld (pv 4) rfl) pa_nil)) rfl)
    (pss_one (ps_fld (pv 0) (pe_op op_cat (pe_fld (pv 4) rfl) (pe_has h__last_clauses (hr.mono (by omega)) (by rfl) (pa_cons (pe_fld (pv 4) rfl) (pa_cons (pv 2) pa_nil)))) rfl)))))))), ?_⟩
    have line : (5000000 : Nat) < sizeLine := by decide
    have aS : a ≠ S := ne_of ha hS (by intro z; cases z)
    refine ⟨_, rfl, a, l, rfl, SqL.of ha, few, fun H1 s1 => ⟨_, rfl, ?_⟩⟩
    cases hw : wellM l with
    | false => exact iteT (kM hw H1 fun b o e _ => s1 b o e)
    | true =>
      have kW := kW hw
      clear kM
      refine iteF ?_
      obtain ⟨w1, w2⟩ := wellM_len hw
      have fld : ∀ {G G' : Hp} {o : HO}, SK S H G → (∀ b o, G b = some o → b ≠ S → G' b = some o) → SK S H (upd G' S o) := fun {G G' o} k1 k2 b u e n => by
        rw [upd_ne n]
        exact k2 b u (k1 b u e n) n
      have sk0 : SK S H H := fun b o e _ => e
      have at_S : ∀ {G : Hp} {N : Addr} {o : HO}, G S = some o → G N = none → N ≠ S := fun {G N o} h n z => by
        rw [z, h] at n
        cases n
      have hS1 := s1 _ _ hS
      have ha1 := s1 _ _ ha
      refine ⟨_, rfl, a, _, rfl, .inl (SqL.of ha1), fun M nM => ⟨_, rfl, S, _, dx, _, rfl, same_new nM _ _ hS1, T.cl_Added, T.n_Added__marks, by show 0 < 1000; decide, ?_⟩⟩
      have MS := at_S hS1 nM
      have sk1 : SK S H (upd H1 M (.lst (l.map V.int))) := fun b o e n => same_new nM _ _ (s1 _ _ e)
      have k2 := fld (o := .ins (cs 7) dx (putF "_marks" (.ref M) [])) sk1 (fun b o e _ => e)
      have h2 : (upd (upd H1 M (.lst (l.map V.int))) S (.ins (cs 7) dx (putF "_marks" (.ref M) []))) S = some (.ins (cs 7) dx (putF "_marks" (.ref M) [])) := upd_same
      have M2 : (upd (upd H1 M (.lst (l.map V.int))) S (.ins (cs 7) dx (putF "_marks" (.ref M) []))) M = some (.lst (l.map V.int)) := by
        rw [upd_ne MS]
        exact upd_same
      generalize upd (upd H1 M (.lst (l.map V.int))) S (.ins (cs 7) dx (putF "_marks" (.ref M) [])) = H2 at k2 h2 M2 ⊢
      refine ⟨_, rfl, _, rfl, S, _, dx, _, rfl, h2, T.cl_Added, T.n_Added__most, by show 1 < 1000; decide, ?_⟩
      have k3 := fld (o := .ins (cs 7) dx (putF "_most" (.int most) (putF "_marks" (.ref M) []))) k2 (fun b o e _ => e)
      have h3 : (upd H2 S (.ins (cs 7) dx (putF "_most" (.int most) (putF "_marks" (.ref M) [])))) S = some (.ins (cs 7) dx (putF "_most" (.int most) (putF "_marks" (.ref M) []))) := upd_same
      have M3 : (upd H2 S (.ins (cs 7) dx (putF "_most" (.int most) (putF "_marks" (.ref M) [])))) M = some (.lst (l.map V.int)) := by
        rw [upd_ne MS]
        exact M2
      generalize upd H2 S (.ins (cs 7) dx (putF "_most" (.int most) (putF "_marks" (.ref M) []))) = H3 at k3 h3 M3 ⊢
      have low : ∀ x ∈ l, absI x ≤ 1000000000 := fun x hx => (abs_le9 hw _ (List.mem_map.mpr ⟨x, hx, rfl⟩)).2
      refine ⟨_, rfl, _, rfl, a, l, fresh, rfl, SqL.of (k3 _ _ ha aS), w1, few, hf, low, fun H4 m s4 top => ⟨fun n hn => ?_, fun n e lt H5 d s5 nd5 hd5 => (kW m top).2 n e lt H5 d (fun b o e n => s5 _ _ (k3 b o e n)) ?_ hd5⟩⟩
      rotate_left
      · cases z : H d with
        | none => rfl
        | some o =>
          by_cases eS : d = S
          · rw [eS, h3] at nd5
            cases nd5
          · rw [k3 d o z eS] at nd5
            cases nd5
      have kW := (kW m top).1 n hn
      refine ⟨_, rfl, S, _, dx, _, rfl, s4 _ _ h3, T.cl_Added, T.n_Added__first, by show 2 < 1000; decide, ?_⟩
      have k5 := fld (G := H3) (G' := H4) (o := .ins (cs 7) dx (putF "_first" (.int n) (putF "_most" (.int most) (putF "_marks" (.ref M) [])))) k3 (fun b o e _ => s4 _ _ e)
      have h5 : (upd H4 S (.ins (cs 7) dx (putF "_first" (.int n) (putF "_most" (.int most) (putF "_marks" (.ref M) []))))) S = some (.ins (cs 7) dx (putF "_first" (.int n) (putF "_most" (.int most) (putF "_marks" (.ref M) [])))) := upd_same
      have M5 : (upd H4 S (.ins (cs 7) dx (putF "_first" (.int n) (putF "_most" (.int most) (putF "_marks" (.ref M) []))))) M = some (.lst (l.map V.int)) := by
        rw [upd_ne MS]
        exact s4 _ _ M3
      generalize upd H4 S (.ins (cs 7) dx (putF "_first" (.int n) (putF "_most" (.int most) (putF "_marks" (.ref M) [])))) = H5 at k5 h5 M5 ⊢
      refine ⟨_, rfl, _, rfl, S, _, dx, _, _, rfl, h5, T.cl_Added, T.n_Added__first, rfl, fun S2 dx2 nS2 nd2 ne2 => ⟨S2, dx2, a, n, l, rfl, upd_same, ?_, w2, fun H6 N W B R6 k6 nN nW nB => ⟨rfl, ?_⟩⟩⟩
      · rw [upd_ne (ne_of_none (k5 _ _ ha aS) nS2), upd_ne (ne_of_none (k5 _ _ ha aS) nd2)]
        exact k5 _ _ ha aS
      have s56 : Same H5 H6 := fun b o e => k6 b o (by rw [upd_ne (ne_of_none e nS2), upd_ne (ne_of_none e nd2)]; exact e) (ne_of_none e nS2)
      have ab := addOf_b n l
      have bB := ab.b
      have bn := ab.n
      have bw := ab.w
      have sq : l.length * (l.length + 1) ≤ 60 * 61 := Nat.mul_le_mul w2 (by omega)
      obtain ⟨vn, vc, hN, tN, hW, tW⟩ := R6.ex
      have lc := tW.len
      rw [List.length_map] at lc
      have h6 := s56 _ _ h5
      refine ⟨_, rfl, S2, _, dx2, _, _, rfl, R6.ins, T.cl_Adding, T.n_Adding_named, rfl, N, _, rfl, .inl (SqL.of hN), fun N2 nN2 => ⟨_, rfl, S, _, dx, _, rfl, same_new nN2 _ _ h6, T.cl_Added, T.n_Added__names, by show 3 < 1000; decide, ?_⟩⟩
      have N2S := at_S h6 nN2
      have s6 := same_new nN2 (o := .lst vn)
      have R7' := R6.same s6
      have SS2 : S2 ≠ S := (ne_of_none h5 nS2).symm
      have hN27 : (upd (upd H6 N2 (.lst vn)) S (.ins (cs 7) dx (putF "_names" (.ref N2) (putF "_first" (.int n) (putF "_most" (.int most) (putF "_marks" (.ref M) [])))))) N2 = some (.lst vn) := by
        rw [upd_ne N2S]
        exact upd_same
      have h7 : (upd (upd H6 N2 (.lst vn)) S (.ins (cs 7) dx (putF "_names" (.ref N2) (putF "_first" (.int n) (putF "_most" (.int most) (putF "_marks" (.ref M) [])))))) S = some (.ins (cs 7) dx (putF "_names" (.ref N2) (putF "_first" (.int n) (putF "_most" (.int most) (putF "_marks" (.ref M) []))))) := upd_same
      have sk7 : ∀ b o, H6 b = some o → b ≠ S → (upd (upd H6 N2 (.lst vn)) S (.ins (cs 7) dx (putF "_names" (.ref N2) (putF "_first" (.int n) (putF "_most" (.int most) (putF "_marks" (.ref M) [])))))) b = some o := fun b o e q => by
        rw [upd_ne q]
        exact s6 _ _ e
      have kt7 : KT H6 (upd (upd H6 N2 (.lst vn)) S (.ins (cs 7) dx (putF "_names" (.ref N2) (putF "_first" (.int n) (putF "_most" (.int most) (putF "_marks" (.ref M) [])))))) := fun b xs e => sk7 b _ e (ne_of e h6 (by intro z; cases z))
      have k7 := fld (G := H5) (G' := upd H6 N2 (.lst vn)) (o := .ins (cs 7) dx (putF "_names" (.ref N2) (putF "_first" (.int n) (putF "_most" (.int most) (putF "_marks" (.ref M) []))))) k5 (fun b o e _ => s6 _ _ (s56 _ _ e))
      have M7 := sk7 M _ (s56 _ _ M5) MS
      have ins7 := sk7 S2 _ R6.ins SS2
      have bt7 := sk7 B _ R6.bt (ne_of R6.bt h6 (by intro z; cases z))
      have W7 := sk7 W _ hW (ne_of hW h6 (by intro z; cases z))
      have tN7 := tN.kt kt7
      have tW7 := tW.kt kt7
      generalize upd (upd H6 N2 (.lst vn)) S (.ins (cs 7) dx (putF "_names" (.ref N2) (putF "_first" (.int n) (putF "_most" (.int most) (putF "_marks" (.ref M) []))))) = H7 at hN27 h7 k7 M7 ins7 bt7 W7 tN7 tW7 ⊢
      have ll := lastC_len (addOf n l).bits most
      refine ⟨_, rfl, S2, _, dx2, _, _, rfl, ins7, T.cl_Adding, T.n_Adding_said, rfl, _, rfl, S2, _, dx2, _, _, rfl, ins7, T.cl_Adding, T.n_Adding_bits, rfl, _, rfl, B, _, most, rfl, SqL.of bt7, by omega, fun H8 q ys s8 nq hq tq => ?_⟩
      have lq := tq.len
      rw [List.length_map] at lq
      refine ⟨W, q, vc, ys, rfl, rfl, s8 _ _ W7, hq, by omega, fun C2 nC2 => ⟨_, rfl, S, _, dx, _, rfl, same_new nC2 _ _ (s8 _ _ h7), T.cl_Added, T.n_Added__clauses, by show 4 < 1000; decide, ?_⟩⟩
      have C2S := at_S (s8 _ _ h7) nC2
      have N2S' : N2 ≠ S := N2S
      have nc := fun {b : Addr} {o : HO} (e : H8 b = some o) => ne_of_none e nC2
      have kt9 : ∀ {o : HO}, KT H8 (upd (upd H8 C2 (.lst (vc ++ ys))) S o) := fun {o} b xs e => by
        rw [upd_ne (ne_of e (s8 _ _ h7) (by intro z; cases z)), upd_ne (nc e)]
        exact e
      refine kW _ ⟨M, N2, C2, vn, vc ++ ys, upd_same, ?_, ?_, (tN7.kt (KT.same s8)).kt kt9, ?_, ?_⟩ ?_
      · rw [upd_ne MS, upd_ne (nc (s8 _ _ M7))]
        exact s8 _ _ M7
      · rw [upd_ne N2S, upd_ne (nc (s8 _ _ hN27))]
        exact s8 _ _ hN27
      · rw [upd_ne C2S]
        exact upd_same
      · unfold addCs
        rw [List.map_append]
        exact ((tW7.kt (KT.same s8)).app tq).kt kt9
      · exact fld k7 (fun b o e _ => same_new nC2 _ _ (s8 _ _ e))
end

/-! ### marks of unlike names, up to the ninth power -/
def nas (l : List Int) : List Nat := l.map Int.natAbs
structure Un (ms : List Int) : Prop where
  nd : (nas ms).Nodup
  nz : ∀ x ∈ ms, x ≠ 0
  lim : ∀ x ∈ ms, x.natAbs ≤ 10 ^ 12
theorem Un.nodup {ms : List Int} (h : Un ms) : ms.Nodup := by
  have := h.nd
  unfold nas at this
  exact (List.pairwise_map.mp this).imp fun h e => h (by rw [e])
theorem nas_one : ∀ {l : List Int}, (nas l).Nodup → ∀ x ∈ l, ∀ y ∈ l, x.natAbs = y.natAbs → x = y
  | a :: r, h, x, hx, y, hy, e => by
    have h' := List.nodup_cons.mp (show (a.natAbs :: nas r).Nodup from h)
    rcases List.mem_cons.mp hx with rfl | hx'
    · rcases List.mem_cons.mp hy with rfl | hy'
      · rfl
      · exact absurd (show x.natAbs ∈ nas r from List.mem_map.mpr ⟨y, hy', e.symm⟩) h'.1
    · rcases List.mem_cons.mp hy with rfl | hy'
      · exact absurd (show y.natAbs ∈ nas r from List.mem_map.mpr ⟨x, hx', e⟩) h'.1
      · exact nas_one h'.2 x hx' y hy' e
theorem Un.con {ms : List Int} (h : Un ms) {x : Int} (hx : x ∈ ms) : -x ∉ ms := fun z => by
  have e := nas_one h.nd x hx (-x) z (by omega)
  have := h.nz x hx
  omega
theorem Un.of_perm {ms ys : List Int} (h : Un ms) (p : (nas ys).Perm (nas ms)) : Un ys := by
  refine ⟨(p.nodup_iff).mpr h.nd, fun x hx z => ?_, fun x hx => ?_⟩
  · subst z
    have := p.mem_iff.mp (List.mem_map.mpr ⟨0, hx, rfl⟩)
    obtain ⟨y, hy, e⟩ := List.mem_map.mp this
    have := h.nz y hy
    omega
  · obtain ⟨y, hy, e⟩ := List.mem_map.mp (p.mem_iff.mp (List.mem_map.mpr ⟨x, hx, rfl⟩))
    have := h.lim y hy
    omega
/-- a clause of marks of these names -/
structure ClM (ms c : List Int) : Prop where
  nd : (nas c).Nodup
  sub : ∀ x ∈ c, ∃ y ∈ ms, x.natAbs = y.natAbs
theorem ClM.nodup {ms c : List Int} (h : ClM ms c) : c.Nodup := by
  have := h.nd
  unfold nas at this
  exact (List.pairwise_map.mp this).imp fun h e => h (by rw [e])
theorem ClM.nz {ms c : List Int} (h : ClM ms c) (u : Un ms) {x : Int} (hx : x ∈ c) : x ≠ 0 := by
  obtain ⟨y, hy, e⟩ := h.sub x hx
  have := u.nz y hy
  omega
theorem ClM.nil (ms : List Int) : ClM ms [] := ⟨List.nodup_nil, fun x hx => by cases hx⟩
theorem ClM.of_perm {ms ys ss : List Int} (h : Un ms) (p : (nas ys ++ nas ss).Perm (nas ms)) : ClM ms ys := by
  have n := (p.nodup_iff).mpr h.nd
  refine ⟨n.sublist (List.sublist_append_left _ _), fun x hx => ?_⟩
  obtain ⟨y, hy, e⟩ := List.mem_map.mp (p.mem_iff.mp (List.mem_append_left _ (List.mem_map.mpr ⟨x, hx, rfl⟩)))
  exact ⟨y, hy, e.symm⟩
theorem ClM.of_nas {ms c d : List Int} (h : ClM ms c) (e : nas d = nas c) : ClM ms d := by
  refine ⟨by rw [e]; exact h.nd, fun x hx => ?_⟩
  have : x.natAbs ∈ nas d := List.mem_map.mpr ⟨x, hx, rfl⟩
  rw [e] at this
  obtain ⟨y, hy, ey⟩ := List.mem_map.mp this
  obtain ⟨z, hz, ez⟩ := h.sub y hy
  exact ⟨z, hz, by omega⟩
theorem nas_snoc (l : List Int) (y : Int) : nas (l ++ [y]) = nas l ++ [y.natAbs] := by
  unfold nas
  rw [List.map_append]
  rfl
theorem erase_perm : ∀ (l : List Int) (r : Nat) (h : r < l.length), (l[r] :: l.eraseIdx r).Perm l
  | a :: t, 0, _ => List.Perm.refl _
  | a :: t, r + 1, h => (List.Perm.swap a _ _).trans ((List.perm_cons a).mpr (erase_perm t r (by simpa using h)))
theorem perm_move {ys ss : List Int} {r : Nat} (hr : r < ss.length) {y : Int} (e : y.natAbs = ss[r].natAbs) : (nas (ys ++ [y]) ++ nas (ss.eraseIdx r)).Perm (nas ys ++ nas ss) := by
  rw [nas_snoc, e, List.append_assoc]
  refine List.Perm.append_left _ ?_
  have p := (erase_perm ss r hr).map Int.natAbs
  exact p
theorem dec61 : ∀ b : Fin 61, ∀ d : Fin 61, 0 < b.val → 0 < d.val → b.val * d.val % 61 ≠ 0 := by decide +kernel
theorem inj61 {B : Int} {i j : Nat} (h0 : 1 ≤ B) (h1 : B ≤ 60) (hi : i < 61) (hij : j < i) : B * (i : Int) % 61 ≠ B * (j : Int) % 61 := fun e => by
  have d := dec61 ⟨B.toNat, by omega⟩ ⟨i - j, by omega⟩ (by show 0 < B.toNat; omega) (by show 0 < i - j; omega)
  have s : B * (i : Int) = B * (j : Int) + B * ((i - j : Nat) : Int) := by
    rw [← Int.mul_add]
    congr 1
    omega
  have eB : ((B.toNat : Nat) : Int) = B := by omega
  have m : B * ((i - j : Nat) : Int) % 61 = 0 := by
    rw [s] at e
    generalize B * (j : Int) = x at e
    generalize B * ((i - j : Nat) : Int) = y at e ⊢
    omega
  apply d
  have : ((B.toNat * (i - j) % 61 : Nat) : Int) = 0 := by
    rw [Int.natCast_emod, Int.natCast_mul, eB]
    exact m
  exact Int.ofNat.inj this
theorem names_nd {z4 z2 B : Int} {n : Nat} (hz4 : 1 ≤ z4) (hz2 : 1 ≤ z2) (h0 : 1 ≤ B) (h1 : B ≤ 60) (hn : n ≤ 61) : (nas ((List.range n).map fun (i : Nat) => z4 + z2 * (B * (0 + (i : Int)) % 61))).Nodup ∧
    ∀ x ∈ (List.range n).map (fun (i : Nat) => z4 + z2 * (B * (0 + (i : Int)) % 61)), x ≠ 0 := by
  have pos : ∀ i : Nat, 0 ≤ z2 * (B * (0 + (i : Int)) % 61) := fun i => Int.mul_nonneg (by omega) (Int.emod_nonneg _ (by decide))
  refine ⟨?_, fun x hx => ?_⟩
  · unfold nas
    rw [List.map_map]
    refine List.pairwise_map.mpr ((List.pairwise_lt_range (n := n)).imp_of_mem fun {a b} ha hb hab e => ?_)
    have hb' := List.mem_range.mp hb
    have e' : z4 + z2 * (B * (0 + (a : Int)) % 61) = z4 + z2 * (B * (0 + (b : Int)) % 61) := by
      have e : (z4 + z2 * (B * (0 + (a : Int)) % 61)).natAbs = (z4 + z2 * (B * (0 + (b : Int)) % 61)).natAbs := e
      have p1 := pos a
      have p2 := pos b
      omega
    have e2 : B * (0 + (a : Int)) % 61 = B * (0 + (b : Int)) % 61 := by
      have e3 : z2 * (B * (0 + (a : Int)) % 61) = z2 * (B * (0 + (b : Int)) % 61) := by omega
      exact Int.eq_of_mul_eq_mul_left (by omega) e3
    rw [Int.zero_add, Int.zero_add] at e2
    exact inj61 h0 h1 (by omega) hab e2.symm
  · obtain ⟨i, _, rfl⟩ := List.mem_map.mp hx
    have := pos i
    omega
theorem names_lim {z4 z2 B : Int} {n : Nat} (h4 : z4 + z2 * 60 ≤ 10 ^ 9) (hz4 : 1 ≤ z4) (hz2 : 1 ≤ z2) : ∀ x ∈ (List.range n).map (fun (i : Nat) => z4 + z2 * (B * (0 + (i : Int)) % 61)), x.natAbs ≤ 10 ^ 9 := fun x hx => by
  obtain ⟨i, _, rfl⟩ := List.mem_map.mp hx
  have a : 0 ≤ z2 * (B * (0 + (i : Int)) % 61) := Int.mul_nonneg (by omega) (Int.emod_nonneg _ (by decide))
  have b : z2 * (B * (0 + (i : Int)) % 61) ≤ z2 * 60 := Int.mul_le_mul_of_nonneg_left (Int.le_of_lt_add_one (Int.emod_lt_of_pos _ (by decide))) (by omega)
  generalize z2 * (B * (0 + (i : Int)) % 61) = y at a b
  omega
theorem Tape.cs {H H' : Hp} {t c a : Addr} {n : Nat} {qs : List Addr} {cs : List (List Int)} (h : Tape H t c n) (e : Cs H a qs cs) (k : Kp t H H') : Cs H' a qs cs := by
  obtain ⟨ns, spot, left, tc, _⟩ := h
  exact e.kp tc.d k
theorem Cs.snoc {H : Hp} {a q : Addr} {qs : List Addr} {cs : List (List Int)} {c : List Int} (h : Cs H a qs cs) (hq : H q = some (.tup (c.map V.int))) : Cs (upd H a (.lst (qs.map V.ref ++ [.ref q]))) a (qs ++ [q]) (cs ++ [c]) := by
  have hn := h.n
  refine ⟨by rw [upd_same, List.map_append]; rfl, by rw [List.length_append, List.length_append, hn]; rfl, fun i p d hp hd => ?_⟩
  have g : H p = some (.tup (d.map V.int)) := by
    rcases getElem_snoc hp with ⟨_, e⟩ | ⟨e1, rfl⟩
    · rcases getElem_snoc hd with ⟨_, e2⟩ | ⟨e2, _⟩
      · exact h.t i p d e e2
      · omega
    · rcases getElem_snoc hd with ⟨e2, _⟩ | ⟨_, rfl⟩
      · omega
      · exact hq
  rw [upd_ne (ne_of g h.l (by intro z; cases z))]
  exact g
theorem ins_at {α : Type} {xs : List α} {x y : α} {j i : Nat} (hj : j ≤ xs.length) (h : (xs.take j ++ [x] ++ xs.drop j)[i]? = some y) : (i < j ∧ xs[i]? = some y) ∨ (i = j ∧ x = y) ∨ (j < i ∧ xs[i - 1]? = some y) := by
  have lt : (xs.take j).length = j := by
    rw [List.length_take]
    omega
  rcases Nat.lt_trichotomy i j with c | c | c
  · rw [List.append_assoc, List.getElem?_append_left (by omega), List.getElem?_take, if_pos c] at h
    exact .inl ⟨c, h⟩
  · subst c
    rw [List.append_assoc, List.getElem?_append_right (by omega), lt, Nat.sub_self] at h
    exact .inr (.inl ⟨rfl, Option.some.inj h⟩)
  · rw [List.getElem?_append_right (by rw [List.length_append, lt]; exact c), List.length_append, lt, List.getElem?_drop] at h
    refine .inr (.inr ⟨c, ?_⟩)
    rw [← h]
    congr 1
    show i - 1 = j + (i - (j + 1))
    omega
theorem Cs.insert {H : Hp} {a q : Addr} {qs : List Addr} {cs : List (List Int)} {c : List Int} {j : Nat} (h : Cs H a qs cs) (hj : j ≤ cs.length) (hq : H q = some (.tup (c.map V.int))) :
    Cs (upd H a (.lst ((qs.map V.ref).take j ++ [.ref q] ++ (qs.map V.ref).drop j))) a (qs.take j ++ [q] ++ qs.drop j) (cs.take j ++ [c] ++ cs.drop j) := by
  have hn := h.n
  refine ⟨by rw [upd_same, List.map_append, List.map_append, List.map_take, List.map_drop]; rfl, by simp only [List.length_append, List.length_take, List.length_drop, hn]; rfl, fun i p d hp hd => ?_⟩
  have g : H p = some (.tup (d.map V.int)) := by
    rcases ins_at (by omega) hp with ⟨c1, e⟩ | ⟨c1, rfl⟩ | ⟨c1, e⟩
    · rcases ins_at hj hd with ⟨_, e2⟩ | ⟨e2, _⟩ | ⟨e2, _⟩
      · exact h.t i p d e e2
      · omega
      · omega
    · rcases ins_at hj hd with ⟨e2, _⟩ | ⟨_, rfl⟩ | ⟨e2, _⟩
      · omega
      · exact hq
      · omega
    · rcases ins_at hj hd with ⟨e2, _⟩ | ⟨e2, _⟩ | ⟨_, e2⟩
      · omega
      · omega
      · exact h.t (i - 1) p d e e2
  rw [upd_ne (ne_of g h.l (by intro z; cases z))]
  exact g
def spFar : Sp := fun vs H Q _ => ∃ (t c : Addr) (m : Int) (n : Nat), vs = [.ref t, .int m] ∧ Tape H t c n ∧ n < 1000000 ∧ 0 ≤ m ∧ m ≤ 61 ∧
  ∀ (H' : Hp) (p : Addr) (ms : List Int), H p = none → H' p = some (.lst (ms.map V.int)) → ms.length = m.toNat → Un ms → (∀ x ∈ ms, x.natAbs ≤ 10 ^ 9) → Tape H' t c (n + 110) → Kp t H H' → Q (.ref p) H'
section
variable {P : Program} {w : World} {K : PySem.W.Frag} {mg : Str → Option Value} {base : Heap}
theorem has_far {cs : Nat → Addr} (T : Top K mg cs) (h__law_draw : Has P w K mg base 1 "_law_draw" ["_law_tape", "_law_many"] spDraw) (h__law_pick : Has P w K mg base 2 "_law_pick" ["_law_tape", "_law_some"] (spPick K)) :
    Has P w K mg base 3 "_law_marks" ["_law_tape", "_law_many"] spFar := by
  refine has_of T.d__law_marks sc__law_marks bd__law_marks (fun vs H Q E h => ?_) (fun f cdv A outer s H vs Q E hr h => ?_)
  · obtain ⟨t, c, m, n, rfl, _⟩ := h
    rfl
  · have hu := hu_of hr
    have nd := sc__law_marks.nd
    obtain ⟨t, c, m, n, rfl, tp, hn, hm0, hm1, k⟩ := h
    refine ⟨_, (pss_cons (ps_asg (pe_tup (pa_cons (pe_op op_add pe_int (pe_has h__law_draw (hr.mono (by omega)) (by rfl) (pa_cons (pv 0) (pa_cons pe_int pa_nil)))) (pa_cons (pe_has h__law_pick (hr.mono (by omega)) (by rfl) (pa_cons (pv 0) (pa_cons (pe_lst (pa_cons pe_int (pa_cons pe_int (pa_cons pe_int (pa_cons pe_int pa_nil))))) pa_nil))) pa_nil))) (pg_tup (by rfl) (pgs_cons (pg_name (i := 2) nd rfl (.inr rfl)) (pgs_cons (pg_name (i := 3) nd rfl (.inr rfl)) pgs_nil))))
    (pss_cons (ps_set (i := 4) nd rfl (.inr rfl) (pe_has h__law_pick (hr.mono (by omega)) (by rfl) (pa_cons (pv 0) (pa_cons (pe_lst (pa_cons pe_int (pa_cons pe_int (pa_cons pe_int (pa_cons (pe_op op_add pe_int (pe_has h__law_draw (hr.mono (by omega)) (by rfl) (pa_cons (pv 0) (pa_cons pe_int pa_nil)))) (pa_cons (pe_op op_sub (pe_op op_pow pe_int pe_int) (pe_op op_mul pe_int (pv 3))) pa_nil)))))) pa_nil))))
    (pss_cons (ps_asg (pe_tup (pa_cons (pe_lc (own := [("_law_k", 8)]) (by rfl) nd (pi_range1 (by rfl) T.b_range (pa_cons (pv 1) pa_nil)) (blkOk_by (own := [("_law_k", 8)]) (N := nm__law_marks) (sc := defScope s__law_marks) (by decide +kernel)) (fun _ _ _ _ _ => pg_name (i := 8) nd rfl (.inl rfl)) (fun _ _ _ _ _ => pts_nil) (fun _ _ _ _ _ => (pe_op op_add (pv 4) (pe_op op_mul (pv 3) (pe_op op_mod (pe_op op_mul (pv 2) (pv 8)) pe_int))))) (pa_cons (pe_has h__law_pick (hr.mono (by omega)) (by rfl) (pa_cons (pv 0) (pa_cons (pe_lst (pa_cons pe_int (pa_cons pe_int (pa_cons pe_int (pa_cons pe_int pa_nil))))) pa_nil))) pa_nil))) (pg_tup (by rfl) (pgs_cons (pg_name (i := 5) nd rfl (.inl rfl)) (pgs_cons (pg_name (i := 6) nd rfl (.inr rfl)) pgs_nil))))
    (pss_one (ps_ret (pe_lc (own := [("_law_name", 7)]) (by rfl) nd (pi_list (pv 5)) (blkOk_by (own := [("_law_name", 7)]) (N := nm__law_marks) (sc := defScope s__law_marks) (by decide +kernel)) (fun _ _ _ _ _ => pg_name (i := 7) nd rfl (.inl rfl)) (fun _ _ _ _ _ => pts_nil) (fun _ _ _ _ _ => (pe_ifExp (pt_cmpR op_lt (pe_has h__law_draw (hr.mono (by omega)) (by rfl) (pa_cons (pv 0) (pa_cons (pv 6) pa_nil))) (pe_op op_sub pe_int (pe_op op_fdivW (pv 6) pe_int)) (nomark _)) (pv 7) (pe_op op_sub pe_int (pv 7)))))))))), ?_⟩
    have cp : ∀ z : Int, 0 ≤ z → z ≤ 1000000 → CPow 10 z := fun z h0 h1 => ⟨h0, h1, by decide⟩
    refine ⟨_, rfl, t, c, _, n, rfl, tp, by omega, by decide, by decide +kernel, fun H1 r1 a1 b1 tp1 kp1 => ⟨_, _, rfl, rfl, _, rfl, by show 4 ≤ sizeLine; decide, fun d1 h1 => ?_⟩⟩
    refine ⟨t, c, d1, _, n + 1, rfl, tp1.new h1, by omega, fun H' kp => .inl (SqL.of (kp d1 _ upd_same (tp1.fresh h1))), by show 0 < 4; decide, by show 4 ≤ 1000000; decide, fun H2 i2 v2 g2 tp2 kp2 => ?_⟩
    obtain ⟨z2, rfl, m2⟩ := pick_int (zs := [1, 1, 7, 16000000]) g2
    have z2b : 1 ≤ z2 ∧ z2 ≤ 16000000 := by
      simp only [List.mem_cons, List.not_mem_nil, or_false] at m2
      omega
    refine ⟨by show 2 ≤ sizeLine; decide, fun q2 hq2 => ⟨q2, _, rfl, SqT.of upd_same, rfl, _, _, rfl, _, _, rfl, rfl, ?_⟩⟩
    have t2 := tp2.new (o := .tup [V.int (1 + r1), V.int z2]) hq2
    -- first
    refine ⟨_, rfl, _, rfl, t, c, _, n + 2, rfl, t2, by omega, by decide, by decide +kernel, fun H3 r3 a3 b3 tp3 kp3 => ⟨_, _, rfl, rfl, _, _, rfl, rfl, cp _ (by decide) (by decide), _, rfl, _, _, rfl, rfl, .inl ⟨by decide, by decide⟩, _, _, rfl, rfl, by show 5 ≤ sizeLine; decide, fun d3 h3 => ?_⟩⟩
    refine ⟨t, c, d3, _, n + 3, rfl, tp3.new h3, by omega, fun H' kp => .inl (SqL.of (kp d3 _ upd_same (tp3.fresh h3))), by show 0 < 5; decide, by show 5 ≤ 1000000; decide, fun H4 i4 v4 g4 tp4 kp4 => ?_⟩
    obtain ⟨z4, rfl, m4⟩ := pick_int (zs := [1, 5, 95, 1 + r3, 10 ^ (9 : Int).toNat - 60 * z2]) g4
    -- names
    refine ⟨_, rfl, m, rfl, by omega, by omega, fun D hD => lc_sel_range (lo := 0) (fun _ => true) (fun i => .int (z4 + z2 * ((1 + r1) * (0 + (i : Int)) % 61))) hD (by omega) (fun i hi => ?_) fun H5 s5 h5 => ?_⟩
    · exact ⟨rfl, fun H' s' R g => g H' (Same.refl _), fun _ H' s' R g => ⟨_, rfl, _, rfl, _, rfl, _, rfl, _, _, rfl, rfl, .inl ⟨by omega, by omega⟩, _, _, rfl, rfl, by show (0 : Int) < 61; decide, _, _, rfl, rfl, .inl ⟨by omega, by omega⟩, _, _, rfl, rfl, g H' (Same.refl _)⟩⟩
    rw [filter_all] at h5
    have h5 : H5 D = some (.lst (((List.range m.toNat).map fun (i : Nat) => z4 + z2 * ((1 + r1) * (0 + (i : Int)) % 61)).map V.int)) := by
      rw [h5, List.map_map]
      rfl
    have l5 : ((List.range m.toNat).map fun (i : Nat) => z4 + z2 * ((1 + r1) * (0 + (i : Int)) % 61)).length = m.toNat := by rw [List.length_map, List.length_range]
    have z4b : 1 ≤ z4 := by
      simp only [List.mem_cons, List.not_mem_nil, or_false] at m4
      have p12 : (10 : Int) ^ (9 : Int).toNat = 1000000000 := by decide
      omega
    have z4c : z4 + z2 * 60 ≤ 10 ^ 9 := by
      simp only [List.mem_cons, List.not_mem_nil, or_false] at m4
      have p12 : (10 : Int) ^ (9 : Int).toNat = 1000000000 := by decide
      omega
    have nnm := names_nd (z4 := z4) (z2 := z2) (B := 1 + r1) (n := m.toNat) z4b (by omega) (by omega) (by omega) (by omega)
    have nnl := names_lim (z4 := z4) (z2 := z2) (B := 1 + r1) (n := m.toNat) z4c z4b (by omega)
    generalize ((List.range m.toNat).map fun (i : Nat) => z4 + z2 * ((1 + r1) * (0 + (i : Int)) % 61)) = nm at h5 l5 nnm nnl
    have t5 := tp4.same s5
    refine ⟨_, rfl, by show 4 ≤ sizeLine; decide, fun d6 h6 => ?_⟩
    refine ⟨t, c, d6, _, n + 4, rfl, t5.new h6, by omega, fun H' kp => .inl (SqL.of (kp d6 _ upd_same (t5.fresh h6))), by show 0 < 4; decide, by show 4 ≤ 1000000; decide, fun H6 i6 v6 g6 tp6 kp6 => ?_⟩
    obtain ⟨z6, rfl, m6⟩ := pick_int (zs := [1, 2, 2, 3]) g6
    have z6b : 1 ≤ z6 ∧ z6 ≤ 3 := by
      simp only [List.mem_cons, List.not_mem_nil, or_false] at m6
      omega
    have k56 : Kp t H5 H6 := (Kp.new h6).trans kp6
    refine ⟨by show 2 ≤ sizeLine; decide, fun q7 hq7 => ⟨q7, _, rfl, SqT.of upd_same, rfl, _, _, rfl, _, _, rfl, rfl, ?_⟩⟩
    have t7 := tp6.new (o := .tup [V.ref D, V.int z6]) hq7
    have h7 := same_new (o := .tup [V.ref D, V.int z6]) hq7 _ _ (t5.sq h5 k56)
    have k07 : Kp t H (upd H6 q7 (.tup [V.ref D, V.int z6])) := kp1.trans ((Kp.new h1).trans (kp2.trans ((Kp.new hq2).trans (kp3.trans ((Kp.new h3).trans (kp4.trans ((Kp.same s5).trans (k56.trans (Kp.new hq7)))))))))
    generalize upd H6 q7 (.tup [V.ref D, V.int z6]) = H7 at t7 h7 k07
    -- signs
    refine ⟨_, rfl, D, rfl, ⟨_, SqL.of h7⟩, fun Z hZ => lc_list (xs := nm.map V.int) (fun i H' => Kp t H7 H' ∧ Tape H' t c (n + 5 + i) ∧ ∃ is : List Int, is.length = i ∧ nas is = nas (nm.take i) ∧ H' Z = some (.lst (is.map V.int))) ⟨Kp.new hZ, t7.new hZ, [], rfl, rfl, upd_same⟩ ?_ ?_ ?_⟩
    · rintro i H' _ ⟨kp, _, _⟩
      exact SqL.of (t7.sq h7 kp)
    · rintro i x H8 hi ⟨k8, t8, is, el, en, h8⟩
      obtain ⟨y, rfl, hy⟩ := int_at hi
      have li : i < nm.length := (List.getElem?_eq_some_iff.mp hy).1
      have nZt : Z ≠ t := t7.fresh hZ
      have nZc : Z ≠ c := t7.fresh_c hZ
      refine ⟨rfl, yes_go ⟨_, rfl, _, rfl, t, c, z6, n + 5 + i, rfl, t8, by omega, by omega, pow8000 (by omega), fun H9 r9 a9 b9 tp9 kp9 => ⟨_, rfl, _, _, rfl, rfl, ⟨by decide, by decide⟩, _, _, rfl, rfl, _, _, rfl, rfl, _, rfl, ?_⟩⟩⟩
      have h9 := kp9 Z _ h8 nZt
      have fin : ∀ y' : Int, y'.natAbs = y.natAbs → ∃ acc, H9 Z = some (.lst acc) ∧ acc.length < sizeLine ∧ Kp t H7 (upd H9 Z (.lst (acc ++ [V.int y']))) ∧ Tape (upd H9 Z (.lst (acc ++ [V.int y']))) t c (n + 5 + (i + 1)) ∧ ∃ is : List Int, is.length = i + 1 ∧ nas is = nas (nm.take (i + 1)) ∧ (upd H9 Z (.lst (acc ++ [V.int y']))) Z = some (.lst (is.map V.int)) := fun y' ey => by
        refine ⟨is.map V.int, h9, ?_, (k8.trans kp9).mut hZ, tp9.mut nZt nZc, is ++ [y'], by rw [List.length_append, el]; rfl, by rw [nas_snoc, en, take_snoc hy, nas_snoc, ey], ?_⟩
        · have line : 1000000 < sizeLine := by decide
          rw [List.length_map, el]
          omega
        · rw [upd_same, List.map_append]
          rfl
      refine ite2 (fun _ => ?_) (fun _ => ?_)
      · exact ⟨_, rfl, fin y rfl⟩
      · exact ⟨_, rfl, _, _, rfl, rfl, fin (0 - y) (by omega)⟩
    · rintro H8 ⟨k8, t8, is, el, en, h8⟩
      rw [List.length_map] at el t8
      rw [List.length_map, List.take_length] at en
      have un : Un is := Un.of_perm (ms := nm) ⟨nnm.1, nnm.2, fun x hx => Nat.le_trans (nnl x hx) (by decide)⟩ (by rw [en])
      have lim9 : ∀ x ∈ is, x.natAbs ≤ 10 ^ 9 := fun x hx => by
        have m : x.natAbs ∈ nas nm := by
          rw [← en]
          exact List.mem_map.mpr ⟨x, hx, rfl⟩
        obtain ⟨y, hy, e⟩ := List.mem_map.mp m
        rw [← e]
        exact nnl y hy
      exact k H8 Z is (k07.free hZ (t7.fresh hZ)) h8 (by omega) un lim9 (t8.le (by omega)) (k07.trans k8)
end

/-! ### the law: what is asked of Added -/
/-- what is due -/
inductive Due88 (l : List Int) (fresh : V) : List V → Prop where
  | marks (h : wellM l = false) : Due88 l fresh [.str "marks", .bl true]
  | fresh {m n : Int} (h : wellM l = true) (t : Top1 l m) (e : fresh = .int n) (lt : n < m + 1) : Due88 l fresh [.str "fresh", .int (m + 1)]
  | made {m n : Int} (h : wellM l = true) (t : Top1 l m) (e : NewF fresh m n) : Due88 l fresh [.str "made", .non]
def spAsked : Sp := fun vs H Q _ => ∃ (a : Addr) (l : List Int) (most : Int) (fresh : V), vs = [.ref a, .int most, fresh] ∧ H a = some (.lst (l.map V.int)) ∧ l.length ≤ 100 ∧ (fresh = .non ∨ ∃ n : Int, fresh = .int n) ∧
  ∀ H' p xs, Same H H' → H' p = some (.tup xs) → Due88 l fresh xs → Q (.ref p) H'
section
variable {P : Program} {w : World} {K : PySem.W.Frag} {mg : Str → Option Value} {base : Heap}
theorem has_asked {cs : Nat → Addr} (T : Top K mg cs) (h_Added___init__ : HasIX P w K mg base (cs 7) 5 "Added" "fresh" ["self", "marks", "most"] (spAdded K (cs 7) (cs 0) (cs 3))) : Has P w K mg base 7 "_law_asked" ["_law_marks_here", "_law_most", "_law_begin"] spAsked := by
  refine has_of T.d__law_asked sc__law_asked bd__law_asked (fun vs H Q E h => ?_) (fun f cdv A outer s H vs Q E hr h => ?_)
  · obtain ⟨a, l, most, fresh, rfl, _⟩ := h
    rfl
  · have hu := hu_of hr
    have nd := sc__law_asked.nd
    obtain ⟨a, l, most, fresh, rfl, ha, few, hf, k⟩ := h
    refine ⟨_, (pss_cons (ps_par (i := 3) (j := 4) (by rfl) nd rfl rfl (by decide) rfl rfl (pa_cons (pe_callTy call_list_of (by rfl) T.b_list (by decide +kernel) (pa_cons (pv 0) pa_nil)) (pa_cons (pe_tup (pa_cons pe_str (pa_cons pe_non pa_nil))) pa_nil)) (by rfl))
    (C8.pss_cut (ps_try_manyAs rfl rfl nd takes0 (fun W pn xe tk _ =>
      (pss_one (ps_if (pt_cmpR op_isN (pv 2) pe_non (nomark _)) (pss_one (ps_expr (pe_hasIX tk h_Added___init__ (hr.mono (by omega)) (by rfl) (pa_cons (pv 0) (pa_cons (pv 1) pa_nil))))) (pss_one (ps_expr (pe_hasIXk tk h_Added___init__ (hr.mono (by omega)) (by rfl) (pa_cons (pv 0) (pa_cons (pv 1) pa_nil)) (pk_cons (pv 2) pk_nil)))))))
      (.cons (i := 5) rfl rfl (names_own T.k_NoMarks.mg (by rfl)) (fun a oe cls d pn hz hf =>
      (pss_one (ps_set (i := 4) nd rfl (.inl rfl) (pe_tup (pa_cons pe_str (pa_cons (pe_and (pe_callB (call_isX hz hf) (by rfl) T.b_isinstance (by decide +kernel) (pa_cons (pv 5) (pa_cons (pe_bltn (v := .ty "ValueError") (u := .type "ValueError") (by rfl) T.b_ValueError (by decide +kernel) (by rfl)) pa_nil))) (pe_one (pe_not (pe_callB (call_isXT hz hf) (by rfl) T.b_isinstance (by decide +kernel) (pa_cons (pv 5) (pa_cons (pe_tup (pa_cons (pe_cls T.k_NoPlan.mg (by rfl)) (pa_cons (pe_cls T.k_NoText.mg (by rfl)) (pa_cons (pe_cls T.k_NoFresh.mg (by rfl)) (pa_cons (pe_cls T.k_NoBound.mg (by rfl)) pa_nil))))) pa_nil)))))) pa_nil)))))) (.cons (i := 5) rfl rfl (names_own T.k_NoFresh.mg (by rfl)) (fun a oe cls d pn hz hf =>
      (pss_one (ps_set (i := 4) nd rfl (.inl rfl) (pe_tup (pa_cons pe_str (pa_cons (pe_ifExp (pt_val (pe_callB (call_isX hz hf) (by rfl) T.b_isinstance (by decide +kernel) (pa_cons (pv 5) (pa_cons (pe_bltn (v := .ty "ValueError") (u := .type "ValueError") (by rfl) T.b_ValueError (by decide +kernel) (by rfl)) pa_nil)))) (pe_xf T.k_NoFresh.xf (T.k_NoFresh.no "lowest" (by decide)) hz hf (pv 5)) pe_non) pa_nil)))))) (.cons (i := 5) rfl rfl (names_own T.k_TooMany.mg (by rfl)) (fun a oe cls d pn hz hf =>
      (pss_one (ps_set (i := 4) nd rfl (.inl rfl) (pe_tup (pa_cons pe_str (pa_cons (pe_xf T.k_TooMany.xf (T.k_TooMany.no "many" (by decide)) hz hf (pv 5)) pa_nil)))))) .nil))))
    (pss_one (ps_ret (pe_ifExp (pt_cmpR (op_eqD hr.units) (pv 0) (pv 3) (nomark _)) (pv 4) pe_non))))), ?_⟩
    refine ⟨_, rfl, a, _, rfl, .inl (SqL.of ha), fun kp nk => ⟨by show 2 ≤ sizeLine; decide, fun p np => ⟨_, _, rfl, ?_⟩⟩⟩
    have s2 := (same_new nk (o := .lst (l.map V.int))).trans (same_new np (o := .tup [V.str "made", V.non]))
    have hkp : (upd (upd H kp (.lst (l.map V.int))) p (.tup [V.str "made", V.non])) kp = some (.lst (l.map V.int)) := same_new np _ _ upd_same
    have hp : (upd (upd H kp (.lst (l.map V.int))) p (.tup [V.str "made", V.non])) p = some (.tup [V.str "made", V.non]) := upd_same
    have nH : ∀ {b : Addr}, (upd (upd H kp (.lst (l.map V.int))) p (.tup [V.str "made", V.non])) b = none → H b = none := fun {b} e => by
      cases z : H b with
      | none => rfl
      | some o =>
        rw [s2 _ _ z] at e
        cases e
    generalize upd (upd H kp (.lst (l.map V.int))) p (.tup [V.str "made", V.non]) = H2 at s2 hkp hp nH ⊢
    refine ⟨fun σ' H' => ∃ (q : Addr) (xs : List V) (v5 : Option V), σ' = [some (.ref a), some (.int most), some fresh, some (.ref kp), some (.ref q), v5] ∧ Same H H' ∧ H' kp = some (.lst (l.map V.int)) ∧ H' q = some (.tup xs) ∧ Due88 l fresh xs, ?_, ?_⟩
    · have ha2 : ∀ {S dx : Addr} {o u : HO}, H2 S = none → H2 dx = none → (upd (upd H2 dx o) S u) a = some (.lst (l.map V.int)) := fun {S dx o u} n1 n2 => by
        rw [upd_ne (ne_of_none (s2 _ _ ha) n1), upd_ne (ne_of_none (s2 _ _ ha) n2)]
        exact s2 _ _ ha
      rcases hf with rfl | ⟨n0, rfl⟩
      · refine ⟨_, rfl, rfl, _, rfl, iteTd rfl ?_⟩
        refine ⟨_, rfl, _, rfl, fun S dx nS ndx ne => ⟨S, dx, a, l, most, .non, rfl, upd_same, ha2 nS ndx, by omega, .inl rfl, fun hw H' sk => ?_, fun hw m top => ⟨fun n hn H' R sk => ⟨rfl, ?_⟩, fun n en => by cases en⟩⟩⟩
        · have s2' : Same H2 H' := fun b o e => sk b o (by rw [upd_ne (ne_of_none e nS), upd_ne (ne_of_none e ndx)]; exact e) (ne_of_none e nS)
          refine ⟨true, exm_self T.k_NoMarks (base_V.flat _), fun _ ex nex => ?_, fun z => by cases z⟩
          refine ⟨_, rfl, .ty "ValueError", .type "ValueError", cs 0, true, rfl, rfl, .ty _, T.k_NoMarks.ex, xd_none, kit_base T.k_NoMarks (by decide +kernel) (by decide +kernel), true, rfl, iteT ?_⟩
          refine ⟨_, rfl, by show 4 ≤ sizeLine; decide, fun q hq => ⟨q, [.ref (cs 1), .ref (cs 2), .ref (cs 3), .ref (cs 4)], [.ref (cs 1), .ref (cs 2), .ref (cs 3), .ref (cs 4)], cs 0, false, rfl, rfl, upd_same, .cons (.own _) (.cons (.own _) (.cons (.own _) (.cons (.own _) .nil))), T.k_NoMarks.ex, xd_none, ?_, ?_⟩⟩
          · have ne : ∀ j, j < 8 → 0 ≠ j → cs 0 ≠ cs j := fun j hj h z => h (T.one 0 j (by decide) hj z)
            exact kit_no (kit_other T.k_NoMarks T.k_NoPlan (base_V.flat _) (ne 1 (by decide) (by decide))) (kit_no (kit_other T.k_NoMarks T.k_NoText (base_V.flat _) (ne 2 (by decide) (by decide))) (kit_no (kit_other T.k_NoMarks T.k_NoFresh (base_V.flat _) (ne 3 (by decide) (by decide))) (kit_no (kit_other T.k_NoMarks T.k_NoBound (base_V.flat _) (ne 4 (by decide) (by decide))) kit_nil)))
          · have sq := same_new (o := .tup [V.ref (cs 1), .ref (cs 2), .ref (cs 3), .ref (cs 4)]) hq
            refine ⟨false, rfl, by show 2 ≤ sizeLine; decide, fun r nr => ⟨r, _, none, rfl, s2.trans (s2'.trans (sq.trans (same_new nr))), same_new nr _ _ (sq _ _ (s2' _ _ hkp)), upd_same, .marks hw⟩⟩
        · have s2' : Same H2 H' := fun b o e => sk b o (by rw [upd_ne (ne_of_none e nS), upd_ne (ne_of_none e ndx)]; exact e) (ne_of_none e nS)
          exact ⟨p, _, none, rfl, s2.trans s2', s2' _ _ hkp, s2' _ _ hp, .made hw top hn⟩
      · refine ⟨_, rfl, rfl, _, rfl, iteFd (by intro z; cases z) ?_⟩
        refine ⟨_, rfl, _, rfl, _, rfl, rfl, rfl, fun S dx nS ndx ne => ⟨S, dx, a, l, most, .int n0, rfl, upd_same, ha2 nS ndx, by omega, .inr ⟨n0, rfl⟩, fun hw H' sk => ?_, fun hw m top => ⟨fun n hn H' R sk => ⟨rfl, ?_⟩, fun n en lt H' d sk nd hd => ?_⟩⟩⟩
        · have s2' : Same H2 H' := fun b o e => sk b o (by rw [upd_ne (ne_of_none e nS), upd_ne (ne_of_none e ndx)]; exact e) (ne_of_none e nS)
          refine ⟨true, exm_self T.k_NoMarks (base_V.flat _), fun _ ex nex => ?_, fun z => by cases z⟩
          refine ⟨_, rfl, .ty "ValueError", .type "ValueError", cs 0, true, rfl, rfl, .ty _, T.k_NoMarks.ex, xd_none, kit_base T.k_NoMarks (by decide +kernel) (by decide +kernel), true, rfl, iteT ?_⟩
          refine ⟨_, rfl, by show 4 ≤ sizeLine; decide, fun q hq => ⟨q, [.ref (cs 1), .ref (cs 2), .ref (cs 3), .ref (cs 4)], [.ref (cs 1), .ref (cs 2), .ref (cs 3), .ref (cs 4)], cs 0, false, rfl, rfl, upd_same, .cons (.own _) (.cons (.own _) (.cons (.own _) (.cons (.own _) .nil))), T.k_NoMarks.ex, xd_none, ?_, ?_⟩⟩
          · have ne : ∀ j, j < 8 → 0 ≠ j → cs 0 ≠ cs j := fun j hj h z => h (T.one 0 j (by decide) hj z)
            exact kit_no (kit_other T.k_NoMarks T.k_NoPlan (base_V.flat _) (ne 1 (by decide) (by decide))) (kit_no (kit_other T.k_NoMarks T.k_NoText (base_V.flat _) (ne 2 (by decide) (by decide))) (kit_no (kit_other T.k_NoMarks T.k_NoFresh (base_V.flat _) (ne 3 (by decide) (by decide))) (kit_no (kit_other T.k_NoMarks T.k_NoBound (base_V.flat _) (ne 4 (by decide) (by decide))) kit_nil)))
          · have sq := same_new (o := .tup [V.ref (cs 1), .ref (cs 2), .ref (cs 3), .ref (cs 4)]) hq
            refine ⟨false, rfl, by show 2 ≤ sizeLine; decide, fun r nr => ⟨r, _, none, rfl, s2.trans (s2'.trans (sq.trans (same_new nr))), same_new nr _ _ (sq _ _ (s2' _ _ hkp)), upd_same, .marks hw⟩⟩
        · have s2' : Same H2 H' := fun b o e => sk b o (by rw [upd_ne (ne_of_none e nS), upd_ne (ne_of_none e ndx)]; exact e) (ne_of_none e nS)
          exact ⟨p, _, none, rfl, s2.trans s2', s2' _ _ hkp, s2' _ _ hp, .made hw top hn⟩
        · have s2' : Same H2 H' := fun b o e => sk b o (by rw [upd_ne (ne_of_none e nS), upd_ne (ne_of_none e ndx)]; exact e) (ne_of_none e nS)
          refine ⟨false, ?_, (fun z => by cases z), fun _ => ⟨true, exm_self T.k_NoFresh (base_V.flat _), fun _ ex nex => ?_, fun z => by cases z⟩⟩
          · show PySem.W.exmOne K _ _ = _
            rw [exm_two T.k_NoFresh T.k_NoMarks (base_V.flat _), decide_eq_false]
            exact fun z => absurd (T.one 3 0 (by decide) (by decide) z) (by decide)
          · refine ⟨_, rfl, .ty "ValueError", .type "ValueError", cs 3, true, rfl, rfl, .ty _, T.k_NoFresh.ex, fun dx z => by cases z; exact ⟨_, hd⟩, kit_base T.k_NoFresh (by decide +kernel) (by decide +kernel), true, rfl, iteT ?_⟩
            refine ⟨_, rfl, rfl, rfl, d, _, _, rfl, hd, rfl, by show 2 ≤ sizeLine; decide, fun r nr => ⟨r, _, none, rfl, s2.trans (s2'.trans (same_new nr)), same_new nr _ _ (s2' _ _ hkp), upd_same, .fresh hw top en lt⟩⟩
    · rintro σ' H3 ⟨q, xs, v5, rfl, s3, hk3, hq3, due⟩
      refine ⟨_, rfl, _, rfl, lstD l, lstD l, dp_lst (s3 _ _ ha), dp_lst hk3, shape_lst l, shape_lst l, _, rfl, ?_⟩
      rw [SeqAt.eqv_refl _ (lay_lst l)]
      exact iteT ⟨_, rfl, k _ q xs s3 hq3 due⟩
end

/-! ### the law: spoilt marks -/
theorem wellM_long {l : List Int} (h : ¬ (1 ≤ l.length ∧ l.length ≤ 60)) : wellM l = false := by
  unfold wellM
  rw [decide_eq_false h, Bool.false_and]
theorem wellM_big {l : List Int} {x : Int} (hx : x ∈ l) (h : 1000000000 < absI x) : wellM l = false := by
  cases e : wellM l with
  | false => rfl
  | true =>
    have := (abs_le9 e _ (List.mem_map.mpr ⟨x, hx, rfl⟩)).2
    omega
theorem wellM_dup {l : List Int} (h : ¬ (absL l).Nodup) : wellM l = false := by
  unfold wellM
  rw [decide_eq_false h, Bool.and_false, Bool.and_false]
theorem dup_ins {l : List Int} {i : Nat} {x y : Int} (hx : x ∈ l) (e : absI y = absI x) : ¬ (absL (l.take i ++ [y] ++ l.drop i)).Nodup := fun nd => by
  unfold absL at nd
  rw [List.append_assoc, List.map_append, List.nodup_append] at nd
  obtain ⟨_, nd2, nd3⟩ := nd
  rw [← List.take_append_drop i l] at hx
  rcases List.mem_append.mp hx with h | h
  · exact nd3 _ (List.mem_map.mpr ⟨x, h, rfl⟩) _ (List.mem_map.mpr ⟨y, by simp, rfl⟩) e.symm
  · rw [List.map_append, List.map_singleton, List.singleton_append, List.nodup_cons] at nd2
    exact nd2.1 (List.mem_map.mpr ⟨x, h, e.symm⟩)
def spSpoilt : Sp := fun vs H Q _ => ∃ (t c a : Addr) (l : List Int) (n : Nat), vs = [.ref t, .ref a] ∧ Tape H t c n ∧ n < 1000000 ∧ H a = some (.lst (l.map V.int)) ∧ 1 ≤ l.length ∧ l.length ≤ 60 ∧
  ∀ (H' : Hp) (p : Addr) (l' : List Int), H' p = some (.lst (l'.map V.int)) → wellM l' = false → l'.length ≤ 100 → Tape H' t c (n + 5) → Kp t H H' → Q (.ref p) H'
section
variable {P : Program} {w : World} {K : PySem.W.Frag} {mg : Str → Option Value} {base : Heap}
theorem has_spoilt {cs : Nat → Addr} (T : Top K mg cs) (h__law_draw : Has P w K mg base 1 "_law_draw" ["_law_tape", "_law_many"] spDraw) (h__law_pick : Has P w K mg base 2 "_law_pick" ["_law_tape", "_law_some"] (spPick K)) :
    Has P w K mg base 3 "_law_spoilt" ["_law_tape", "_law_marks_here"] spSpoilt := by
  refine has_of T.d__law_spoilt sc__law_spoilt bd__law_spoilt (fun vs H Q E h => ?_) (fun f cdv A outer s H vs Q E hr h => ?_)
  · obtain ⟨t, c, a, l, n, rfl, _⟩ := h
    rfl
  · have hu := hu_of hr
    have nd := sc__law_spoilt.nd
    obtain ⟨t, c, a, l, n, rfl, tp, hn, ha, l1, l2, k⟩ := h
    refine ⟨_, (pss_cons (ps_par3 (i := 2) (j := 3) (l := 4) (by rfl) nd rfl rfl rfl (by decide) (by decide) (by decide) rfl rfl rfl (pa_cons (pe_has h__law_draw (hr.mono (by omega)) (by rfl) (pa_cons (pv 0) (pa_cons (pe_callB call_len_seq (by rfl) T.b_len (by decide +kernel) (pa_cons (pv 1) pa_nil)) pa_nil))) (pa_cons (pe_has h__law_draw (hr.mono (by omega)) (by rfl) (pa_cons (pv 0) (pa_cons pe_int pa_nil))) (pa_cons (pe_has h__law_draw (hr.mono (by omega)) (by rfl) (pa_cons (pv 0) (pa_cons (pe_op op_add (pe_callB call_len_seq (by rfl) T.b_len (by decide +kernel) (pa_cons (pv 1) pa_nil)) pe_int) pa_nil))) pa_nil))) (by rfl))
    (pss_cons (ps_if (pt_cmpR op_eq (pv 3) pe_int (nomark _)) (pss_one (ps_ret (pe_lst pa_nil))) pss_nil)
    (pss_cons (ps_if (pt_cmpR op_eq (pv 3) pe_int (nomark _)) (pss_one (ps_ret (pe_lc (own := [("_law_k", 5)]) (by rfl) nd (pi_range1 (by rfl) T.b_range (pa_cons pe_int pa_nil)) (blkOk_by (own := [("_law_k", 5)]) (N := nm__law_spoilt) (sc := defScope s__law_spoilt) (by decide +kernel)) (fun _ _ _ _ _ => pg_name (i := 5) nd rfl (.inl rfl)) (fun _ _ _ _ _ => pts_nil) (fun _ _ _ _ _ => (pe_op op_add (pv 5) pe_int))))) pss_nil)
    (pss_cons (ps_if (pt_cmpR op_eq (pv 3) pe_int (nomark _)) (pss_one (ps_ret (pe_op op_cat (pe_op op_cat (pe_slice sl_list (pv 1) po_none (po_some (pv 2))) (pe_lst (pa_cons (pe_op op_mul (pe_has h__law_pick (hr.mono (by omega)) (by rfl) (pa_cons (pv 0) (pa_cons (pe_lst (pa_cons pe_int (pa_cons (pe_un un_neg pe_int) pa_nil))) pa_nil))) (pe_op op_add (pe_op op_pow pe_int pe_int) pe_int)) pa_nil))) (pe_slice sl_list (pv 1) (po_some (pe_op op_add (pv 2) pe_int)) po_none)))) pss_nil)
    (pss_one (ps_ret (pe_op op_cat (pe_op op_cat (pe_slice sl_list (pv 1) po_none (po_some (pv 4))) (pe_lst (pa_cons (pe_op op_mul (pe_ix ix_list (pv 1) (pv 2) (fun _ _ => rfl)) (pe_has h__law_pick (hr.mono (by omega)) (by rfl) (pa_cons (pv 0) (pa_cons (pe_lst (pa_cons pe_int (pa_cons (pe_un un_neg pe_int) pa_nil))) pa_nil)))) pa_nil))) (pe_slice sl_list (pv 1) (po_some (pv 4)) po_none)))))))), ?_⟩
    have line : (5000000 : Nat) < sizeLine := by decide
    have hl : ((l.map V.int).length : Int) = (l.length : Int) := by rw [List.length_map]
    have cp : ∀ z : Int, 0 ≤ z → z ≤ 1000000 → CPow 10 z := fun z h0 h1 => ⟨h0, h1, by decide⟩
    refine ⟨_, rfl, _, rfl, a, _, rfl, .inl (SqL.of ha), t, c, _, n, rfl, tp, by omega, by omega, pow8000 (by omega), fun H1 r1 a1 b1 tp1 kp1 => ?_⟩
    have ha1 := tp.sq ha kp1
    refine ⟨_, rfl, t, c, _, n + 1, rfl, tp1, by omega, by decide, by decide +kernel, fun H2 r2 a2 b2 tp2 kp2 => ?_⟩
    have ha2 := tp1.sq ha1 kp2
    refine ⟨_, rfl, _, rfl, a, _, rfl, .inl (SqL.of ha2), _, _, rfl, rfl, t, c, _, n + 2, rfl, tp2, by omega, by omega, pow8000 (by omega), fun H3 r3 a3 b3 tp3 kp3 => ?_⟩
    have ha3 := tp2.sq ha2 kp3
    have kp := (kp1.trans kp2).trans kp3
    obtain ⟨i, rfl⟩ : ∃ i : Nat, r1 = (i : Int) := ⟨r1.toNat, by omega⟩
    obtain ⟨j, rfl⟩ : ∃ j : Nat, r3 = (j : Int) := ⟨r3.toNat, by omega⟩
    have li : i < l.length := by omega
    have hi := List.getElem?_eq_getElem li
    have mi := List.getElem_mem li
    generalize l[i] = x at hi mi
    refine ⟨_, _, _, rfl, ?_⟩
    refine ⟨_, rfl, rfl, _, rfl, ite2 (fun c0 => ?_) (fun c0 => ?_)⟩
    · refine ⟨by show 0 ≤ sizeLine; decide, fun q nq => k _ q [] upd_same (wellM_long (by intro z; exact absurd z.1 (by decide))) (by show 0 ≤ 100; decide) (((tp3.new nq).le (by omega))) (kp.trans (Kp.same (same_new nq)))⟩
    refine ⟨_, rfl, rfl, _, rfl, ite2 (fun c1 => ?_) (fun c1 => ?_)⟩
    · refine ⟨61, rfl, by decide, by decide, fun D hD => lc_sel_range (lo := 0) (fun _ => true) (fun (i : Nat) => .int (0 + (i : Int) + 1)) hD (by decide) (fun i hi => ⟨rfl, fun H' s' R g => g H' (Same.refl _), fun _ H' s' R g => ⟨_, rfl, _, _, rfl, rfl, g H' (Same.refl _)⟩⟩) fun H4 s4 h4 => ?_⟩
      have e4 : ((List.range (61 : Int).toNat).filter fun _ => true).map (fun (i : Nat) => V.int (0 + (i : Int) + 1)) = ((List.range 61).map fun (i : Nat) => (0 + (i : Int) + 1)).map V.int := by
        rw [filter_all, List.map_map]
        rfl
      rw [e4] at h4
      exact k _ D _ h4 (wellM_long (by rw [List.length_map, List.length_range]; decide)) (by rw [List.length_map, List.length_range]; decide) ((tp3.same s4).le (by omega)) (kp.trans (Kp.same s4))
    refine ⟨_, rfl, rfl, _, rfl, ite2 (fun c2 => ?_) (fun c2 => ?_)⟩
    · refine ⟨_, rfl, _, rfl, _, rfl, a, _, rfl, SqL.of ha3, fun P1 n1 => ?_⟩
      rw [cut_nat0]
      have s4 := same_new n1 (o := .lst ((l.map V.int).take i))
      have hP1 : (upd H3 P1 (.lst ((l.map V.int).take i))) P1 = some (.lst ((l.map V.int).take i)) := upd_same
      have tp4 := tp3.new (o := .lst ((l.map V.int).take i)) n1
      have ha4 := s4 _ _ ha3
      generalize upd H3 P1 (.lst ((l.map V.int).take i)) = H4 at s4 hP1 tp4 ha4 ⊢
      refine ⟨_, rfl, _, rfl, by show 2 ≤ sizeLine; decide, fun d hd => ?_⟩
      have tp5 := tp4.new (o := .lst [V.int 1, V.int (-1)]) hd
      refine ⟨t, c, d, _, n + 3, rfl, tp5, by omega, fun H' kp => .inl (SqL.of (kp d _ upd_same (tp4.fresh hd))), by show 0 < 2; decide, by show 2 ≤ 1000000; decide, fun H6 i6 v6 g6 tp6 kp6 => ?_⟩
      obtain ⟨z, rfl, mz⟩ := pick_int (zs := [1, -1]) g6
      have zb : z = 1 ∨ z = -1 := by
        simp only [List.mem_cons, List.not_mem_nil, or_false] at mz
        exact mz
      have hP6 := tp5.sq (same_new hd (o := .lst [V.int 1, V.int (-1)]) _ _ hP1) kp6
      have ha6 := tp5.sq (same_new hd (o := .lst [V.int 1, V.int (-1)]) _ _ ha4) kp6
      have kp6' := (kp.trans (Kp.same s4)).trans ((Kp.same (same_new hd (o := .lst [V.int 1, V.int (-1)]))).trans kp6)
      refine ⟨_, _, rfl, rfl, cp _ (by decide) (by decide), _, _, rfl, rfl, _, _, rfl, rfl, .inl ⟨by omega, by omega⟩, by show 1 ≤ sizeLine; decide, fun L nL => ?_⟩
      have e9 : (10 : Int) ^ (9 : Int).toNat = 1000000000 := by decide
      rw [e9]
      have hL : (upd H6 L (.lst [V.int (z * (1000000000 + 1))])) L = some (.lst [V.int (z * (1000000000 + 1))]) := upd_same
      have sL := same_new nL (o := .lst [V.int (z * (1000000000 + 1))])
      refine ⟨P1, L, _, _, rfl, rfl, sL _ _ hP6, hL, by rw [List.length_take, List.length_map]; show _ + 1 ≤ _; omega, fun C1 nC1 => ?_⟩
      have hC1 : (upd (upd H6 L (.lst [V.int (z * (1000000000 + 1))])) C1 (.lst ((l.map V.int).take i ++ [V.int (z * (1000000000 + 1))]))) C1 = some (.lst ((l.map V.int).take i ++ [V.int (z * (1000000000 + 1))])) := upd_same
      have s7 := sL.trans (same_new nC1 (o := .lst ((l.map V.int).take i ++ [V.int (z * (1000000000 + 1))])))
      have ha7 := s7 _ _ ha6
      generalize upd (upd H6 L (.lst [V.int (z * (1000000000 + 1))])) C1 (.lst ((l.map V.int).take i ++ [V.int (z * (1000000000 + 1))])) = H7 at hC1 s7 ha7 ⊢
      refine ⟨_, rfl, _, rfl, _, _, rfl, rfl, _, rfl, a, _, rfl, SqL.of ha7, fun P2 n2 => ?_⟩
      have ec : cutV (l.map V.int) (some ((i : Int) + 1)) none = (l.map V.int).drop (i + 1) := cut_from _ (i + 1)
      rw [ec]
      have s8 := same_new n2 (o := .lst ((l.map V.int).drop (i + 1)))
      refine ⟨C1, P2, _, _, rfl, rfl, s8 _ _ hC1, upd_same, by rw [List.length_append, List.length_take, List.length_drop, List.length_map]; show _ + 1 + _ ≤ _; omega, fun C2 nC2 => ?_⟩
      have s9 := s7.trans (s8.trans (same_new nC2 (o := .lst ((l.map V.int).take i ++ [V.int (z * (1000000000 + 1))] ++ (l.map V.int).drop (i + 1)))))
      refine k _ C2 (l.take i ++ [z * (1000000000 + 1)] ++ l.drop (i + 1)) ?_ (wellM_big (x := z * (1000000000 + 1)) (by simp) ?_) ?_ ((tp6.same s9).le (by omega)) (kp6'.trans (Kp.same s9))
      · rw [upd_same, List.map_append, List.map_append, List.map_take, List.map_drop]
        rfl
      · unfold absI
        rcases zb with rfl | rfl <;> decide
      · rw [List.length_append, List.length_append, List.length_take, List.length_drop]
        show _ + 1 + _ ≤ _
        omega
    · refine ⟨_, rfl, _, rfl, _, rfl, a, _, rfl, SqL.of ha3, fun P1 n1 => ?_⟩
      rw [cut_nat0]
      have s4 := same_new n1 (o := .lst ((l.map V.int).take j))
      have hP1 : (upd H3 P1 (.lst ((l.map V.int).take j))) P1 = some (.lst ((l.map V.int).take j)) := upd_same
      have tp4 := tp3.new (o := .lst ((l.map V.int).take j)) n1
      have ha4 := s4 _ _ ha3
      generalize upd H3 P1 (.lst ((l.map V.int).take j)) = H4 at s4 hP1 tp4 ha4 ⊢
      refine ⟨_, rfl, _, rfl, a, _, _, .int x, rfl, rfl, SqL.of ha4, at_of (j := i) rfl (by rw [List.getElem?_map, hi]; rfl), _, rfl, _, rfl, by show 2 ≤ sizeLine; decide, fun d hd => ?_⟩
      have tp5 := tp4.new (o := .lst [V.int 1, V.int (-1)]) hd
      refine ⟨t, c, d, _, n + 3, rfl, tp5, by omega, fun H' kp => .inl (SqL.of (kp d _ upd_same (tp4.fresh hd))), by show 0 < 2; decide, by show 2 ≤ 1000000; decide, fun H6 i6 v6 g6 tp6 kp6 => ?_⟩
      obtain ⟨z, rfl, mz⟩ := pick_int (zs := [1, -1]) g6
      have zb : z = 1 ∨ z = -1 := by
        simp only [List.mem_cons, List.not_mem_nil, or_false] at mz
        exact mz
      have hP6 := tp5.sq (same_new hd (o := .lst [V.int 1, V.int (-1)]) _ _ hP1) kp6
      have ha6 := tp5.sq (same_new hd (o := .lst [V.int 1, V.int (-1)]) _ _ ha4) kp6
      have kp6' := (kp.trans (Kp.same s4)).trans ((Kp.same (same_new hd (o := .lst [V.int 1, V.int (-1)]))).trans kp6)
      refine ⟨_, _, rfl, rfl, .inr ⟨by omega, by omega⟩, by show 1 ≤ sizeLine; decide, fun L nL => ?_⟩
      have hL : (upd H6 L (.lst [V.int (x * z)])) L = some (.lst [V.int (x * z)]) := upd_same
      have sL := same_new nL (o := .lst [V.int (x * z)])
      refine ⟨P1, L, _, _, rfl, rfl, sL _ _ hP6, hL, by rw [List.length_take, List.length_map]; show _ + 1 ≤ _; omega, fun C1 nC1 => ?_⟩
      have hC1 : (upd (upd H6 L (.lst [V.int (x * z)])) C1 (.lst ((l.map V.int).take j ++ [V.int (x * z)]))) C1 = some (.lst ((l.map V.int).take j ++ [V.int (x * z)])) := upd_same
      have s7 := sL.trans (same_new nC1 (o := .lst ((l.map V.int).take j ++ [V.int (x * z)])))
      have ha7 := s7 _ _ ha6
      generalize upd (upd H6 L (.lst [V.int (x * z)])) C1 (.lst ((l.map V.int).take j ++ [V.int (x * z)])) = H7 at hC1 s7 ha7 ⊢
      refine ⟨_, rfl, _, rfl, _, rfl, a, _, rfl, SqL.of ha7, fun P2 n2 => ?_⟩
      rw [cut_from]
      have s8 := same_new n2 (o := .lst ((l.map V.int).drop j))
      refine ⟨C1, P2, _, _, rfl, rfl, s8 _ _ hC1, upd_same, by rw [List.length_append, List.length_take, List.length_drop, List.length_map]; show _ + 1 + _ ≤ _; omega, fun C2 nC2 => ?_⟩
      have s9 := s7.trans (s8.trans (same_new nC2 (o := .lst ((l.map V.int).take j ++ [V.int (x * z)] ++ (l.map V.int).drop j))))
      refine k _ C2 (l.take j ++ [x * z] ++ l.drop j) ?_ (wellM_dup (dup_ins mi ?_)) ?_ ((tp6.same s9).le (by omega)) (kp6'.trans (Kp.same s9))
      · rw [upd_same, List.map_append, List.map_append, List.map_take, List.map_drop]
        rfl
      · unfold absI
        rcases zb with rfl | rfl
        · rw [Int.mul_one]
        · split <;> split <;> omega
      · rw [List.length_append, List.length_append, List.length_take, List.length_drop]
        show _ + 1 + _ ≤ _
        omega
end

/-! ### k88: the law -/
def dV : V → PyData
  | .bl b => .bool b
  | .int i => .int i
  | .str s => .str s
  | _ => .none
theorem due_dp {K : PySem.W.Frag} {H : Hp} {l : List Int} {b : V} {xs : List V} (d : Due88 l b xs) : DpAll K H xs (xs.map dV) := by
  cases d with
  | marks => exact .cons (.str _) (.cons (.bl _) .nil)
  | fresh => exact .cons (.str _) (.cons (.int _) .nil)
  | made => exact .cons (.str _) (.cons .non .nil)
theorem due_lay {l : List Int} {b : V} {xs : List V} (d : Due88 l b xs) : (PyData.tuple (xs.map dV)).canLay0 = true := by
  cases d with
  | marks => decide +kernel
  | fresh =>
    simp [dV, PyData.canLay0, PyData.canLayAll0]
    decide +kernel
  | made => decide +kernel
theorem due_shape {l : List Int} {b : V} {xs : List V} (d : Due88 l b xs) : SeqAt.shaped (.tuple (xs.map dV)) = true := by
  unfold SeqAt.shaped
  rw [due_lay d, Bool.true_and]
  cases d with
  | marks => decide +kernel
  | fresh => rfl
  | made => decide +kernel
theorem top1_uniq {l : List Int} {m k : Int} (a : Top1 l m) (b : Top1 l k) : m = k := Int.le_antisymm (b.2 m a.1) (a.2 k b.1)
theorem due_uniq {l : List Int} {b : V} {xs ys : List V} (d : Due88 l b xs) (e : Due88 l b ys) : xs = ys := by
  cases d with
  | marks h =>
    cases e with
    | marks => rfl
    | fresh h2 => rw [h] at h2; cases h2
    | made h2 => rw [h] at h2; cases h2
  | fresh h t en lt =>
    cases e with
    | marks h2 => rw [h] at h2; cases h2
    | fresh h2 t2 => rw [top1_uniq t t2]
    | made h2 t2 nf =>
      have := top1_uniq t t2
      rcases nf with ⟨z, _⟩ | ⟨z, le⟩
      · rw [z] at en
        cases en
      · rw [z] at en
        cases en
        omega
  | made h t nf =>
    cases e with
    | marks h2 => rw [h] at h2; cases h2
    | fresh h2 t2 en lt =>
      have := top1_uniq t t2
      rcases nf with ⟨z, _⟩ | ⟨z, le⟩
      · rw [z] at en
        cases en
      · rw [z] at en
        cases en
        omega
    | made => rfl
theorem un_well {ms : List Int} (u : Un ms) (h1 : 1 ≤ ms.length) (h2 : ms.length ≤ 60) (low : ∀ x ∈ ms, x.natAbs ≤ 10 ^ 9) : wellM ms = true := by
  have ab : ∀ x : Int, absI x = (x.natAbs : Int) := fun x => by
    unfold absI
    split <;> omega
  unfold wellM
  rw [decide_eq_true (show 1 ≤ ms.length ∧ ms.length ≤ 60 from ⟨h1, h2⟩), Bool.true_and, Bool.and_eq_true]
  refine ⟨List.all_eq_true.mpr fun x hx => ?_, decide_eq_true ?_⟩
  · have := u.nz x hx
    have := low x hx
    rw [ab, decide_eq_true (by omega), decide_eq_true (by omega)]
    rfl
  · have e : absL ms = (nas ms).map fun (n : Nat) => (n : Int) := by
      unfold absL nas
      rw [List.map_map]
      exact List.map_congr_left fun x _ => ab x
    rw [e]
    exact List.pairwise_map.mpr (u.nd.imp fun h z => h (Int.ofNat.inj z))
def spLaw (K : PySem.W.Frag) : Sp := fun vs H Q _ => ∃ (a : Addr) (ns : List Int), vs = [.ref a] ∧ SqL K H a (ns.map V.int) ∧ ns.length ≤ 63 ∧ ∀ H', Q (.bl true) H'
/-- what stands when it is asked -/
def PA (a t c : Addr) (e : Nat) (good : Bool) (σ : L2.St) (H : Hp) : Prop := ∃ (v2 v4 v8 : Option V) (sp du mk : Addr) (b0 b1 : Bool) (l : List Int) (most : Int) (bg : V) (xs : List V), σ = [some (.ref a), some (.ref t), v2, some (.ref sp), v4, some (.ref du), some (.ref mk), some (.int most), v8, some bg, none, none] ∧
  Tape H t c e ∧ H sp = some (.lst [.bl b0, .bl b1]) ∧ H mk = some (.lst (l.map V.int)) ∧ l.length ≤ 100 ∧ (good = true → 1 ≤ l.length ∧ l.length ≤ 60) ∧ (bg = .non ∨ ∃ n : Int, bg = .int n) ∧ H du = some (.tup xs) ∧ Due88 l bg xs
def PB (a t c : Addr) (e : Nat) (σ : L2.St) (H : Hp) : Prop := ∃ (v2 v3 v4 v5 v6 v7 v8 v9 : Option V), σ = [some (.ref a), some (.ref t), v2, v3, v4, v5, v6, v7, v8, v9, none, none] ∧ Tape H t c e
section
variable {P : Program} {w : World} {K : PySem.W.Frag} {mg : Str → Option Value} {base : Heap} {cs : Nat → Addr}
theorem ok_law {f : Addr} {fd : FuncData} (F : Fun K "law" "law" s_law f fd) (T : Top K mg cs) (h__law_begun : Has P w K mg base 1 "_law_begun" ["_law_script"] (spBegun K)) (h__law_draw : Has P w K mg base 1 "_law_draw" ["_law_tape", "_law_many"] spDraw)
    (h__law_pick : Has P w K mg base 2 "_law_pick" ["_law_tape", "_law_some"] (spPick K)) (h__law_marks : Has P w K mg base 3 "_law_marks" ["_law_tape", "_law_many"] spFar) (h__law_spoilt : Has P w K mg base 3 "_law_spoilt" ["_law_tape", "_law_marks_here"] spSpoilt)
    (h__law_asked : Has P w K mg base 7 "_law_asked" ["_law_marks_here", "_law_most", "_law_begin"] spAsked) : FnG P w K mg base 12 f fd ["_law_script"] (spLaw K) := by
  refine fnG F sc_law (fun vs H Q E h => ?_) (fun cdv Ar outer s H vs Q E hr hgd h => ?_)
  · obtain ⟨a, ns, rfl, _⟩ := h
    rfl
  · have hu := hu_of hr
    have nd := sc_law.nd
    obtain ⟨a, ns, rfl, hS, hl, k⟩ := h
    refine ⟨_, (pss_cons (ps_set (i := 1) nd rfl (.inr rfl) (pe_has h__law_begun (hr.mono (by omega)) (by rfl) (pa_cons (pv 0) pa_nil)))
    (pss_cons (ps_for PassesOwn.never rfl (pi_range1 (by rfl) T.b_range (pa_cons pe_int pa_nil)) (pg_name (i := 2) nd rfl (.inl rfl))
      (pss_cons (ps_setLc (i := 3) (own := [("_law_k", 10)]) (by rfl) nd rfl rfl (sw_true rfl rfl rfl (by decide +kernel)) (pi_range1 (by rfl) T.b_range (pa_cons pe_int pa_nil)) (blkOk_by (own := [("_law_k", 10)]) (N := nm_law) (sc := defScope s_law) (by decide +kernel)) (fun _ _ _ _ _ => pg_name (i := 10) nd rfl (.inl rfl)) (fun _ _ _ _ _ => pts_nil) (fun _ _ _ _ _ => (pe_cmpR op_eq (pe_has h__law_draw (hr.mono (by omega)) (by rfl) (pa_cons (pv 1) (pa_cons pe_int pa_nil))) pe_int (nomark _))))
    (pss_cons (ps_par (i := 4) (j := 5) (by rfl) nd rfl rfl (by decide) rfl rfl (pa_cons (pe_has h__law_pick (hr.mono (by omega)) (by rfl) (pa_cons (pv 1) (pa_cons (pe_lst (pa_cons (pe_op op_add pe_int (pe_has h__law_draw (hr.mono (by omega)) (by rfl) (pa_cons (pv 1) (pa_cons pe_int pa_nil)))) (pa_cons (pe_op op_add pe_int (pe_has h__law_draw (hr.mono (by omega)) (by rfl) (pa_cons (pv 1) (pa_cons pe_int pa_nil)))) (pa_cons pe_int pa_nil)))) pa_nil))) (pa_cons (pe_tup (pa_cons pe_str (pa_cons pe_non pa_nil))) pa_nil)) (by rfl))
    (pss_cons (ps_par (i := 6) (j := 7) (by rfl) nd rfl rfl (by decide) rfl rfl (pa_cons (pe_has h__law_marks (hr.mono (by omega)) (by rfl) (pa_cons (pv 1) (pa_cons (pv 4) pa_nil))) (pa_cons (pe_has h__law_pick (hr.mono (by omega)) (by rfl) (pa_cons (pv 1) (pa_cons (pe_lst (pa_cons pe_int (pa_cons pe_int (pa_cons pe_int (pa_cons (pv 4) (pa_cons pe_int pa_nil)))))) pa_nil))) pa_nil)) (by rfl))
    (pss_cons (ps_set (i := 8) nd rfl (.inl rfl) (pe_op op_add pe_int (pe_callB (cr_max rfl) (by rfl) T.b_max (by decide +kernel) (pa_cons (pe_lc (own := [("_law_mark", 11)]) (by rfl) nd (pi_list (pv 6)) (blkOk_by (own := [("_law_mark", 11)]) (N := nm_law) (sc := defScope s_law) (by decide +kernel)) (fun _ _ _ _ _ => pg_name (i := 11) nd rfl (.inl rfl)) (fun _ _ _ _ _ => pts_nil) (fun _ _ _ _ _ => (pe_callB call_abs (by rfl) T.b_abs (by decide +kernel) (pa_cons (pv 11) pa_nil)))) pa_nil))))
    (pss_cons (ps_set (i := 9) nd rfl (.inl rfl) (pe_has h__law_pick (hr.mono (by omega)) (by rfl) (pa_cons (pv 1) (pa_cons (pe_lst (pa_cons pe_non (pa_cons (pv 8) (pa_cons (pe_op op_pow pe_int pe_int) pa_nil)))) pa_nil))))
    (C8.pss_cut (ps_if (pt_val (pe_ix ix_list (pv 3) pe_int (fun _ _ => rfl))) (pss_one (ps_par (i := 9) (j := 5) (by rfl) nd rfl rfl (by decide) rfl rfl (pa_cons (pe_has h__law_pick (hr.mono (by omega)) (by rfl) (pa_cons (pv 1) (pa_cons (pe_lst (pa_cons (pe_op op_sub (pv 8) pe_int) (pa_cons pe_int (pa_cons (pe_op op_sub (pe_op op_sub (pv 8) pe_int) (pe_has h__law_draw (hr.mono (by omega)) (by rfl) (pa_cons (pv 1) (pa_cons (pv 8) pa_nil)))) pa_nil)))) pa_nil))) (pa_cons (pe_tup (pa_cons pe_str (pa_cons (pv 8) pa_nil))) pa_nil)) (by rfl))) pss_nil)
    (C8.pss_cut (ps_if (pt_val (pe_ix ix_list (pv 3) pe_int (fun _ _ => rfl))) (pss_one (ps_par (i := 6) (j := 5) (by rfl) nd rfl rfl (by decide) rfl rfl (pa_cons (pe_has h__law_spoilt (hr.mono (by omega)) (by rfl) (pa_cons (pv 1) (pa_cons (pv 6) pa_nil))) (pa_cons (pe_tup (pa_cons pe_str (pa_cons pe_bl pa_nil))) pa_nil)) (by rfl))) pss_nil)
    (pss_one (ps_if (pt_cmpR (op_neD hr.units) (pe_has h__law_asked (hr.mono (by omega)) (by rfl) (pa_cons (pv 6) (pa_cons (pv 7) (pa_cons (pv 9) pa_nil)))) (pv 5) (nomark _)) (pss_one (ps_ret pe_bl)) pss_nil))))))))))
    (pss_one (ps_ret pe_bl)))), ?_⟩
    have line : (5000000 : Nat) < sizeLine := by decide
    have cp : ∀ z : Int, 0 ≤ z → z ≤ 1000000 → CPow 10 z := fun z h0 h1 => ⟨h0, h1, by decide⟩
    have p9 : (10 : Int) ^ (9 : Int).toNat = 1000000000 := by decide
    have p10 : (10 : Int) ^ (10 : Int).toNat = 10000000000 := by decide
    refine ⟨_, rfl, a, ns, rfl, hS, hl, fun H1 t c ht hc sm tp => ?_⟩
    refine ⟨6, rfl, by decide, by decide, for_range (lo := 0) (fun i σ H2 => PB a t c (1000 * i) σ H2) ⟨none, none, none, none, none, none, none, none, rfl, tp⟩ ?_ ?_⟩
    rotate_left
    · rintro σ H' ⟨v2, v3, v4, v5, v6, v7, v8, v9, rfl, tp⟩
      exact k H'
    rintro i σ H2 hi ⟨v2, v3, v4, v5, v6, v7, v8, v9, rfl, tp2⟩
    have hi : i < 6 := hi
    -- what is spoilt
    refine ⟨2, rfl, by decide, by decide, fun D nD => lc_range (lo := 0) (fun j H' => ∃ bs : List Bool, H' D = some (.lst (bs.map V.bl)) ∧ bs.length = j ∧ Tape H' t c (1000 * i + j)) ⟨[], upd_same, rfl, tp2.new nD⟩ (fun j H' hj z => ?_) (fun H3 z => ?_)⟩
    · obtain ⟨bs, hD, lb, tp3⟩ := z
      have Dt := tp2.fresh nD
      have Dc := tp2.fresh_c nD
      refine ⟨rfl, yes_go ⟨_, rfl, t, c, 3, _, rfl, tp3, by omega, by decide, pow8000 (by decide), fun H4 r4 a4 b4 tp4 kp4 => ⟨rfl, bs.map V.bl, tp3.sq hD kp4, by rw [List.length_map]; have : j < 2 := hj; omega, bs ++ [decide (V.int r4 = V.int 0)], ?_, ?_, (tp4.mut Dt Dc).le (by omega)⟩⟩⟩
      · rw [upd_same, List.map_append]
        rfl
      · rw [List.length_append, lb]
        rfl
    obtain ⟨bs, hD, lb, tp3⟩ := z
    obtain ⟨b0, b1, rfl⟩ : ∃ b0 b1, bs = [b0, b1] := by
      match bs, lb with
      | [b0, b1], _ => exact ⟨b0, b1, rfl⟩
    have tp3 : Tape H3 t c (1000 * i + 2) := tp3
    -- how many marks
    refine ⟨_, rfl, _, rfl, t, c, 9, _, rfl, tp3, by omega, by decide, pow8000 (by decide), fun H4 r4 a4 b4 tp4 kp4 => ⟨_, _, rfl, rfl, _, rfl, t, c, 9, _, rfl, tp4, by omega, by decide, pow8000 (by decide), fun H5 r5 a5 b5 tp5 kp5 => ⟨_, _, rfl, rfl, by show 3 ≤ sizeLine; decide, fun d1 n1 => ?_⟩⟩⟩
    have tp5' := tp5.new (o := .lst [V.int (1 + r4), V.int (1 + r5), V.int 60]) n1
    refine ⟨t, c, d1, _, _, rfl, tp5', by omega, fun H' kp => .inl (SqL.of (kp d1 _ upd_same (tp5.fresh n1))), by show 0 < 3; decide, by show 3 ≤ 1000000; decide, fun H6 i6 w6 g6 tp6 kp6 => ?_⟩
    obtain ⟨many, rfl, mm⟩ := pick_int (zs := [1 + r4, 1 + r5, 60]) g6
    have manyb : 1 ≤ many ∧ many ≤ 60 := by
      simp only [List.mem_cons, List.not_mem_nil, or_false] at mm
      omega
    have hD6 := tp5'.sq (same_new n1 (o := .lst [V.int (1 + r4), V.int (1 + r5), V.int 60]) _ _ (tp4.sq (tp3.sq hD kp4) kp5)) kp6
    clear mm g6 kp6 kp5 kp4 tp5' tp5 tp4 tp3 hD n1
    refine ⟨by show 2 ≤ sizeLine; decide, fun du ndu => ⟨_, _, rfl, ?_⟩⟩
    have tp7 := tp6.new (o := .tup [V.str "made", V.non]) ndu
    have hdu : (upd H6 du (.tup [V.str "made", V.non])) du = some (.tup [V.str "made", V.non]) := upd_same
    have hD7 := same_new ndu (o := .tup [V.str "made", V.non]) _ _ hD6
    generalize upd H6 du (.tup [V.str "made", V.non]) = H7 at tp7 hdu hD7 ⊢
    have keepT : ∀ {G G' : Hp} {p : Addr} {xs : List V} {e : Nat}, Tape G t c e → G p = some (.tup xs) → Kp t G G' → G' p = some (.tup xs) := fun {G G' p xs e} h g q => by
      obtain ⟨ns, spot, left, h, _⟩ := h
      exact q p _ g (ne_of g h.d (by intro z; cases z))
    -- the marks
    refine ⟨_, rfl, _, rfl, t, c, many, _, rfl, tp7, by omega, by omega, by omega, fun H8 mk ms nmk hmk lms un low tp8 kp8 => ?_⟩
    have hD8 := tp7.sq hD7 kp8
    have hdu8 := keepT tp7 hdu kp8
    refine ⟨_, rfl, _, rfl, by show 5 ≤ sizeLine; decide, fun d2 n2 => ?_⟩
    have tp8' := tp8.new (o := .lst [V.int 0, V.int 1, V.int 2, V.int many, V.int 60]) n2
    refine ⟨t, c, d2, _, _, rfl, tp8', by omega, fun H' kp => .inl (SqL.of (kp d2 _ upd_same (tp8.fresh n2))), by show 0 < 5; decide, by show 5 ≤ 1000000; decide, fun H9 i9 w9 g9 tp9 kp9 => ⟨_, _, rfl, ?_⟩⟩
    obtain ⟨most, rfl, _⟩ := pick_int (zs := [0, 1, 2, many, 60]) g9
    have s2 := same_new n2 (o := .lst [V.int 0, V.int 1, V.int 2, V.int many, V.int 60])
    have hD9 := tp8'.sq (s2 _ _ hD8) kp9
    have hdu9 := keepT tp8' (s2 _ _ hdu8) kp9
    have hmk9 := tp8'.sq (s2 _ _ hmk) kp9
    clear g9 kp9 s2 tp8' hD8 hdu8 hmk n2 kp8 hD7 hdu tp7 nmk tp8 hD6 tp6 ndu
    have lm : ms.length = many.toNat := lms
    have well := un_well un (by omega) (by omega) low
    -- the greatest
    refine ⟨_, rfl, mk, rfl, ⟨_, SqL.of hmk9⟩, fun Z nZ => lc_sel_list (fun _ => true) (fun x => .int (absOf1 x)) (SqL.of hmk9) nZ (by rw [List.length_map]; omega) (fun x hm => ?_) fun H10 s10 h10 => ?_⟩
    · obtain ⟨y, _, rfl⟩ := List.mem_map.mp hm
      exact ⟨rfl, fun H' s' R q => q H' (Same.refl _), fun _ H' s' R q => ⟨_, rfl, y, rfl, q H' (Same.refl _)⟩⟩
    have eb : ((ms.map V.int).filter (fun _ => true)).map (fun x => V.int (absOf1 x)) = (absL ms).map V.int := by
      unfold absL
      rw [filter_all, List.map_map, List.map_map]
      rfl
    rw [eb] at h10
    refine ⟨Z, absL ms, rfl, SqL.of h10, by unfold absL; rw [List.length_map]; omega, fun m hm top => ⟨_, _, rfl, rfl, ?_⟩⟩
    have top1 : Top1 ms m := ⟨hm, top⟩
    have mb := abs_le9 well m hm
    generalize hv : (fun i j : Int => V.int (i + j)) 1 m = nv
    obtain rfl : nv = V.int (m + 1) := hv.symm.trans (congrArg V.int (Int.add_comm 1 m))
    clear hv
    have tp10 := tp9.same s10
    -- what to begin with
    refine ⟨_, rfl, _, rfl, _, _, rfl, rfl, cp _ (by decide) (by decide), by show 3 ≤ sizeLine; decide, fun d3 n3 => ?_⟩
    have tp10' := tp10.new (o := .lst [V.non, V.int (m + 1), V.int (10 ^ (10 : Int).toNat)]) n3
    refine ⟨t, c, d3, _, _, rfl, tp10', by omega, fun H' kp => .inl (SqL.of (kp d3 _ upd_same (tp10.fresh n3))), by show 0 < 3; decide, by show 3 ≤ 1000000; decide, fun H11 i11 bg g11 tp11 kp11 => ?_⟩
    have bgs : bg = .non ∨ ∃ n : Int, bg = .int n ∧ m + 1 ≤ n := by
      have := List.mem_of_getElem? g11
      simp only [List.mem_cons, List.not_mem_nil, or_false] at this
      rcases this with rfl | rfl | rfl
      · exact .inl rfl
      · exact .inr ⟨_, rfl, Int.le_refl _⟩
      · exact .inr ⟨_, rfl, by rw [p10]; omega⟩
    have s3 := s10.trans (same_new n3 (o := .lst [V.non, V.int (m + 1), V.int (10 ^ (10 : Int).toNat)]))
    have hD11 := tp10'.sq (s3 _ _ hD9) kp11
    have hdu11 := keepT tp10' (s3 _ _ hdu9) kp11
    have hmk11 := tp10'.sq (s3 _ _ hmk9) kp11
    clear g11 kp11 s3 tp10' n3 tp10 h10 eb s10 nZ hD9 hdu9 hmk9
    refine ⟨PA a t c (1000 * i + 500) true, ?_, ?_⟩
    · refine ⟨_, rfl, D, _, 0, .bl b0, rfl, rfl, SqL.of hD11, rfl, b0, rfl, ?_⟩
      have done : Due88 ms bg [V.str "made", V.non] := by
        rcases bgs with e | ⟨n, e, le⟩
        · exact .made well top1 (.inl ⟨e, rfl⟩)
        · exact .made well top1 (.inr ⟨e, le⟩)
      refine ite2 (fun _ => ?_) (fun _ => ⟨_, _, _, D, du, mk, b0, b1, ms, most, bg, _, rfl, tp11.le (by omega), hD11, hmk11, by omega, fun _ => ⟨by omega, by omega⟩, ?_, hdu11, done⟩)
      rotate_left
      · rcases bgs with e | ⟨n, e, _⟩
        · exact .inl e
        · exact .inr ⟨n, e⟩
      refine ⟨_, rfl, _, rfl, _, _, rfl, rfl, _, rfl, _, _, rfl, rfl, _, rfl, _, rfl, t, c, m + 1, _, rfl, tp11, by omega, by omega, Int.lt_of_le_of_lt (show m + 1 ≤ 10 ^ 10 by omega) (by decide +kernel), fun H12 r12 a12 b12 tp12 kp12 => ⟨_, _, rfl, rfl, by show 3 ≤ sizeLine; decide, fun d4 n4 => ?_⟩⟩
      have tp12' := tp12.new (o := .lst [V.int (m + 1 - 1), V.int 1, V.int (m + 1 - 1 - r12)]) n4
      refine ⟨t, c, d4, _, _, rfl, tp12', by omega, fun H' kp => .inl (SqL.of (kp d4 _ upd_same (tp12.fresh n4))), by show 0 < 3; decide, by show 3 ≤ 1000000; decide, fun H13 i13 w13 g13 tp13 kp13 => ?_⟩
      obtain ⟨n, rfl, mn⟩ := pick_int (zs := [m + 1 - 1, 1, m + 1 - 1 - r12]) g13
      have nb : n < m + 1 := by
        simp only [List.mem_cons, List.not_mem_nil, or_false] at mn
        omega
      have s4 := same_new n4 (o := .lst [V.int (m + 1 - 1), V.int 1, V.int (m + 1 - 1 - r12)])
      have hD13 := tp12'.sq (s4 _ _ (tp11.sq hD11 kp12)) kp13
      have hmk13 := tp12'.sq (s4 _ _ (tp11.sq hmk11 kp12)) kp13
      refine ⟨_, rfl, by show 2 ≤ sizeLine; decide, fun du2 nd2 => ⟨_, _, rfl, ?_⟩⟩
      have s5 := same_new nd2 (o := .tup [V.str "fresh", V.int (m + 1)])
      exact ⟨_, _, _, D, du2, mk, b0, b1, ms, most, .int n, _, rfl, (tp13.same s5).le (by omega), s5 _ _ hD13, s5 _ _ hmk13, by omega, fun _ => ⟨by omega, by omega⟩, .inr ⟨n, rfl⟩, upd_same, .fresh well top1 rfl nb⟩
    clear bgs hdu11 hmk11 hD11 tp11 mb top1 top hm well lm low un lms manyb tp9
    rintro σ H14 ⟨v2, v4, v8, sp, du, mk, b0, b1, l, most, bg, xs, rfl, tp14, hsp, hmk, few, good, hbg, hdu, due⟩
    refine ⟨PA a t c (1000 * i + 600) false, ?_, ?_⟩
    · refine ⟨_, rfl, sp, _, 1, .bl b1, rfl, rfl, SqL.of hsp, rfl, b1, rfl, ite2 (fun _ => ?_) (fun _ => ⟨_, _, _, sp, du, mk, b0, b1, l, most, bg, xs, rfl, tp14.le (by omega), hsp, hmk, few, (fun z => by cases z), hbg, hdu, due⟩)⟩
      obtain ⟨g1, g2⟩ := good rfl
      refine ⟨_, rfl, _, rfl, t, c, mk, l, _, rfl, tp14, by omega, hmk, g1, g2, fun H15 mk2 l2 h2 bad few2 tp15 kp15 => ⟨by show 2 ≤ sizeLine; decide, fun du3 nd3 => ⟨_, _, rfl, ?_⟩⟩⟩
      have s6 := same_new nd3 (o := .tup [V.str "marks", V.bl true])
      exact ⟨_, _, _, sp, du3, mk2, b0, b1, l2, most, bg, _, rfl, (tp15.same s6).le (by omega), s6 _ _ (tp14.sq hsp kp15), s6 _ _ h2, few2, (fun z => by cases z), hbg, upd_same, .marks bad⟩
    clear due hdu hbg good few hmk hsp tp14
    rintro σ H14 ⟨v2, v4, v8, sp, du, mk, b0, b1, l, most, bg, xs, rfl, tp14, hsp, hmk, few, good, hbg, hdu, due⟩
    refine ⟨_, rfl, _, rfl, _, rfl, mk, l, most, bg, rfl, hmk, few, hbg, fun H15 p15 xs15 s15 h15 due15 => ⟨_, rfl, .tuple (xs15.map dV), .tuple (xs.map dV), .tup (SqT.of h15) (due_dp due15), .tup (SqT.of (s15 _ _ hdu)) (due_dp due), due_shape due15, due_shape due, _, rfl, ?_⟩⟩
    rw [due_uniq due15 due, SeqAt.eqv_refl _ (due_lay due)]
    exact iteF ⟨_, _, _, _, _, _, _, _, rfl, (tp14.same s15).le (by omega)⟩
theorem at_law {f : Addr} {fd : FuncData} (F : Fun K "law" "law" s_law f fd) (T : Top K mg cs) : RunAt P w K mg base f fd ["_law_script"] (spLaw K) :=
  have d := has_draw T
  have p := has_pick T d
  have o := has_neg2 T
  have am := has_areM T (has_mark T (has_whole T))
  have fn := has_first T (hc_NoFresh T) (has_great T)
  have ad := hi_adding T (hm_adName T o) (has_sumT T) (has_carT T o)
  have ax := hx_added T (hc_NoMarks T) am fn ad (has_last T o)
  (ok_law F T (has_begun T) d p (has_far T d p) (has_spoilt T d p) (has_asked T ax)).at_ ⟨rfl, by decide, by decide⟩
end

theorem all_mk {l : PySem.W.OpenLaw} {w : World} {K : PySem.W.Frag} {h : Heap} {mg : Str → Option Value} {fa : Addr} (X : K.In h) (G : h.Ns mainGlobals mg) (hfa : mg "law" = some (.ref fa))
    {f0 : Addr} {od0 an0 : Option Addr} {sl0 : Array (Option Value)} {oc0 kV0 dc0 pm0 cd0 ct0 : Value}
    (a0 : PySem.W.nsIn K mainGlobals "_wall" = some (some (.ref f0))) (l0 : K.lookup f0 = some ⟨oc0, od0, .func (PySem.W.fnOf "_wall" "_wall" (defArgs s__wall) (defBody s__wall) (defScope s__wall) .none kV0 dc0 pm0 an0 cd0 ct0), sl0⟩) (cc0 : PySem.W.codeIn K cd0 "_wall" = true) (k0 : PySem.W.keepIn K (.ref f0) = true)
    {f1 : Addr} {od1 an1 : Option Addr} {sl1 : Array (Option Value)} {oc1 kV1 dc1 pm1 cd1 ct1 : Value}
    (a1 : PySem.W.nsIn K mainGlobals "is_whole" = some (some (.ref f1))) (l1 : K.lookup f1 = some ⟨oc1, od1, .func (PySem.W.fnOf "is_whole" "is_whole" (defArgs s_is_whole) (defBody s_is_whole) (defScope s_is_whole) .none kV1 dc1 pm1 an1 cd1 ct1), sl1⟩) (cc1 : PySem.W.codeIn K cd1 "is_whole" = true) (k1 : PySem.W.keepIn K (.ref f1) = true)
    {f2 : Addr} {od2 an2 : Option Addr} {sl2 : Array (Option Value)} {oc2 kV2 dc2 pm2 cd2 ct2 : Value}
    (a2 : PySem.W.nsIn K mainGlobals "is_mark" = some (some (.ref f2))) (l2 : K.lookup f2 = some ⟨oc2, od2, .func (PySem.W.fnOf "is_mark" "is_mark" (defArgs s_is_mark) (defBody s_is_mark) (defScope s_is_mark) .none kV2 dc2 pm2 an2 cd2 ct2), sl2⟩) (cc2 : PySem.W.codeIn K cd2 "is_mark" = true) (k2 : PySem.W.keepIn K (.ref f2) = true)
    {f3 : Addr} {od3 an3 : Option Addr} {sl3 : Array (Option Value)} {oc3 kV3 dc3 pm3 cd3 ct3 : Value}
    (a3 : PySem.W.nsIn K mainGlobals "others" = some (some (.ref f3))) (l3 : K.lookup f3 = some ⟨oc3, od3, .func (PySem.W.fnOf "others" "others" (defArgs s_others) (defBody s_others) (defScope s_others) .none kV3 dc3 pm3 an3 cd3 ct3), sl3⟩) (cc3 : PySem.W.codeIn K cd3 "others" = true) (k3 : PySem.W.keepIn K (.ref f3) = true)
    {f4 : Addr} {od4 an4 : Option Addr} {sl4 : Array (Option Value)} {oc4 kV4 dc4 pm4 cd4 ct4 : Value}
    (a4 : PySem.W.nsIn K mainGlobals "are_marks" = some (some (.ref f4))) (l4 : K.lookup f4 = some ⟨oc4, od4, .func (PySem.W.fnOf "are_marks" "are_marks" (defArgs s_are_marks) (defBody s_are_marks) (defScope s_are_marks) .none kV4 dc4 pm4 an4 cd4 ct4), sl4⟩) (cc4 : PySem.W.codeIn K cd4 "are_marks" = true) (k4 : PySem.W.keepIn K (.ref f4) = true)
    {f5 : Addr} {od5 an5 : Option Addr} {sl5 : Array (Option Value)} {oc5 kV5 dc5 pm5 cd5 ct5 : Value}
    (a5 : PySem.W.nsIn K mainGlobals "greatest_name" = some (some (.ref f5))) (l5 : K.lookup f5 = some ⟨oc5, od5, .func (PySem.W.fnOf "greatest_name" "greatest_name" (defArgs s_greatest_name) (defBody s_greatest_name) (defScope s_greatest_name) .none kV5 dc5 pm5 an5 cd5 ct5), sl5⟩) (cc5 : PySem.W.codeIn K cd5 "greatest_name" = true) (k5 : PySem.W.keepIn K (.ref f5) = true)
    {f6 : Addr} {od6 an6 : Option Addr} {sl6 : Array (Option Value)} {oc6 kV6 dc6 pm6 cd6 ct6 : Value}
    (a6 : PySem.W.nsIn K mainGlobals "first_new" = some (some (.ref f6))) (l6 : K.lookup f6 = some ⟨oc6, od6, .func (PySem.W.fnOf "first_new" "first_new" (defArgs s_first_new) (defBody s_first_new) (defScope s_first_new) .none kV6 dc6 pm6 an6 cd6 ct6), sl6⟩) (cc6 : PySem.W.codeIn K cd6 "first_new" = true) (k6 : PySem.W.keepIn K (.ref f6) = true)
    {f7 : Addr} {od7 an7 : Option Addr} {sl7 : Array (Option Value)} {oc7 kV7 dc7 pm7 cd7 ct7 : Value}
    (a7 : PySem.W.nsIn K mainGlobals "show_marks" = some (some (.ref f7))) (l7 : K.lookup f7 = some ⟨oc7, od7, .func (PySem.W.fnOf "show_marks" "show_marks" (defArgs s_show_marks) (defBody s_show_marks) (defScope s_show_marks) .none kV7 dc7 pm7 an7 cd7 ct7), sl7⟩) (cc7 : PySem.W.codeIn K cd7 "show_marks" = true) (k7 : PySem.W.keepIn K (.ref f7) = true)
    {f8 : Addr} {od8 an8 : Option Addr} {sl8 : Array (Option Value)} {oc8 kV8 dc8 pm8 cd8 ct8 : Value}
    (a8 : PySem.W.nsIn K mainGlobals "_sum_tuples" = some (some (.ref f8))) (l8 : K.lookup f8 = some ⟨oc8, od8, .func (PySem.W.fnOf "_sum_tuples" "_sum_tuples" (defArgs s__sum_tuples) (defBody s__sum_tuples) (defScope s__sum_tuples) .none kV8 dc8 pm8 an8 cd8 ct8), sl8⟩) (cc8 : PySem.W.codeIn K cd8 "_sum_tuples" = true) (k8 : PySem.W.keepIn K (.ref f8) = true)
    {f9 : Addr} {od9 an9 : Option Addr} {sl9 : Array (Option Value)} {oc9 kV9 dc9 pm9 cd9 ct9 : Value}
    (a9 : PySem.W.nsIn K mainGlobals "_carry_tuples" = some (some (.ref f9))) (l9 : K.lookup f9 = some ⟨oc9, od9, .func (PySem.W.fnOf "_carry_tuples" "_carry_tuples" (defArgs s__carry_tuples) (defBody s__carry_tuples) (defScope s__carry_tuples) .none kV9 dc9 pm9 an9 cd9 ct9), sl9⟩) (cc9 : PySem.W.codeIn K cd9 "_carry_tuples" = true) (k9 : PySem.W.keepIn K (.ref f9) = true)
    {f10 : Addr} {od10 an10 : Option Addr} {sl10 : Array (Option Value)} {oc10 kV10 dc10 pm10 cd10 ct10 : Value}
    (a10 : PySem.W.nsIn K mainGlobals "_last_clauses" = some (some (.ref f10))) (l10 : K.lookup f10 = some ⟨oc10, od10, .func (PySem.W.fnOf "_last_clauses" "_last_clauses" (defArgs s__last_clauses) (defBody s__last_clauses) (defScope s__last_clauses) .none kV10 dc10 pm10 an10 cd10 ct10), sl10⟩) (cc10 : PySem.W.codeIn K cd10 "_last_clauses" = true) (k10 : PySem.W.keepIn K (.ref f10) = true)
    {f11 : Addr} {od11 an11 : Option Addr} {sl11 : Array (Option Value)} {oc11 kV11 dc11 pm11 cd11 ct11 : Value}
    (a11 : PySem.W.nsIn K mainGlobals "_law_begun" = some (some (.ref f11))) (l11 : K.lookup f11 = some ⟨oc11, od11, .func (PySem.W.fnOf "_law_begun" "_law_begun" (defArgs s__law_begun) (defBody s__law_begun) (defScope s__law_begun) .none kV11 dc11 pm11 an11 cd11 ct11), sl11⟩) (cc11 : PySem.W.codeIn K cd11 "_law_begun" = true) (k11 : PySem.W.keepIn K (.ref f11) = true)
    {f12 : Addr} {od12 an12 : Option Addr} {sl12 : Array (Option Value)} {oc12 kV12 dc12 pm12 cd12 ct12 : Value}
    (a12 : PySem.W.nsIn K mainGlobals "_law_draw" = some (some (.ref f12))) (l12 : K.lookup f12 = some ⟨oc12, od12, .func (PySem.W.fnOf "_law_draw" "_law_draw" (defArgs s__law_draw) (defBody s__law_draw) (defScope s__law_draw) .none kV12 dc12 pm12 an12 cd12 ct12), sl12⟩) (cc12 : PySem.W.codeIn K cd12 "_law_draw" = true) (k12 : PySem.W.keepIn K (.ref f12) = true)
    {f13 : Addr} {od13 an13 : Option Addr} {sl13 : Array (Option Value)} {oc13 kV13 dc13 pm13 cd13 ct13 : Value}
    (a13 : PySem.W.nsIn K mainGlobals "_law_pick" = some (some (.ref f13))) (l13 : K.lookup f13 = some ⟨oc13, od13, .func (PySem.W.fnOf "_law_pick" "_law_pick" (defArgs s__law_pick) (defBody s__law_pick) (defScope s__law_pick) .none kV13 dc13 pm13 an13 cd13 ct13), sl13⟩) (cc13 : PySem.W.codeIn K cd13 "_law_pick" = true) (k13 : PySem.W.keepIn K (.ref f13) = true)
    {f14 : Addr} {od14 an14 : Option Addr} {sl14 : Array (Option Value)} {oc14 kV14 dc14 pm14 cd14 ct14 : Value}
    (a14 : PySem.W.nsIn K mainGlobals "_law_marks" = some (some (.ref f14))) (l14 : K.lookup f14 = some ⟨oc14, od14, .func (PySem.W.fnOf "_law_marks" "_law_marks" (defArgs s__law_marks) (defBody s__law_marks) (defScope s__law_marks) .none kV14 dc14 pm14 an14 cd14 ct14), sl14⟩) (cc14 : PySem.W.codeIn K cd14 "_law_marks" = true) (k14 : PySem.W.keepIn K (.ref f14) = true)
    {f15 : Addr} {od15 an15 : Option Addr} {sl15 : Array (Option Value)} {oc15 kV15 dc15 pm15 cd15 ct15 : Value}
    (a15 : PySem.W.nsIn K mainGlobals "_law_asked" = some (some (.ref f15))) (l15 : K.lookup f15 = some ⟨oc15, od15, .func (PySem.W.fnOf "_law_asked" "_law_asked" (defArgs s__law_asked) (defBody s__law_asked) (defScope s__law_asked) .none kV15 dc15 pm15 an15 cd15 ct15), sl15⟩) (cc15 : PySem.W.codeIn K cd15 "_law_asked" = true) (k15 : PySem.W.keepIn K (.ref f15) = true)
    {f16 : Addr} {od16 an16 : Option Addr} {sl16 : Array (Option Value)} {oc16 kV16 dc16 pm16 cd16 ct16 : Value}
    (a16 : PySem.W.nsIn K mainGlobals "_law_spoilt" = some (some (.ref f16))) (l16 : K.lookup f16 = some ⟨oc16, od16, .func (PySem.W.fnOf "_law_spoilt" "_law_spoilt" (defArgs s__law_spoilt) (defBody s__law_spoilt) (defScope s__law_spoilt) .none kV16 dc16 pm16 an16 cd16 ct16), sl16⟩) (cc16 : PySem.W.codeIn K cd16 "_law_spoilt" = true) (k16 : PySem.W.keepIn K (.ref f16) = true)
    {f17 : Addr} {od17 an17 : Option Addr} {sl17 : Array (Option Value)} {oc17 kV17 dc17 pm17 cd17 ct17 : Value}
    (a17 : PySem.W.nsIn K mainGlobals "law" = some (some (.ref f17))) (l17 : K.lookup f17 = some ⟨oc17, od17, .func (PySem.W.fnOf "law" "law" (defArgs s_law) (defBody s_law) (defScope s_law) .none kV17 dc17 pm17 an17 cd17 ct17), sl17⟩) (cc17 : PySem.W.codeIn K cd17 "law" = true) (k17 : PySem.W.keepIn K (.ref f17) = true)
    {C0 G0 : Addr} {nm0 q0 : Str} {N0 : Addr} {bs0 : List Value} {sn0 : List Str} {sub0 : List Value} {ab0 : Bool} {col0 : Option Bool} {dd0 : Option Addr} {ka0 kb0 kc0 kd0 ke0 : Option Value}
    {mod0 man0 : Option Addr} {msl0 : Array (Option Value)} {moc0 mkV0 mdc0 mpm0 mcd0 mct0 : Value}
    (m0 : PySem.W.nsIn K mainGlobals "NoMarks" = some (some (.ref C0))) (o0 : K.lookup C0 = some (excClassObj nm0 q0 C0 N0 bs0 bmV true sn0 sub0 ab0 col0 dd0 ka0 kb0 kc0 kd0 ke0 "ValueError.__new__"))
    (i0 : PySem.W.findIn K (.ref C0) "__init__" = some (some (.ref G0))) (t0 : PySem.W.typeIn K (.ref G0) = some (.type "function"))
    (ml0 : K.lookup G0 = some ⟨moc0, mod0, .func (PySem.W.fnOf "__init__" "NoMarks.__init__" (defArgs s_NoMarks___init__) (defBody s_NoMarks___init__) (defScope s_NoMarks___init__) .none mkV0 mdc0 mpm0 man0 mcd0 mct0), msl0⟩) (mc0 : PySem.W.codeIn K mcd0 "NoMarks.__init__" = true) (mk0 : PySem.W.keepIn K (.ref G0) = true)
    (sa0 : PySem.W.findIn K (.ref C0) "__setattr__" = some (some (.builtin "object.__setattr__")))
    (sb0 : PySem.W.subIn K (.ref C0) (.type "BaseException") = some true)
    (sc0 : PySem.W.typeIn K (.ref C0) = some (.type "type"))
    (sd0 : PySem.W.keepIn K (.ref C0) = true)
    (se0 : PySem.W.findIn K (.ref C0) "__getattribute__" = some (some (.builtin "BaseException.__getattribute__")))
    (sf0 : PySem.W.findIn K (.ref C0) "__getattr__" = some none)
    (sg0 : PySem.W.hasDictIn K C0 = true)
    (sh0 : PySem.W.findIn K (.ref C0) "__class__" = some (some (.builtin "object.__class__")))
    (si0 : PySem.W.mroIn K C0 (.type "object") = some true)
    {C1 G1 : Addr} {nm1 q1 : Str} {N1 : Addr} {bs1 : List Value} {sn1 : List Str} {sub1 : List Value} {ab1 : Bool} {col1 : Option Bool} {dd1 : Option Addr} {ka1 kb1 kc1 kd1 ke1 : Option Value}
    {mod1 man1 : Option Addr} {msl1 : Array (Option Value)} {moc1 mkV1 mdc1 mpm1 mcd1 mct1 : Value}
    (m1 : PySem.W.nsIn K mainGlobals "NoPlan" = some (some (.ref C1))) (o1 : K.lookup C1 = some (excClassObj nm1 q1 C1 N1 bs1 bmV true sn1 sub1 ab1 col1 dd1 ka1 kb1 kc1 kd1 ke1 "ValueError.__new__"))
    (i1 : PySem.W.findIn K (.ref C1) "__init__" = some (some (.ref G1))) (t1 : PySem.W.typeIn K (.ref G1) = some (.type "function"))
    (ml1 : K.lookup G1 = some ⟨moc1, mod1, .func (PySem.W.fnOf "__init__" "NoPlan.__init__" (defArgs s_NoPlan___init__) (defBody s_NoPlan___init__) (defScope s_NoPlan___init__) .none mkV1 mdc1 mpm1 man1 mcd1 mct1), msl1⟩) (mc1 : PySem.W.codeIn K mcd1 "NoPlan.__init__" = true) (mk1 : PySem.W.keepIn K (.ref G1) = true)
    (sa1 : PySem.W.findIn K (.ref C1) "__setattr__" = some (some (.builtin "object.__setattr__")))
    (sb1 : PySem.W.subIn K (.ref C1) (.type "BaseException") = some true)
    (sc1 : PySem.W.typeIn K (.ref C1) = some (.type "type"))
    (sd1 : PySem.W.keepIn K (.ref C1) = true)
    (se1 : PySem.W.findIn K (.ref C1) "__getattribute__" = some (some (.builtin "BaseException.__getattribute__")))
    (sf1 : PySem.W.findIn K (.ref C1) "__getattr__" = some none)
    (sg1 : PySem.W.hasDictIn K C1 = true)
    (sh1 : PySem.W.findIn K (.ref C1) "__class__" = some (some (.builtin "object.__class__")))
    (si1 : PySem.W.mroIn K C1 (.type "object") = some true)
    {C2 G2 : Addr} {nm2 q2 : Str} {N2 : Addr} {bs2 : List Value} {sn2 : List Str} {sub2 : List Value} {ab2 : Bool} {col2 : Option Bool} {dd2 : Option Addr} {ka2 kb2 kc2 kd2 ke2 : Option Value}
    {mod2 man2 : Option Addr} {msl2 : Array (Option Value)} {moc2 mkV2 mdc2 mpm2 mcd2 mct2 : Value}
    (m2 : PySem.W.nsIn K mainGlobals "NoText" = some (some (.ref C2))) (o2 : K.lookup C2 = some (excClassObj nm2 q2 C2 N2 bs2 bmV true sn2 sub2 ab2 col2 dd2 ka2 kb2 kc2 kd2 ke2 "ValueError.__new__"))
    (i2 : PySem.W.findIn K (.ref C2) "__init__" = some (some (.ref G2))) (t2 : PySem.W.typeIn K (.ref G2) = some (.type "function"))
    (ml2 : K.lookup G2 = some ⟨moc2, mod2, .func (PySem.W.fnOf "__init__" "NoText.__init__" (defArgs s_NoText___init__) (defBody s_NoText___init__) (defScope s_NoText___init__) .none mkV2 mdc2 mpm2 man2 mcd2 mct2), msl2⟩) (mc2 : PySem.W.codeIn K mcd2 "NoText.__init__" = true) (mk2 : PySem.W.keepIn K (.ref G2) = true)
    (sa2 : PySem.W.findIn K (.ref C2) "__setattr__" = some (some (.builtin "object.__setattr__")))
    (sb2 : PySem.W.subIn K (.ref C2) (.type "BaseException") = some true)
    (sc2 : PySem.W.typeIn K (.ref C2) = some (.type "type"))
    (sd2 : PySem.W.keepIn K (.ref C2) = true)
    (se2 : PySem.W.findIn K (.ref C2) "__getattribute__" = some (some (.builtin "BaseException.__getattribute__")))
    (sf2 : PySem.W.findIn K (.ref C2) "__getattr__" = some none)
    (sg2 : PySem.W.hasDictIn K C2 = true)
    (sh2 : PySem.W.findIn K (.ref C2) "__class__" = some (some (.builtin "object.__class__")))
    (si2 : PySem.W.mroIn K C2 (.type "object") = some true)
    {C3 G3 : Addr} {nm3 q3 : Str} {N3 : Addr} {bs3 : List Value} {sn3 : List Str} {sub3 : List Value} {ab3 : Bool} {col3 : Option Bool} {dd3 : Option Addr} {ka3 kb3 kc3 kd3 ke3 : Option Value}
    {mod3 man3 : Option Addr} {msl3 : Array (Option Value)} {moc3 mkV3 mdc3 mpm3 mcd3 mct3 : Value}
    (m3 : PySem.W.nsIn K mainGlobals "NoFresh" = some (some (.ref C3))) (o3 : K.lookup C3 = some (excClassObj nm3 q3 C3 N3 bs3 bmV true sn3 sub3 ab3 col3 dd3 ka3 kb3 kc3 kd3 ke3 "ValueError.__new__"))
    (i3 : PySem.W.findIn K (.ref C3) "__init__" = some (some (.ref G3))) (t3 : PySem.W.typeIn K (.ref G3) = some (.type "function"))
    (ml3 : K.lookup G3 = some ⟨moc3, mod3, .func (PySem.W.fnOf "__init__" "NoFresh.__init__" (defArgs s_NoFresh___init__) (defBody s_NoFresh___init__) (defScope s_NoFresh___init__) .none mkV3 mdc3 mpm3 man3 mcd3 mct3), msl3⟩) (mc3 : PySem.W.codeIn K mcd3 "NoFresh.__init__" = true) (mk3 : PySem.W.keepIn K (.ref G3) = true)
    (sa3 : PySem.W.findIn K (.ref C3) "__setattr__" = some (some (.builtin "object.__setattr__")))
    (sb3 : PySem.W.subIn K (.ref C3) (.type "BaseException") = some true)
    (sc3 : PySem.W.typeIn K (.ref C3) = some (.type "type"))
    (sd3 : PySem.W.keepIn K (.ref C3) = true)
    (se3 : PySem.W.findIn K (.ref C3) "__getattribute__" = some (some (.builtin "BaseException.__getattribute__")))
    (sf3 : PySem.W.findIn K (.ref C3) "__getattr__" = some none)
    (sg3 : PySem.W.hasDictIn K C3 = true)
    (sh3 : PySem.W.findIn K (.ref C3) "__class__" = some (some (.builtin "object.__class__")))
    (si3 : PySem.W.mroIn K C3 (.type "object") = some true)
    (fn3_0 : PySem.W.findIn K (.ref C3) "lowest" = some none)
    {C4 G4 : Addr} {nm4 q4 : Str} {N4 : Addr} {bs4 : List Value} {sn4 : List Str} {sub4 : List Value} {ab4 : Bool} {col4 : Option Bool} {dd4 : Option Addr} {ka4 kb4 kc4 kd4 ke4 : Option Value}
    {mod4 man4 : Option Addr} {msl4 : Array (Option Value)} {moc4 mkV4 mdc4 mpm4 mcd4 mct4 : Value}
    (m4 : PySem.W.nsIn K mainGlobals "NoBound" = some (some (.ref C4))) (o4 : K.lookup C4 = some (excClassObj nm4 q4 C4 N4 bs4 bmV true sn4 sub4 ab4 col4 dd4 ka4 kb4 kc4 kd4 ke4 "ValueError.__new__"))
    (i4 : PySem.W.findIn K (.ref C4) "__init__" = some (some (.ref G4))) (t4 : PySem.W.typeIn K (.ref G4) = some (.type "function"))
    (ml4 : K.lookup G4 = some ⟨moc4, mod4, .func (PySem.W.fnOf "__init__" "NoBound.__init__" (defArgs s_NoBound___init__) (defBody s_NoBound___init__) (defScope s_NoBound___init__) .none mkV4 mdc4 mpm4 man4 mcd4 mct4), msl4⟩) (mc4 : PySem.W.codeIn K mcd4 "NoBound.__init__" = true) (mk4 : PySem.W.keepIn K (.ref G4) = true)
    (sa4 : PySem.W.findIn K (.ref C4) "__setattr__" = some (some (.builtin "object.__setattr__")))
    (sb4 : PySem.W.subIn K (.ref C4) (.type "BaseException") = some true)
    (sc4 : PySem.W.typeIn K (.ref C4) = some (.type "type"))
    (sd4 : PySem.W.keepIn K (.ref C4) = true)
    (se4 : PySem.W.findIn K (.ref C4) "__getattribute__" = some (some (.builtin "BaseException.__getattribute__")))
    (sf4 : PySem.W.findIn K (.ref C4) "__getattr__" = some none)
    (sg4 : PySem.W.hasDictIn K C4 = true)
    (sh4 : PySem.W.findIn K (.ref C4) "__class__" = some (some (.builtin "object.__class__")))
    (si4 : PySem.W.mroIn K C4 (.type "object") = some true)
    (fn4_0 : PySem.W.findIn K (.ref C4) "low" = some none)
    (fn4_1 : PySem.W.findIn K (.ref C4) "high" = some none)
    {C5 G5 : Addr} {nm5 q5 : Str} {N5 : Addr} {bs5 : List Value} {sn5 : List Str} {sub5 : List Value} {ab5 : Bool} {col5 : Option Bool} {dd5 : Option Addr} {ka5 kb5 kc5 kd5 ke5 : Option Value}
    {mod5 man5 : Option Addr} {msl5 : Array (Option Value)} {moc5 mkV5 mdc5 mpm5 mcd5 mct5 : Value}
    (m5 : PySem.W.nsIn K mainGlobals "TooMany" = some (some (.ref C5))) (o5 : K.lookup C5 = some (excClassObj nm5 q5 C5 N5 bs5 bmI true sn5 sub5 ab5 col5 dd5 ka5 kb5 kc5 kd5 ke5 "IndexError.__new__"))
    (i5 : PySem.W.findIn K (.ref C5) "__init__" = some (some (.ref G5))) (t5 : PySem.W.typeIn K (.ref G5) = some (.type "function"))
    (ml5 : K.lookup G5 = some ⟨moc5, mod5, .func (PySem.W.fnOf "__init__" "TooMany.__init__" (defArgs s_TooMany___init__) (defBody s_TooMany___init__) (defScope s_TooMany___init__) .none mkV5 mdc5 mpm5 man5 mcd5 mct5), msl5⟩) (mc5 : PySem.W.codeIn K mcd5 "TooMany.__init__" = true) (mk5 : PySem.W.keepIn K (.ref G5) = true)
    (sa5 : PySem.W.findIn K (.ref C5) "__setattr__" = some (some (.builtin "object.__setattr__")))
    (sb5 : PySem.W.subIn K (.ref C5) (.type "BaseException") = some true)
    (sc5 : PySem.W.typeIn K (.ref C5) = some (.type "type"))
    (sd5 : PySem.W.keepIn K (.ref C5) = true)
    (se5 : PySem.W.findIn K (.ref C5) "__getattribute__" = some (some (.builtin "BaseException.__getattribute__")))
    (sf5 : PySem.W.findIn K (.ref C5) "__getattr__" = some none)
    (sg5 : PySem.W.hasDictIn K C5 = true)
    (sh5 : PySem.W.findIn K (.ref C5) "__class__" = some (some (.builtin "object.__class__")))
    (si5 : PySem.W.mroIn K C5 (.type "object") = some true)
    (fn5_0 : PySem.W.findIn K (.ref C5) "many" = some none)
    {C6 : Addr} (gx6 : PySem.W.nsIn K mainGlobals "Adding" = some (some (.ref C6))) (pg6 : PySem.W.plainGet K C6 Str.empty = true) (hd6 : PySem.W.hasDictIn K C6 = true) (po6 : PySem.W.plainOver K C6 = true) (sa6 : PySem.W.findIn K (.ref C6) "__setattr__" = some (some (.builtin "object.__setattr__"))) (mk6 : PySem.W.makesIn K C6 = true) (kc6 : PySem.W.keepIn K (.ref C6) = true)
    {G6_0 : Addr} {mod6_0 man6_0 : Option Addr} {msl6_0 : Array (Option Value)} {moc6_0 mkV6_0 mdc6_0 mpm6_0 mcd6_0 mct6_0 : Value}
    (mf6_0 : PySem.W.findIn K (.ref C6) "__init__" = some (some (.ref G6_0))) (mi6_0 : PySem.W.isFn K (.ref G6_0) = true) (ml6_0 : K.lookup G6_0 = some ⟨moc6_0, mod6_0, .func (PySem.W.fnOf "__init__" "Adding.__init__" (defArgs s_Adding___init__) (defBody s_Adding___init__) (defScope s_Adding___init__) .none mkV6_0 mdc6_0 mpm6_0 man6_0 mcd6_0 mct6_0), msl6_0⟩) (mc6_0 : PySem.W.codeIn K mcd6_0 "Adding.__init__" = true) (mq6_0 : PySem.W.keepIn K (.ref G6_0) = true)
    {G6_1 : Addr} {mod6_1 man6_1 : Option Addr} {msl6_1 : Array (Option Value)} {moc6_1 mkV6_1 mdc6_1 mpm6_1 mcd6_1 mct6_1 : Value}
    (mf6_1 : PySem.W.findIn K (.ref C6) "_name" = some (some (.ref G6_1))) (mi6_1 : PySem.W.isFn K (.ref G6_1) = true) (ml6_1 : K.lookup G6_1 = some ⟨moc6_1, mod6_1, .func (PySem.W.fnOf "_name" "Adding._name" (defArgs s_Adding__name) (defBody s_Adding__name) (defScope s_Adding__name) .none mkV6_1 mdc6_1 mpm6_1 man6_1 mcd6_1 mct6_1), msl6_1⟩) (mc6_1 : PySem.W.codeIn K mcd6_1 "Adding._name" = true) (mq6_1 : PySem.W.keepIn K (.ref G6_1) = true)
    (na6_0 : PySem.W.findIn K (.ref C6) "_first" = some none)
    (na6_1 : PySem.W.findIn K (.ref C6) "named" = some none)
    (na6_2 : PySem.W.findIn K (.ref C6) "said" = some none)
    (na6_3 : PySem.W.findIn K (.ref C6) "bits" = some none)
    {C7 : Addr} (gx7 : PySem.W.nsIn K mainGlobals "Added" = some (some (.ref C7))) (pg7 : PySem.W.plainGet K C7 Str.empty = true) (hd7 : PySem.W.hasDictIn K C7 = true) (po7 : PySem.W.plainOver K C7 = true) (sa7 : PySem.W.findIn K (.ref C7) "__setattr__" = some (some (.builtin "object.__setattr__"))) (mk7 : PySem.W.makesIn K C7 = true) (kc7 : PySem.W.keepIn K (.ref C7) = true)
    {G7_0 : Addr} {mod7_0 man7_0 : Option Addr} {msl7_0 : Array (Option Value)} {moc7_0  mdc7_0 mpm7_0 mcd7_0 mct7_0 : Value} {kwD7_0 : Addr}
    (mf7_0 : PySem.W.findIn K (.ref C7) "__init__" = some (some (.ref G7_0))) (mi7_0 : PySem.W.isFn K (.ref G7_0) = true) (ml7_0 : K.lookup G7_0 = some ⟨moc7_0, mod7_0, .func (PySem.W.fnOf "__init__" "Added.__init__" (defArgs s_Added___init__) (defBody s_Added___init__) (defScope s_Added___init__) .none (.ref kwD7_0) mdc7_0 mpm7_0 man7_0 mcd7_0 mct7_0), msl7_0⟩) (mc7_0 : PySem.W.codeIn K mcd7_0 "Added.__init__" = true) (mq7_0 : PySem.W.keepIn K (.ref G7_0) = true)
    (kd7_0 : PySem.W.nsIn K kwD7_0 "fresh" = some (some .none))
    (na7_0 : PySem.W.findIn K (.ref C7) "_marks" = some none)
    (na7_1 : PySem.W.findIn K (.ref C7) "_most" = some none)
    (na7_2 : PySem.W.findIn K (.ref C7) "_first" = some none)
    (na7_3 : PySem.W.findIn K (.ref C7) "_names" = some none)
    (na7_4 : PySem.W.findIn K (.ref C7) "_clauses" = some none)
    (nd : [C0, C1, C2, C3, C4, C5, C6, C7].Nodup)
    (ea : PySem.W.specialIn K (.builtin "object.__class__") "__get__" = some (some (.builtin "getset_descriptor.__get__"))) (eb : PySem.W.takesIn K (.builtin "object.__class__") = some true)
    (u0 : PySem.W.findCls K (.type "ValueError") (.type "type") "__init__" = some (.val (.builtin "ValueError.__init__")))
    (u1 : PySem.W.findCls K (.type "IndexError") (.type "type") "__init__" = some (.val (.builtin "IndexError.__init__")))
    (u2 : PySem.W.findCls K (.type "KeyError") (.type "type") "__init__" = some (.val (.builtin "KeyError.__init__")))
    (u3 : PySem.W.findCls K (.type "LookupError") (.type "type") "__init__" = some (.val (.builtin "LookupError.__init__")))
    {tk0 : Tok} (v0 : PySem.W.nsIn K mainGlobals "GREATEST_NAME" = some (some (.int 1000000000000 tk0)))
    {tk1 : Tok} (v1 : PySem.W.nsIn K mainGlobals "MOST_HANDED" = some (some (.int 60 tk1)))
    {tk2 : Tok} (v2 : PySem.W.nsIn K mainGlobals "GREATEST_HANDED" = some (some (.int 1000000000 tk2)))
    (z0 : PySem.W.nsIn K mainGlobals "isinstance" = some none)
    (z1 : PySem.W.nsIn K mainGlobals "bool" = some none)
    (z2 : PySem.W.nsIn K mainGlobals "int" = some none)
    (z3 : PySem.W.nsIn K mainGlobals "abs" = some none)
    (z4 : PySem.W.nsIn K mainGlobals "tuple" = some none)
    (z5 : PySem.W.nsIn K mainGlobals "len" = some none)
    (z6 : PySem.W.nsIn K mainGlobals "all" = some none)
    (z7 : PySem.W.nsIn K mainGlobals "max" = some none)
    (z8 : PySem.W.nsIn K mainGlobals "str" = some none)
    (z9 : PySem.W.nsIn K mainGlobals "enumerate" = some none)
    (z10 : PySem.W.nsIn K mainGlobals "range" = some none)
    (z11 : PySem.W.nsIn K mainGlobals "list" = some none)
    (z12 : PySem.W.nsIn K mainGlobals "ValueError" = some none)
    (z13 : PySem.W.nsIn K mainGlobals "IndexError" = some none)
    : ∃ fd : FuncData, (∀ (s : Shared) (v : Value), BindsTo s fd ⟨[v], []⟩ [("_law_script", v)]) ∧ ∀ base : Heap, K.In base → base.Ns mainGlobals mg → RunAt l.prog w K mg base fa fd ["_law_script"] (spLaw K) := by
  have e := hfa.symm.trans (PySem.W.mg_of X G a17)
  cases e
  have T : Top K mg (fun i => [C0, C1, C2, C3, C4, C5, C6, C7].getD i 0) := ⟨⟨⟨_, _, PySem.W.mg_of X G a0, fun_mk (st := s__wall) l0 cc0 k0⟩⟩, ⟨⟨_, _, PySem.W.mg_of X G a1, fun_mk (st := s_is_whole) l1 cc1 k1⟩⟩, ⟨⟨_, _, PySem.W.mg_of X G a2, fun_mk (st := s_is_mark) l2 cc2 k2⟩⟩, ⟨⟨_, _, PySem.W.mg_of X G a3, fun_mk (st := s_others) l3 cc3 k3⟩⟩, ⟨⟨_, _, PySem.W.mg_of X G a4, fun_mk (st := s_are_marks) l4 cc4 k4⟩⟩, ⟨⟨_, _, PySem.W.mg_of X G a5, fun_mk (st := s_greatest_name) l5 cc5 k5⟩⟩, ⟨⟨_, _, PySem.W.mg_of X G a6, fun_mk (st := s_first_new) l6 cc6 k6⟩⟩, ⟨⟨_, _, PySem.W.mg_of X G a7, fun_mk (st := s_show_marks) l7 cc7 k7⟩⟩, ⟨⟨_, _, PySem.W.mg_of X G a8, fun_mk (st := s__sum_tuples) l8 cc8 k8⟩⟩, ⟨⟨_, _, PySem.W.mg_of X G a9, fun_mk (st := s__carry_tuples) l9 cc9 k9⟩⟩, ⟨⟨_, _, PySem.W.mg_of X G a10, fun_mk (st := s__last_clauses) l10 cc10 k10⟩⟩, ⟨⟨_, _, PySem.W.mg_of X G a11, fun_mk (st := s__law_begun) l11 cc11 k11⟩⟩, ⟨⟨_, _, PySem.W.mg_of X G a12, fun_mk (st := s__law_draw) l12 cc12 k12⟩⟩, ⟨⟨_, _, PySem.W.mg_of X G a13, fun_mk (st := s__law_pick) l13 cc13 k13⟩⟩, ⟨⟨_, _, PySem.W.mg_of X G a14, fun_mk (st := s__law_marks) l14 cc14 k14⟩⟩, ⟨⟨_, _, PySem.W.mg_of X G a15, fun_mk (st := s__law_asked) l15 cc15 k15⟩⟩, ⟨⟨_, _, PySem.W.mg_of X G a16, fun_mk (st := s__law_spoilt) l16 cc16 k16⟩⟩, ⟨⟨_, _, PySem.W.mg_of X G a17, fun_mk (st := s_law) l17 cc17 k17⟩⟩, cls_mk base_V (PySem.W.mg_of X G m0) o0 i0 t0 (fun_mk (st := s_NoMarks___init__) ml0 mc0 mk0) sa0 sb0 sc0 sd0 se0 sf0 sg0 sh0 si0 ea eb (no0), cls_mk base_V (PySem.W.mg_of X G m1) o1 i1 t1 (fun_mk (st := s_NoPlan___init__) ml1 mc1 mk1) sa1 sb1 sc1 sd1 se1 sf1 sg1 sh1 si1 ea eb (no0), cls_mk base_V (PySem.W.mg_of X G m2) o2 i2 t2 (fun_mk (st := s_NoText___init__) ml2 mc2 mk2) sa2 sb2 sc2 sd2 se2 sf2 sg2 sh2 si2 ea eb (no0), cls_mk base_V (PySem.W.mg_of X G m3) o3 i3 t3 (fun_mk (st := s_NoFresh___init__) ml3 mc3 mk3) sa3 sb3 sc3 sd3 se3 sf3 sg3 sh3 si3 ea eb (no1 fn3_0), cls_mk base_V (PySem.W.mg_of X G m4) o4 i4 t4 (fun_mk (st := s_NoBound___init__) ml4 mc4 mk4) sa4 sb4 sc4 sd4 se4 sf4 sg4 sh4 si4 ea eb (no2 fn4_0 fn4_1), cls_mk base_I (PySem.W.mg_of X G m5) o5 i5 t5 (fun_mk (st := s_TooMany___init__) ml5 mc5 mk5) sa5 sb5 sc5 sd5 se5 sf5 sg5 sh5 si5 ea eb (no1 fn5_0), getD_inj nd, PySem.W.mg_of X G gx6, ⟨pg6, hd6, po6, sa6⟩, ⟨⟨_, _, ⟨mk6, mf6_0, mi6_0, kc6⟩, fun_mk (st := s_Adding___init__) ml6_0 mc6_0 mq6_0⟩⟩, ⟨⟨_, _, ⟨mf6_1, mi6_1, mq6_1⟩, fun_mk (st := s_Adding__name) ml6_1 mc6_1 mq6_1⟩⟩, na6_0, na6_1, na6_2, na6_3, PySem.W.mg_of X G gx7, ⟨pg7, hd7, po7, sa7⟩, ⟨⟨_, _, ⟨mk7, mf7_0, mi7_0, kc7⟩, funD_mk (st := s_Added___init__) ml7_0 mc7_0 mq7_0 kd7_0⟩⟩, na7_0, na7_1, na7_2, na7_3, na7_4, u0, u1, u2, u3, ⟨_, PySem.W.mg_of X G v0⟩, ⟨_, PySem.W.mg_of X G v1⟩, ⟨_, PySem.W.mg_of X G v2⟩, PySem.W.mg_none_of X G z0, PySem.W.mg_none_of X G z1, PySem.W.mg_none_of X G z2, PySem.W.mg_none_of X G z3, PySem.W.mg_none_of X G z4, PySem.W.mg_none_of X G z5, PySem.W.mg_none_of X G z6, PySem.W.mg_none_of X G z7, PySem.W.mg_none_of X G z8, PySem.W.mg_none_of X G z9, PySem.W.mg_none_of X G z10, PySem.W.mg_none_of X G z11, PySem.W.mg_none_of X G z12, PySem.W.mg_none_of X G z13⟩
  exact ⟨_, fun s v => .of_eq rfl, fun base _ _ => at_law (fun_mk (st := s_law) l17 cc17 k17) T⟩
end Mc
open PySem PySem.W PyProof.Rows
set_option maxRecDepth 100000 in
set_option maxHeartbeats 0 in
theorem PySem.Challenge.cw_mostclauses_k88_what_added_refuses_holds : PySem.Challenge.rw_mostclauses_k88_what_added_refuses.Holds := by
  w_on; o_law; k_head; (case hw => w_witness2)
  k_fill
  refine Mc.walk_at (l := PySem.Challenge.rw_mostclauses_k88_what_added_refuses) (n := 63) (x := "_law_script") (sp := fun w => Mc.spLaw _) rfl (by decide) rfl (fun w h Y => PySem.W.kIn_of Y) ?F (fun _ _ a ns hl _ hS => ⟨a, ns, rfl, hS, hl, fun _ => rfl⟩)
  case F =>
    intro w mg fa h KX G hmg
    refine' Mc.all_mk KX G hmg ?a0 ?l0 ?cc0 ?k0 ?a1 ?l1 ?cc1 ?k1 ?a2 ?l2 ?cc2 ?k2 ?a3 ?l3 ?cc3 ?k3 ?a4 ?l4 ?cc4 ?k4 ?a5 ?l5 ?cc5 ?k5 ?a6 ?l6 ?cc6 ?k6 ?a7 ?l7 ?cc7 ?k7 ?a8 ?l8 ?cc8 ?k8 ?a9 ?l9 ?cc9 ?k9 ?a10 ?l10 ?cc10 ?k10 ?a11 ?l11 ?cc11 ?k11 ?a12 ?l12 ?cc12 ?k12 ?a13 ?l13 ?cc13 ?k13 ?a14 ?l14 ?cc14 ?k14 ?a15 ?l15 ?cc15 ?k15 ?a16 ?l16 ?cc16 ?k16 ?a17 ?l17 ?cc17 ?k17 ?m0 ?o0 ?i0 ?t0 ?ml0 ?mc0 ?mk0 ?sa0 ?sb0 ?sc0 ?sd0 ?se0 ?sf0 ?sg0 ?sh0 ?si0 ?m1 ?o1 ?i1 ?t1 ?ml1 ?mc1 ?mk1 ?sa1 ?sb1 ?sc1 ?sd1 ?se1 ?sf1 ?sg1 ?sh1 ?si1 ?m2 ?o2 ?i2 ?t2 ?ml2 ?mc2 ?mk2 ?sa2 ?sb2 ?sc2 ?sd2 ?se2 ?sf2 ?sg2 ?sh2 ?si2 ?m3 ?o3 ?i3 ?t3 ?ml3 ?mc3 ?mk3 ?sa3 ?sb3 ?sc3 ?sd3 ?se3 ?sf3 ?sg3 ?sh3 ?si3 ?fn3_0 ?m4 ?o4 ?i4 ?t4 ?ml4 ?mc4 ?mk4 ?sa4 ?sb4 ?sc4 ?sd4 ?se4 ?sf4 ?sg4 ?sh4 ?si4 ?fn4_0 ?fn4_1 ?m5 ?o5 ?i5 ?t5 ?ml5 ?mc5 ?mk5 ?sa5 ?sb5 ?sc5 ?sd5 ?se5 ?sf5 ?sg5 ?sh5 ?si5 ?fn5_0 ?gx6 ?pg6 ?hd6 ?po6 ?sa6 ?mk6 ?kc6 ?mf6_0 ?mi6_0 ?ml6_0 ?mc6_0 ?mq6_0 ?mf6_1 ?mi6_1 ?ml6_1 ?mc6_1 ?mq6_1 ?na6_0 ?na6_1 ?na6_2 ?na6_3 ?gx7 ?pg7 ?hd7 ?po7 ?sa7 ?mk7 ?kc7 ?mf7_0 ?mi7_0 ?ml7_0 ?mc7_0 ?mq7_0 ?kd7_0 ?na7_0 ?na7_1 ?na7_2 ?na7_3 ?na7_4 ?nd ?ea ?eb ?u0 ?u1 ?u2 ?u3 ?v0 ?v1 ?v2 ?z0 ?z1 ?z2 ?z3 ?z4 ?z5 ?z6 ?z7 ?z8 ?z9 ?z10 ?z11 ?z12 ?z13
    (case a0 => k_is)
    (case l0 => k_is)
    (case cc0 => k_is)
    (case k0 => k_is)
    (case a1 => k_is)
    (case l1 => k_is)
    (case cc1 => k_is)
    (case k1 => k_is)
    (case a2 => k_is)
    (case l2 => k_is)
    (case cc2 => k_is)
    (case k2 => k_is)
    (case a3 => k_is)
    (case l3 => k_is)
    (case cc3 => k_is)
    (case k3 => k_is)
    (case a4 => k_is)
    (case l4 => k_is)
    (case cc4 => k_is)
    (case k4 => k_is)
    (case a5 => k_is)
    (case l5 => k_is)
    (case cc5 => k_is)
    (case k5 => k_is)
    (case a6 => k_is)
    (case l6 => k_is)
    (case cc6 => k_is)
    (case k6 => k_is)
    (case a7 => k_is)
    (case l7 => k_is)
    (case cc7 => k_is)
    (case k7 => k_is)
    (case a8 => k_is)
    (case l8 => k_is)
    (case cc8 => k_is)
    (case k8 => k_is)
    (case a9 => k_is)
    (case l9 => k_is)
    (case cc9 => k_is)
    (case k9 => k_is)
    (case a10 => k_is)
    (case l10 => k_is)
    (case cc10 => k_is)
    (case k10 => k_is)
    (case a11 => k_is)
    (case l11 => k_is)
    (case cc11 => k_is)
    (case k11 => k_is)
    (case a12 => k_is)
    (case l12 => k_is)
    (case cc12 => k_is)
    (case k12 => k_is)
    (case a13 => k_is)
    (case l13 => k_is)
    (case cc13 => k_is)
    (case k13 => k_is)
    (case a14 => k_is)
    (case l14 => k_is)
    (case cc14 => k_is)
    (case k14 => k_is)
    (case a15 => k_is)
    (case l15 => k_is)
    (case cc15 => k_is)
    (case k15 => k_is)
    (case a16 => k_is)
    (case l16 => k_is)
    (case cc16 => k_is)
    (case k16 => k_is)
    (case a17 => k_is)
    (case l17 => k_is)
    (case cc17 => k_is)
    (case k17 => k_is)
    (case m0 => k_is)
    (case o0 => k_is)
    (case i0 => k_is)
    (case t0 => k_is)
    (case ml0 => k_is)
    (case mc0 => k_is)
    (case mk0 => k_is)
    (case sa0 => k_is)
    (case sb0 => k_is)
    (case sc0 => k_is)
    (case sd0 => k_is)
    (case se0 => k_is)
    (case sf0 => k_is)
    (case sg0 => k_is)
    (case sh0 => k_is)
    (case si0 => k_is)
    (case m1 => k_is)
    (case o1 => k_is)
    (case i1 => k_is)
    (case t1 => k_is)
    (case ml1 => k_is)
    (case mc1 => k_is)
    (case mk1 => k_is)
    (case sa1 => k_is)
    (case sb1 => k_is)
    (case sc1 => k_is)
    (case sd1 => k_is)
    (case se1 => k_is)
    (case sf1 => k_is)
    (case sg1 => k_is)
    (case sh1 => k_is)
    (case si1 => k_is)
    (case m2 => k_is)
    (case o2 => k_is)
    (case i2 => k_is)
    (case t2 => k_is)
    (case ml2 => k_is)
    (case mc2 => k_is)
    (case mk2 => k_is)
    (case sa2 => k_is)
    (case sb2 => k_is)
    (case sc2 => k_is)
    (case sd2 => k_is)
    (case se2 => k_is)
    (case sf2 => k_is)
    (case sg2 => k_is)
    (case sh2 => k_is)
    (case si2 => k_is)
    (case m3 => k_is)
    (case o3 => k_is)
    (case i3 => k_is)
    (case t3 => k_is)
    (case ml3 => k_is)
    (case mc3 => k_is)
    (case mk3 => k_is)
    (case sa3 => k_is)
    (case sb3 => k_is)
    (case sc3 => k_is)
    (case sd3 => k_is)
    (case se3 => k_is)
    (case sf3 => k_is)
    (case sg3 => k_is)
    (case sh3 => k_is)
    (case si3 => k_is)
    (case fn3_0 => k_is)
    (case m4 => k_is)
    (case o4 => k_is)
    (case i4 => k_is)
    (case t4 => k_is)
    (case ml4 => k_is)
    (case mc4 => k_is)
    (case mk4 => k_is)
    (case sa4 => k_is)
    (case sb4 => k_is)
    (case sc4 => k_is)
    (case sd4 => k_is)
    (case se4 => k_is)
    (case sf4 => k_is)
    (case sg4 => k_is)
    (case sh4 => k_is)
    (case si4 => k_is)
    (case fn4_0 => k_is)
    (case fn4_1 => k_is)
    (case m5 => k_is)
    (case o5 => k_is)
    (case i5 => k_is)
    (case t5 => k_is)
    (case ml5 => k_is)
    (case mc5 => k_is)
    (case mk5 => k_is)
    (case sa5 => k_is)
    (case sb5 => k_is)
    (case sc5 => k_is)
    (case sd5 => k_is)
    (case se5 => k_is)
    (case sf5 => k_is)
    (case sg5 => k_is)
    (case sh5 => k_is)
    (case si5 => k_is)
    (case fn5_0 => k_is)
    (case gx6 => k_is)
    (case pg6 => k_is)
    (case hd6 => k_is)
    (case po6 => k_is)
    (case sa6 => k_is)
    (case mk6 => k_is)
    (case kc6 => k_is)
    (case mf6_0 => k_is)
    (case mi6_0 => k_is)
    (case ml6_0 => k_is)
    (case mc6_0 => k_is)
    (case mq6_0 => k_is)
    (case mf6_1 => k_is)
    (case mi6_1 => k_is)
    (case ml6_1 => k_is)
    (case mc6_1 => k_is)
    (case mq6_1 => k_is)
    (case na6_0 => k_is)
    (case na6_1 => k_is)
    (case na6_2 => k_is)
    (case na6_3 => k_is)
    (case gx7 => k_is)
    (case pg7 => k_is)
    (case hd7 => k_is)
    (case po7 => k_is)
    (case sa7 => k_is)
    (case mk7 => k_is)
    (case kc7 => k_is)
    (case mf7_0 => k_is)
    (case mi7_0 => k_is)
    (case ml7_0 => k_is)
    (case mc7_0 => k_is)
    (case mq7_0 => k_is)
    (case kd7_0 => k_is)
    (case na7_0 => k_is)
    (case na7_1 => k_is)
    (case na7_2 => k_is)
    (case na7_3 => k_is)
    (case na7_4 => k_is)
    (case nd => decide)
    (case ea => k_is)
    (case eb => k_is)
    (case u0 => k_is)
    (case u1 => k_is)
    (case u2 => k_is)
    (case u3 => k_is)
    (case v0 => k_is)
    (case v1 => k_is)
    (case v2 => k_is)
    (case z0 => k_is)
    (case z1 => k_is)
    (case z2 => k_is)
    (case z3 => k_is)
    (case z4 => k_is)
    (case z5 => k_is)
    (case z6 => k_is)
    (case z7 => k_is)
    (case z8 => k_is)
    (case z9 => k_is)
    (case z10 => k_is)
    (case z11 => k_is)
    (case z12 => k_is)
    (case z13 => k_is)
