import PyProof.Rows.All
import Wide.All
import OpenK.AllK
import Wide.FinOn
import HandS.ForMost
import HandS.Flow
import HandS.Wide
import HandS.Small
import HandS.Style
import HandS.IsInst
import HandS.RaiseMore
import HandS.Codes
import HandS.DictComp
import HandS.Conv
import HandS.SetKeys
import KE.SortKeyHeap
import HandS.SortInts
import HandS.Walk
import HandS.Style
import HandS.IsInst
import PySem.Challenge.RW_mostclauses_k85_handed_in_and_told
set_option Elab.async false
set_option linter.all false
set_option maxRecDepth 100000
set_option maxHeartbeats 4000000
namespace Mc
open PySem PySem.Spec PyProof.Rows L2
/-! ### the text by places -/
def top (i : Nat) : Stmt := PySem.Challenge.pw_mostclauses_k85_handed_in_and_told.main.body.getD i (.Pass ⟨0, 0, 0, 0⟩)

abbrev s__law_begun : Stmt := top 8
abbrev nm__law_begun : List Str := ["_law_script"]
theorem sc__law_begun : FnScope nm__law_begun ["_law_script"] (defScope s__law_begun) := ⟨rfl, rfl, rfl, by decide +kernel, rfl, by decide +kernel, by decide +kernel⟩
abbrev s__law_draw : Stmt := top 9
abbrev nm__law_draw : List Str := ["_law_tape", "_law_many", "_law_spot", "_law_most", "_law_cell", "_law_found"]
theorem sc__law_draw : FnScope nm__law_draw ["_law_tape", "_law_many"] (defScope s__law_draw) := ⟨rfl, rfl, rfl, by decide +kernel, rfl, by decide +kernel, by decide +kernel⟩
abbrev s__law_pick : Stmt := top 10
abbrev nm__law_pick : List Str := ["_law_tape", "_law_some"]
theorem sc__law_pick : FnScope nm__law_pick ["_law_tape", "_law_some"] (defScope s__law_pick) := ⟨rfl, rfl, rfl, by decide +kernel, rfl, by decide +kernel, by decide +kernel⟩
abbrev s__law_far_marks : Stmt := top 11
abbrev nm__law_far_marks : List Str := ["_law_tape", "_law_many", "_law_by", "_law_leap", "_law_first", "_law_names", "_law_signs", "_law_name", "_law_k"]
theorem sc__law_far_marks : FnScope nm__law_far_marks ["_law_tape", "_law_many"] (defScope s__law_far_marks) := ⟨rfl, rfl, rfl, by decide +kernel, rfl, by decide +kernel, by decide +kernel⟩
abbrev s__law_system : Stmt := top 12
abbrev nm__law_system : List Str := ["_law_tape", "_law_marks", "_law_many", "_law_is_kept", "_law_found", "_law_k", "_law_some", "_law_clause", "_law_wide", "_law_mark"]
theorem sc__law_system : FnScope nm__law_system ["_law_tape", "_law_marks", "_law_many"] (defScope s__law_system) := ⟨rfl, rfl, rfl, by decide +kernel, rfl, by decide +kernel, by decide +kernel⟩
abbrev s__law_puts : Stmt := top 13
abbrev nm__law_puts : List Str := ["_law_tape", "_law_marks", "_law_some", "_law_found", "_law_k", "_law_mark"]
theorem sc__law_puts : FnScope nm__law_puts ["_law_tape", "_law_marks"] (defScope s__law_puts) := ⟨rfl, rfl, rfl, by decide +kernel, rfl, by decide +kernel, by decide +kernel⟩
abbrev s__law_spoil : Stmt := top 14
abbrev nm__law_spoil : List Str := ["_law_follower", "_law_some", "_law_told", "_law_mark"]
theorem sc__law_spoil : FnScope nm__law_spoil ["_law_follower"] (defScope s__law_spoil) := ⟨rfl, rfl, rfl, by decide +kernel, rfl, by decide +kernel, by decide +kernel⟩
abbrev s_law : Stmt := top 15
abbrev nm_law : List Str := ["_law_script", "_law_tape", "_law_turn", "_law_marks", "_law_clauses", "_law_spare", "_law_handed", "_law_one", "_law_twin", "_law_mark", "_law_way", "_law_found", "_law_due", "_law_name"]
theorem sc_law : FnScope nm_law ["_law_script"] (defScope s_law) := ⟨rfl, rfl, rfl, by decide +kernel, rfl, by decide +kernel, by decide +kernel⟩
/-- an inner statement of a class -/
def inner (s : Stmt) (j : Nat) : Stmt := match s with
  | .ClassDef _ _ _ b _ _ _ _ _ _ _ => b.getD j (.Pass ⟨0, 0, 0, 0⟩)
  | z => z
abbrev s_Follower___init__ : Stmt := inner (top 6) 0
abbrev nm_Follower___init__ : List Str := ["self", "clauses", "clause"]
theorem sc_Follower___init__ : FnScope nm_Follower___init__ ["self", "clauses"] (defScope s_Follower___init__) := ⟨rfl, rfl, rfl, by decide +kernel, rfl, by decide +kernel, by decide +kernel⟩
abbrev s_Follower_put : Stmt := inner (top 6) 1
abbrev nm_Follower_put : List Str := ["self", "mark", "ahead"]
theorem sc_Follower_put : FnScope nm_Follower_put ["self", "mark"] (defScope s_Follower_put) := ⟨rfl, rfl, rfl, by decide +kernel, rfl, by decide +kernel, by decide +kernel⟩
abbrev s_Follower_add : Stmt := inner (top 6) 2
abbrev nm_Follower_add : List Str := ["self", "clause", "ahead"]
theorem sc_Follower_add : FnScope nm_Follower_add ["self", "clause"] (defScope s_Follower_add) := ⟨rfl, rfl, rfl, by decide +kernel, rfl, by decide +kernel, by decide +kernel⟩
abbrev s_Follower_back : Stmt := inner (top 6) 3
abbrev nm_Follower_back : List Str := ["self", "mark", "many_on", "many_clauses"]
theorem sc_Follower_back : FnScope nm_Follower_back ["self"] (defScope s_Follower_back) := ⟨rfl, rfl, rfl, by decide +kernel, rfl, by decide +kernel, by decide +kernel⟩
abbrev s_Follower_on : Stmt := inner (top 6) 4
abbrev nm_Follower_on : List Str := ["self"]
theorem sc_Follower_on : FnScope nm_Follower_on ["self"] (defScope s_Follower_on) := ⟨rfl, rfl, rfl, by decide +kernel, rfl, by decide +kernel, by decide +kernel⟩
abbrev s_Follower_shown : Stmt := inner (top 6) 5
abbrev nm_Follower_shown : List Str := ["self", "mark", "offs", "off"]
theorem sc_Follower_shown : FnScope nm_Follower_shown ["self", "mark"] (defScope s_Follower_shown) := ⟨rfl, rfl, rfl, by decide +kernel, rfl, by decide +kernel, by decide +kernel⟩
abbrev s_Follower_puts : Stmt := inner (top 6) 6
abbrev nm_Follower_puts : List Str := ["self"]
theorem sc_Follower_puts : FnScope nm_Follower_puts ["self"] (defScope s_Follower_puts) := ⟨rfl, rfl, rfl, by decide +kernel, rfl, by decide +kernel, by decide +kernel⟩
abbrev s_Follower_is_broken : Stmt := inner (top 6) 7
abbrev nm_Follower_is_broken : List Str := ["self"]
theorem sc_Follower_is_broken : FnScope nm_Follower_is_broken ["self"] (defScope s_Follower_is_broken) := ⟨rfl, rfl, rfl, by decide +kernel, rfl, by decide +kernel, by decide +kernel⟩
abbrev s_Follower_clauses : Stmt := inner (top 6) 8
abbrev nm_Follower_clauses : List Str := ["self"]
theorem sc_Follower_clauses : FnScope nm_Follower_clauses ["self"] (defScope s_Follower_clauses) := ⟨rfl, rfl, rfl, by decide +kernel, rfl, by decide +kernel, by decide +kernel⟩
abbrev s_Follower__refuse_broken : Stmt := inner (top 6) 9
abbrev nm_Follower__refuse_broken : List Str := ["self"]
theorem sc_Follower__refuse_broken : FnScope nm_Follower__refuse_broken ["self"] (defScope s_Follower__refuse_broken) := ⟨rfl, rfl, rfl, by decide +kernel, rfl, by decide +kernel, by decide +kernel⟩
abbrev s_Follower__row_of : Stmt := inner (top 6) 10
abbrev nm_Follower__row_of : List Str := ["self", "mark"]
theorem sc_Follower__row_of : FnScope nm_Follower__row_of ["self", "mark"] (defScope s_Follower__row_of) := ⟨rfl, rfl, rfl, by decide +kernel, rfl, by decide +kernel, by decide +kernel⟩
abbrev s_Follower__take_in : Stmt := inner (top 6) 11
abbrev nm_Follower__take_in : List Str := ["self", "clause", "number", "mark"]
theorem sc_Follower__take_in : FnScope nm_Follower__take_in ["self", "clause"] (defScope s_Follower__take_in) := ⟨rfl, rfl, rfl, by decide +kernel, rfl, by decide +kernel, by decide +kernel⟩
abbrev s_Follower__bring : Stmt := inner (top 6) 12
abbrev nm_Follower__bring : List Str := ["self", "mark", "row", "ready", "number"]
theorem sc_Follower__bring : FnScope nm_Follower__bring ["self", "mark", "row"] (defScope s_Follower__bring) := ⟨rfl, rfl, rfl, by decide +kernel, rfl, by decide +kernel, by decide +kernel⟩
abbrev s_Follower__take_off_last : Stmt := inner (top 6) 13
abbrev nm_Follower__take_off_last : List Str := ["self", "mark", "number"]
theorem sc_Follower__take_off_last : FnScope nm_Follower__take_off_last ["self"] (defScope s_Follower__take_off_last) := ⟨rfl, rfl, rfl, by decide +kernel, rfl, by decide +kernel, by decide +kernel⟩
abbrev s_Follower__is_ready : Stmt := inner (top 6) 14
abbrev nm_Follower__is_ready : List Str := ["self", "number"]
theorem sc_Follower__is_ready : FnScope nm_Follower__is_ready ["self", "number"] (defScope s_Follower__is_ready) := ⟨rfl, rfl, rfl, by decide +kernel, rfl, by decide +kernel, by decide +kernel⟩
abbrev s_Follower__settle : Stmt := inner (top 6) 15
abbrev nm_Follower__settle : List Str := ["self", "numbers", "waiting", "at", "number", "left", "mark"]
theorem sc_Follower__settle : FnScope nm_Follower__settle ["self", "numbers"] (defScope s_Follower__settle) := ⟨rfl, rfl, rfl, by decide +kernel, rfl, by decide +kernel, by decide +kernel⟩
abbrev s_Follower__news : Stmt := inner (top 6) 16
abbrev nm_Follower__news : List Str := ["self", "ahead"]
theorem sc_Follower__news : FnScope nm_Follower__news ["self", "ahead"] (defScope s_Follower__news) := ⟨rfl, rfl, rfl, by decide +kernel, rfl, by decide +kernel, by decide +kernel⟩
abbrev s_Follower__rows_to : Stmt := inner (top 6) 17
abbrev nm_Follower__rows_to : List Str := ["self", "marks", "needed", "waiting", "mark", "row", "place", "off"]
theorem sc_Follower__rows_to : FnScope nm_Follower__rows_to ["self", "marks"] (defScope s_Follower__rows_to) := ⟨rfl, rfl, rfl, by decide +kernel, rfl, by decide +kernel, by decide +kernel⟩
/-! ### a def that stands in the top and keeps a promise -/
structure At (K : PySem.W.Frag) (mg : Str → Option Value) (x : Str) (st : Stmt) : Prop where
  ex : ∃ f fd, mg x = some (.ref f) ∧ Fun K x x st f fd
structure Has (P : Program) (w : World) (K : PySem.W.Frag) (mg : Str → Option Value) (base : Heap) (k : Nat) (x : Str) (ps : List Str) (sp : Sp) : Prop where
  ex : ∃ f fd, mg x = some (.ref f) ∧ PySem.W.keepIn K (.ref f) = true ∧ Binds K fd ps [] ∧ FnOk P w K mg base CX0 k f fd ps sp
theorem pe_has {X : Cx} {k : Nat} {x : Str} {ps : List Str} {sp : Sp} {e : Expr} {es : List Expr} {t : TA} {p pos : Pos} (h : Has X.prog X.w X.K X.mg X.base k x ps sp) (hr : Room k X.A) (hg : Gl X x) (ha : PA X (e :: es) t)
    (hdb : (x == ("__debug__" : Str)) = false := by decide) (he : starEach (e :: es) X.env = (false, eval e X.env) :: starEach es X.env := by rfl) (hpl : (backTo pos (starEach es X.env)).any (·.1) = false := by rfl) :
    PE X (.Call (.Name x p) (e :: es) [] pos) (tCall sp [] E0 t) := by
  obtain ⟨f, fd, hm, hk, hb, F⟩ := h.ex
  exact pe_call F hr hg hm hk hb .nil pass0 ha hdb he hpl
abbrev BindsAll (x : Str) (st : Stmt) (ps : List Str) : Prop :=
  ∀ (kV doc pm : Value) (an : Option Addr) (cdv ct : Value) (us : List Value), us.length = ps.length → bindArgs (PySem.W.fnOf x x (defArgs st) (defBody st) (defScope st) .none kV doc pm an cdv ct) ⟨us, []⟩ = pure (ps.zip us)
section
variable {P : Program} {w : World} {K : PySem.W.Frag} {mg : Str → Option Value} {base : Heap}
theorem has_of {x : Str} {st : Stmt} {N ps : List Str} {k : Nat} {sp : Sp} (A : At K mg x st) (S : FnScope N ps (defScope st)) (B : BindsAll x st ps) (len : ∀ vs H Q E, sp vs H Q E → vs.length = ps.length)
    (hbody : ∀ (f : Addr) (cdv : Value) (A : Around) (outer : List Env) (s : Shared) (H : Hp) (vs : List V) (Q : VK) (E : XK), Room k (A.deeper (envOfC x (defScope st) s.heap.objs.size f cdv)) → sp vs H Q E →
      ∃ t, PSs (cxOf CX0 P w K mg base N x (defScope st) f cdv A outer s H E).nox (defBody st) t ∧ t { nx := fun _ H' => Q .non H', rt := Q } (start N vs) H) : Has P w K mg base (k + 1) x ps sp := by
  obtain ⟨f, fd, hm, F⟩ := A.ex
  exact ⟨f, fd, hm, F.kp, F.binds B, F.ok S len fun cdv A outer s H vs Q E hr h => hbody f cdv A outer s H vs Q E hr h⟩
end
theorem pe_const {X : Cx} {x : Str} {i : Int} {pos : Pos} (hm : ∃ t, X.mg x = some (.int i t)) (hg : Gl X x) (hd : (x == ("__debug__" : Str)) = false := by decide) : PE X (.Name x pos) (tC (.int i)) := by
  obtain ⟨t, hm⟩ := hm
  exact pe_glob hg hm ⟨t, rfl⟩ hd
/-! ### repr of a truth -/
def boolText (b : Bool) : Str := if b then "True" else "False"
theorem boolText_inj {a b : Bool} (h : boolText a = boolText b) : a = b := by
  cases a <;> cases b <;> first | rfl | exact absurd h (by decide +kernel)
theorem call_repr_bool {X : Cx} : CallR X (.builtin "repr") (fun xs H Q => ∃ b, xs = [.bl b] ∧ Q (.str (boolText b)) H) := by
  intro pins s σ H xs us Q I r h
  obtain ⟨b, rfl, q⟩ := h
  obtain ⟨u, rfl, ru⟩ := vals1 r
  cases ru
  cases b with
  | true => exact PySem.P.repr_of_bool ⟨.str (boolText true), H, I.tok _, ⟨_, rfl⟩, q⟩
  | false => exact PySem.P.repr_of_bool ⟨.str (boolText false), H, I.tok _, ⟨_, rfl⟩, q⟩
/-! ### heaps -/
/-- all that is known stays, but for what stands at t -/
def Kp (t : Addr) (H H' : Hp) : Prop := ∀ b o, H b = some o → b ≠ t → H' b = some o
theorem Kp.refl {t : Addr} (H : Hp) : Kp t H H := fun _ _ h _ => h
theorem Kp.trans {t : Addr} {H H1 H2 : Hp} (a : Kp t H H1) (b : Kp t H1 H2) : Kp t H H2 := fun c o h n => b c o (a c o h n) n
theorem Kp.new {t p : Addr} {H : Hp} {o : HO} (h : H p = none) : Kp t H (upd H p o) := fun b u e _ => by
  rw [upd_ne (ne_of_none e h)]
  exact e
theorem Kp.at {t : Addr} {H : Hp} {o : HO} : Kp t H (upd H t o) := fun b u e n => by
  rw [upd_ne n]
  exact e
theorem Kp.same {t : Addr} {H H' : Hp} (s : Same H H') : Kp t H H' := fun b o e _ => s b o e
theorem same_new {H : Hp} {p : Addr} {o : HO} (h : H p = none) : Same H (upd H p o) := fun b u e => by
  rw [upd_ne (ne_of_none e h)]
  exact e
/-! ### the tape -/
def tk (c : Addr) (spot left : Int) : List (Key × V) := [(.inr "cells", .ref c), (.inr "spot", .int spot), (.inr "left", .int left)]
structure TapeC (H : Hp) (t c : Addr) (ns : List Int) (spot left : Int) : Prop where
  d : H t = some (.dK (tk c spot left))
  l : H c = some (.lst (ns.map V.int))
  ne : 0 < ns.length
  lt : ns.length ≤ 63
  s0 : 0 ≤ spot
  l0 : 0 ≤ left
/-- a tape at t, its cells at c, of which at most n draws are taken -/
def Tape (H : Hp) (t c : Addr) (n : Nat) : Prop := ∃ ns spot left, TapeC H t c ns spot left ∧ spot ≤ n
theorem Tape.ne {H : Hp} {t c : Addr} {n : Nat} (h : Tape H t c n) : t ≠ c := by
  obtain ⟨ns, spot, left, h, _⟩ := h
  exact ne_of h.d h.l (by intro z; cases z)
theorem Tape.le {H : Hp} {t c : Addr} {n m : Nat} (h : Tape H t c n) (l : n ≤ m) : Tape H t c m := by
  obtain ⟨ns, spot, left, h, e⟩ := h
  exact ⟨ns, spot, left, h, by omega⟩
theorem Tape.stay {H H' : Hp} {t c : Addr} {n : Nat} (h : Tape H t c n) (k : ∀ b o, H b = some o → b = t ∨ b = c → H' b = some o) : Tape H' t c n := by
  obtain ⟨ns, spot, left, h, e⟩ := h
  exact ⟨ns, spot, left, ⟨k _ _ h.d (.inl rfl), k _ _ h.l (.inr rfl), h.ne, h.lt, h.s0, h.l0⟩, e⟩
theorem Tape.same {H H' : Hp} {t c : Addr} {n : Nat} (h : Tape H t c n) (s : Same H H') : Tape H' t c n := h.stay fun b o e _ => s b o e
theorem Tape.new {H : Hp} {t c p : Addr} {n : Nat} {o : HO} (h : Tape H t c n) (hp : H p = none) : Tape (upd H p o) t c n := h.same (same_new hp)
theorem Tape.at_t {H : Hp} {t c : Addr} {n : Nat} (h : Tape H t c n) : ∃ o, H t = some o := by
  obtain ⟨ns, spot, left, h, _⟩ := h
  exact ⟨_, h.d⟩
theorem Tape.at_c {H : Hp} {t c : Addr} {n : Nat} (h : Tape H t c n) : ∃ o, H c = some o := by
  obtain ⟨ns, spot, left, h, _⟩ := h
  exact ⟨_, h.l⟩
theorem k_cells : ¬ (("cells" : Str) = "spot") := by decide +kernel
theorem k_cells2 : ¬ (("cells" : Str) = "left") := by decide +kernel
theorem k_spot : ¬ (("spot" : Str) = "left") := by decide +kernel
theorem tk_cells (c : Addr) (a b : Int) : valV (tk c a b) (Sum.inr "cells" : Key) = some (.ref c) := valV_pos rfl
theorem tk_spot (c : Addr) (a b : Int) : valV (tk c a b) (Sum.inr "spot" : Key) = some (.int a) := by
  unfold tk
  rw [valV_neg (fun e => k_cells (Sum.inr.inj e)), valV_pos rfl]
theorem tk_left (c : Addr) (a b : Int) : valV (tk c a b) (Sum.inr "left" : Key) = some (.int b) := by
  unfold tk
  rw [valV_neg (fun e => k_cells2 (Sum.inr.inj e)), valV_neg (fun e => k_spot (Sum.inr.inj e)), valV_pos rfl]
theorem tk_put_spot (c : Addr) (a b x : Int) : putK (tk c a b) (Sum.inr "spot" : Key) (.int x) = tk c x b := by
  rfl
theorem tk_put_left (c : Addr) (a b x : Int) : putK (tk c a b) (Sum.inr "left" : Key) (.int x) = tk c a x := by
  rfl
theorem dg_cells {H : Hp} {t c : Addr} {a b : Int} (h : H t = some (.dK (tk c a b))) : DGet H t (.str "cells") (some (.ref c)) := by
  have g := DGet.k (k := (Sum.inr "cells" : Key)) h
  rw [tk_cells] at g
  exact g
theorem dg_spot {H : Hp} {t c : Addr} {a b : Int} (h : H t = some (.dK (tk c a b))) : DGet H t (.str "spot") (some (.int a)) := by
  have g := DGet.k (k := (Sum.inr "spot" : Key)) h
  rw [tk_spot] at g
  exact g
theorem dg_left {H : Hp} {t c : Addr} {a b : Int} (h : H t = some (.dK (tk c a b))) : DGet H t (.str "left") (some (.int b)) := by
  have g := DGet.k (k := (Sum.inr "left" : Key)) h
  rw [tk_left] at g
  exact g
theorem dp_spot {H : Hp} {t c : Addr} {a b : Int} (x : Int) (h : H t = some (.dK (tk c a b))) : DPut H t (.str "spot") (.int x) (upd H t (.dK (tk c x b))) := by
  have g := DPut.k (k := (Sum.inr "spot" : Key)) (v := .int x) h (small1000 (by show 3 ≤ 1000; decide))
  rw [tk_put_spot] at g
  exact g
theorem dp_left {H : Hp} {t c : Addr} {a b : Int} (x : Int) (h : H t = some (.dK (tk c a b))) : DPut H t (.str "left") (.int x) (upd H t (.dK (tk c a x))) := by
  have g := DPut.k (k := (Sum.inr "left" : Key)) (v := .int x) h (small1000 (by show 3 ≤ 1000; decide))
  rw [tk_put_left] at g
  exact g
theorem Tape.fresh {H : Hp} {t c p : Addr} {n : Nat} (h : Tape H t c n) (hp : H p = none) : p ≠ t := by
  obtain ⟨o, e⟩ := h.at_t
  exact (ne_of_none e hp).symm
theorem Tape.fresh_c {H : Hp} {t c p : Addr} {n : Nat} (h : Tape H t c n) (hp : H p = none) : p ≠ c := by
  obtain ⟨o, e⟩ := h.at_c
  exact (ne_of_none e hp).symm
/-! ### a list beside the empty list -/
section
variable {X : Cx}
def rEqNil (K : PySem.W.Frag) (neg : Bool) : R2 := fun x y H Q => ∃ a b xs, x = .ref a ∧ y = .ref b ∧ SqL K H a xs ∧ SqL K H b [] ∧ Q (.bl (if neg = true then !xs.isEmpty else xs.isEmpty)) H
theorem op_eqNil (hu : X.A.units + 1 < cLine) : OpR X (compareOp .Eq) (rEqNil X.K false) := by
  intro pins s σ H x y v u Q I rx ry h
  obtain ⟨a, b, xs, rfl, rfl, ha, hb, q⟩ := h
  cases rx
  cases ry
  obtain ⟨us, vs, pl, _⟩ := I.list ha
  obtain ⟨ws, vs2, pl2, _⟩ := I.list hb
  cases vs2
  have l := vs.length
  cases xs with
  | nil =>
    cases vs
    exact SeqAt.RcAt.lists (e := fun _ => true) pl.isList pl2.isList rfl (by omega) (fun j h1 => absurd h1 (Nat.not_lt_zero _)) _ _ _ _ ⟨.bl true, H, I, rfl, q⟩
  | cons z zs => exact SeqAt.RcAt.lists_lengths pl.isList pl2.isList (by rw [List.size_toArray, ← l]; rfl) (by omega) _ _ _ _ ⟨.bl false, H, I, rfl, q⟩
theorem op_neNil (hu : X.A.units + 1 < cLine) : OpR X (compareOp .NotEq) (rEqNil X.K true) := by
  intro pins s σ H x y v u Q I rx ry h
  obtain ⟨a, b, xs, rfl, rfl, ha, hb, q⟩ := h
  cases rx
  cases ry
  obtain ⟨us, vs, pl, _⟩ := I.list ha
  obtain ⟨ws, vs2, pl2, _⟩ := I.list hb
  cases vs2
  have l := vs.length
  cases xs with
  | nil =>
    cases vs
    exact SeqAt.RcNeAt.lists (e := fun _ => true) pl.isList pl2.isList rfl (by omega) (fun j h1 => absurd h1 (Nat.not_lt_zero _)) _ _ _ _ ⟨.bl false, H, I, rfl, q⟩
  | cons z zs => exact SeqAt.RcNeAt.lists_lengths pl.isList pl2.isList (by rw [List.size_toArray, ← l]; rfl) (by omega) _ _ _ _ ⟨.bl true, H, I, rfl, q⟩
end
/-! ### comprehensions that leave what is known as it is -/
theorem take_sel {α β : Type} (t : α → Bool) (f : α → β) {xs : List α} {i : Nat} {x : α} (h : xs[i]? = some x) :
    ((xs.take (i + 1)).filter t).map f = ((xs.take i).filter t).map f ++ (if t x = true then [f x] else []) := by
  rw [List.take_add_one, h, List.filter_append, List.map_append]
  by_cases ht : t x = true
  · rw [if_pos ht]
    simp [ht]
  · rw [if_neg ht]
    simp [ht]
section
variable {K : PySem.W.Frag} {a : Addr} {xs : List V} {tt : TT} {te : TE} {vs : List Nat} {σ : L2.St} {H : Hp} {D : Addr} {Qd : Hp → Prop} {j : Nat}
/-- what a turn asks: the test, the item -/
structure SelT (H : Hp) (σ : L2.St) (vs : List Nat) (j : Nat) (tt : TT) (te : TE) (x : V) (b : Bool) (y : V) : Prop where
  wip : wipe ((wipe σ vs).set j (some x)) vs = wipe σ vs
  tst : ∀ H', Same H H' → ∀ R : Bool → Hp → Prop, (∀ H'', Same H' H'' → R b H'') → tt ((wipe σ vs).set j (some x)) H' R
  elt : b = true → ∀ H', Same H H' → ∀ R : VK, (∀ H'', Same H' H'' → R y H'') → te ((wipe σ vs).set j (some x)) H' R
theorem sel_turn {x y : V} {b : Bool} {acc : List V} {H' : Hp} {P : Hp → Prop} (hD : H D = none) (s : SelT H σ vs j tt te x b y) (hs : Same H H') (ha : H' D = some (.lst acc)) (hz : acc.length < sizeLine)
    (k : ∀ H'', Same H H'' → H'' D = some (.lst (acc ++ (if b = true then [y] else []))) → P H'') :
    gName j x (wipe σ vs) H' fun σ2 H2 => wipe σ2 vs = wipe σ vs ∧ tt σ2 H2 fun c H3 => if c = true then te σ2 H3 fun y H4 => ∃ acc, H4 D = some (.lst acc) ∧ acc.length < sizeLine ∧ P (upd H4 D (.lst (acc ++ [y]))) else P H3 := by
  refine ⟨s.wip, s.tst H' hs _ fun H3 s3 => ?_⟩
  have h3 := s3 D _ ha
  cases b with
  | false =>
    refine iteF (k H3 (hs.trans s3) ?_)
    rw [h3, if_neg Bool.false_ne_true, List.append_nil]
  | true =>
    refine iteT (s.elt rfl H3 (hs.trans s3) _ fun H4 s4 => ⟨acc, s4 D _ h3, hz, k _ (fun c o e => ?_) ?_⟩)
    · rw [upd_ne (ne_of_none e hD)]
      exact s4 c o (s3 c o (hs c o e))
    · rw [upd_same, if_pos rfl]
theorem lc_sel_list (t : V → Bool) (f : V → V) (hx : SqL K H a xs) (hD : H D = none) (hz : xs.length ≤ 1000000) (hs : ∀ x ∈ xs, SelT H σ vs j tt te x (t x) (f x)) (k : ∀ H', Same H H' → H' D = some (.lst ((xs.filter t).map f)) → Qd H') :
    ∃ W : Nat → Nat → Hp → Prop, (∃ m, W 0 m (upd H D (.lst []))) ∧ ∀ i m H, W i m H →
      ((Itl K a).stop i H ∧ Qd H) ∨ ((Itl K a).go i H ∧ ∃ Nx : Hp → Prop, (∀ H', Nx H' → ∃ m', m' < m ∧ W (i + 1) m' H') ∧ ∀ x H', (Itl K a).yld i H x H' → gName j x (wipe σ vs) H' fun σ2 H2 => wipe σ2 vs = wipe σ vs ∧ tt σ2 H2 fun b H3 =>
        if b = true then te σ2 H3 fun y H4 => ∃ acc, H4 D = some (.lst acc) ∧ acc.length < sizeLine ∧ Nx (upd H4 D (.lst (acc ++ [y]))) else Nx H3) := by
  have line : 1000000 < sizeLine := by decide
  refine lc_list (xs := xs) (fun i H' => Same H H' ∧ H' D = some (.lst (((xs.take i).filter t).map f))) ⟨same_new hD, upd_same⟩ (fun i H' _ p => p.1.seq hx) (fun i x H' hi p => ?_) fun H' p => k H' p.1 (by rw [p.2, List.take_length])
  refine sel_turn hD (hs x (List.mem_of_getElem? hi)) p.1 p.2 ?_ fun H'' s'' e => ⟨s'', by rw [e, take_sel t f hi]⟩
  have l1 := List.length_filter_le t (xs.take i)
  have l2 := List.length_take_le i xs
  have l3 : (xs.take i).length ≤ xs.length := by rw [List.length_take]; omega
  rw [List.length_map]
  omega
theorem Same.seqT {H H' : Hp} (e : Same H H') (h : SqT K H a xs) : SqT K H' a xs := by
  rcases h with (h | ⟨o, h⟩) | h
  · exact .inl (.inl (e _ _ h))
  · exact .inl (.inr ⟨o, e _ _ h⟩)
  · exact .inr h
theorem lc_sel_tup (t : V → Bool) (f : V → V) (hx : SqT K H a xs) (hD : H D = none) (hz : xs.length ≤ 1000000) (hs : ∀ x ∈ xs, SelT H σ vs j tt te x (t x) (f x)) (k : ∀ H', Same H H' → H' D = some (.lst ((xs.filter t).map f)) → Qd H') :
    ∃ W : Nat → Nat → Hp → Prop, (∃ m, W 0 m (upd H D (.lst []))) ∧ ∀ i m H, W i m H →
      ((Itt K a).stop i H ∧ Qd H) ∨ ((Itt K a).go i H ∧ ∃ Nx : Hp → Prop, (∀ H', Nx H' → ∃ m', m' < m ∧ W (i + 1) m' H') ∧ ∀ x H', (Itt K a).yld i H x H' → gName j x (wipe σ vs) H' fun σ2 H2 => wipe σ2 vs = wipe σ vs ∧ tt σ2 H2 fun b H3 =>
        if b = true then te σ2 H3 fun y H4 => ∃ acc, H4 D = some (.lst acc) ∧ acc.length < sizeLine ∧ Nx (upd H4 D (.lst (acc ++ [y]))) else Nx H3) := by
  have line : 1000000 < sizeLine := by decide
  refine lc_tup (xs := xs) (fun i H' => Same H H' ∧ H' D = some (.lst (((xs.take i).filter t).map f))) ⟨same_new hD, upd_same⟩ (fun i H' _ p => Same.seqT p.1 hx) (fun i x H' hi p => ?_) fun H' p => k H' p.1 (by rw [p.2, List.take_length])
  refine sel_turn hD (hs x (List.mem_of_getElem? hi)) p.1 p.2 ?_ fun H'' s'' e => ⟨s'', by rw [e, take_sel t f hi]⟩
  have l1 := List.length_filter_le t (xs.take i)
  have l3 : (xs.take i).length ≤ xs.length := by rw [List.length_take]; omega
  rw [List.length_map]
  omega
theorem take_range {n i : Nat} (h : i < n) : (List.range n)[i]? = some i := by
  rw [List.getElem?_range h]
theorem lc_sel_range {lo : Int} {n : Nat} (t : Nat → Bool) (f : Nat → V) (hD : H D = none) (hz : n ≤ 1000000) (hs : ∀ i, i < n → SelT H σ vs j tt te (.int (lo + i)) (t i) (f i)) (k : ∀ H', Same H H' → H' D = some (.lst (((List.range n).filter t).map f)) → Qd H') :
    ∃ W : Nat → Nat → Hp → Prop, (∃ m, W 0 m (upd H D (.lst []))) ∧ ∀ i m H, W i m H →
      ((Itr lo n).stop i H ∧ Qd H) ∨ ((Itr lo n).go i H ∧ ∃ Nx : Hp → Prop, (∀ H', Nx H' → ∃ m', m' < m ∧ W (i + 1) m' H') ∧ ∀ x H', (Itr lo n).yld i H x H' → gName j x (wipe σ vs) H' fun σ2 H2 => wipe σ2 vs = wipe σ vs ∧ tt σ2 H2 fun b H3 =>
        if b = true then te σ2 H3 fun y H4 => ∃ acc, H4 D = some (.lst acc) ∧ acc.length < sizeLine ∧ Nx (upd H4 D (.lst (acc ++ [y]))) else Nx H3) := by
  have line : 1000000 < sizeLine := by decide
  refine lc_range (fun i H' => Same H H' ∧ H' D = some (.lst ((((List.range n).take i).filter t).map f))) ⟨same_new hD, upd_same⟩ (fun i H' hi p => ?_) fun H' p => k H' p.1 (by rw [p.2, List.take_of_length_le (by rw [List.length_range]; omega)])
  refine sel_turn hD (hs i hi) p.1 p.2 ?_ fun H'' s'' e => ⟨s'', by rw [e, take_sel t f (take_range hi)]⟩
  have l1 := List.length_filter_le t ((List.range n).take i)
  have l3 : ((List.range n).take i).length ≤ n := by rw [List.length_take, List.length_range]; omega
  rw [List.length_map]
  omega
end
theorem filter_all {α : Type} (xs : List α) : xs.filter (fun _ => true) = xs := List.filter_eq_self.mpr fun _ _ => rfl
theorem Kp.free {t D : Addr} {H H' : Hp} (k : Kp t H H') (h : H' D = none) (n : D ≠ t) : H D = none := by
  cases e : H D with
  | none => rfl
  | some o =>
    rw [k D o e n] at h
    cases h
theorem Kp.mut {t p : Addr} {H H' : Hp} {o : HO} (k : Kp t H H') (h : H p = none) : Kp t H (upd H' p o) := fun b u e n => by
  rw [upd_ne (ne_of_none e h)]
  exact k b u e n
theorem Tape.mut {H : Hp} {t c p : Addr} {n : Nat} {o : HO} (h : Tape H t c n) (n1 : p ≠ t) (n2 : p ≠ c) : Tape (upd H p o) t c n := h.stay fun b u e z => by
  rw [upd_ne]
  · exact e
  · rcases z with rfl | rfl
    · exact n1.symm
    · exact n2.symm
theorem yes_go {σ : L2.St} {H : Hp} {A B : Hp → Prop} (h : A H) : tYes σ H (fun b H' => if b = true then A H' else B H') := by
  show (if true = true then A H else B H)
  rw [if_pos rfl]
  exact h
/-! ### d.update(e) of two dicts -/
theorem mt_update {X : Cx} : MtR X "dict.update" (fun x xs H Q => ∃ (a b : Addr) (ks ms : List (Key × V)), x = .ref a ∧ xs = [.ref b] ∧ H a = some (.dK ks) ∧ H b = some (.dK ms) ∧ a ≠ b ∧ ks.length + ms.length ≤ sizeLine ∧
    Q .non (upd H a (.dK (mergeK ks ms)))) := by
  intro pins s σ H x xs v us Q I rx rxs h
  obtain ⟨a, b, ks, ms, rfl, rfl, ha, hb, ne, few, q⟩ := h
  cases rx
  obtain ⟨u, rfl, ru⟩ := vals1 rxs
  cases ru
  obtain ⟨za, da, va, ra, dda⟩ := dk_of I.hok ha
  obtain ⟨zb, db, vb, rb, ddb⟩ := dk_of I.hok hb
  refine call_meetsIn PySem.F.slot_dict_update dda.typeIs PySem.F.entry_dict_update (PySem.F.args_dict_update_2 _ _) (meets_dict_update (mixKind X.prog X.w) a b ne db) ⟨va, vb, dda, ddb, by rw [← ra.length, ← rb.length]; exact few, fun h' d1 d2 same => ?_⟩
  have there : ∃ o, h'.get? a = some o := by
    obtain ⟨o, _, _, ho, _⟩ := id d1
    exact ⟨o, ho⟩
  have small : (mergeK ks ms).length ≤ sizeLine := Nat.le_trans (length_mergeK ms ks) few
  exact ⟨.non, _, d_write (t' := s.toks) I (by rw [ha]; exact True.intro) same there (dk_new small da (rb.merge ra) d1), rfl, q⟩
/-! ### rules whose reading names the written part, for use within a comprehension -/
section
variable {X : Cx} {K : PySem.W.Frag}
theorem op_inK (h : X.K = K) : OpR X (compareOp .In) (rIn K false) := h ▸ op_in_seq
theorem op_notInK (h : X.K = K) : OpR X (compareOp .NotIn) (rIn K true) := h ▸ op_notIn_seq
theorem op_eqNilK (h : X.K = K) (hu : X.A.units + 1 < cLine) : OpR X (compareOp .Eq) (rEqNil K false) := h ▸ op_eqNil hu
theorem op_neNilK (h : X.K = K) (hu : X.A.units + 1 < cLine) : OpR X (compareOp .NotEq) (rEqNil K true) := h ▸ op_neNil hu
theorem ix_listK (h : X.K = K) : IxR X (rIxL K) := h ▸ ix_list
theorem ix_tupK (h : X.K = K) : IxR X (rIxT K) := h ▸ ix_tup
theorem ix_seqK (h : X.K = K) : IxR X (rIx K) := h ▸ ix_seq
theorem len_seqK (h : X.K = K) : CallR X (.builtin "len") (fun xs H Q => ∃ p ys, xs = [.ref p] ∧ (SqL K H p ys ∨ SqT K H p ys) ∧ Q (.int (ys.length : Nat)) H) := h ▸ call_len_seq
theorem pi_listK {tg l : Expr} {tl : TE} (h : X.K = K) (hl : PE X l tl) : PI X tg l (iList K tl) := h ▸ pi_list hl
theorem pi_tupK {tg l : Expr} {tl : TE} (h : X.K = K) (hl : PE X l tl) : PI X tg l (iTup K tl) := h ▸ pi_tup hl
theorem sl_listK (h : X.K = K) : SlR X (rSlL K) := h ▸ sl_list
theorem sl_tupK (h : X.K = K) : SlR X (rSlT K) := h ▸ sl_tup
theorem cr_sumK (h : X.K = K) (hc : X.calm = true) : CallR X (.builtin "sum") (rSum K) := h ▸ cr_sum hc
theorem cr_maxL (h : X.K = K) (hc : X.calm = true) : CallR X (.builtin "max") (rMax K) := h ▸ cr_max hc
theorem cr_minL (h : X.K = K) (hc : X.calm = true) : CallR X (.builtin "min") (rMin K) := h ▸ cr_min hc
theorem cr_allK (h : X.K = K) (hc : X.calm = true) : CallR X (.builtin "all") (rAll K) := h ▸ cr_all hc
theorem cr_anyK (h : X.K = K) (hc : X.calm = true) : CallR X (.builtin "any") (rAny K) := h ▸ cr_any hc
theorem call_list_ofK (h : X.K = K) : CallR X (.type "list") (fun xs H Q => ∃ p ys, xs = [.ref p] ∧ (SqL K H p ys ∨ SqT K H p ys) ∧ ∀ l, H l = none → Q (.ref l) (upd H l (.lst ys))) := h ▸ call_list_of
theorem call_tuple_ofK (h : X.K = K) : CallR X (.type "tuple") (fun xs H Q => ∃ p ys, xs = [.ref p] ∧ ((SqL K H p ys ∧ ∀ l, H l = none → Q (.ref l) (upd H l (.tup ys))) ∨ (SqT K H p ys ∧ Q (.ref p) H))) := h ▸ call_tuple_of
theorem op_catTK (h : X.K = K) : OpR X (binaryOp .Add) (rCatT K) := h ▸ op_catT
end
theorem bd__law_begun : BindsAll "_law_begun" s__law_begun ["_law_script"] := fun _ _ _ _ _ _ us hl => match us, hl with | [_], _ => rfl
theorem bd__law_draw : BindsAll "_law_draw" s__law_draw ["_law_tape", "_law_many"] := fun _ _ _ _ _ _ us hl => match us, hl with | [_, _], _ => rfl
theorem bd__law_pick : BindsAll "_law_pick" s__law_pick ["_law_tape", "_law_some"] := fun _ _ _ _ _ _ us hl => match us, hl with | [_, _], _ => rfl
theorem bd__law_far_marks : BindsAll "_law_far_marks" s__law_far_marks ["_law_tape", "_law_many"] := fun _ _ _ _ _ _ us hl => match us, hl with | [_, _], _ => rfl
theorem bd__law_system : BindsAll "_law_system" s__law_system ["_law_tape", "_law_marks", "_law_many"] := fun _ _ _ _ _ _ us hl => match us, hl with | [_, _, _], _ => rfl
theorem bd__law_puts : BindsAll "_law_puts" s__law_puts ["_law_tape", "_law_marks"] := fun _ _ _ _ _ _ us hl => match us, hl with | [_, _], _ => rfl
theorem bd__law_spoil : BindsAll "_law_spoil" s__law_spoil ["_law_follower"] := fun _ _ _ _ _ _ us hl => match us, hl with | [_], _ => rfl
theorem bd_law : BindsAll "law" s_law ["_law_script"] := fun _ _ _ _ _ _ us hl => match us, hl with | [_], _ => rfl
/-! ### methods that keep a promise -/
structure MethAt (K : PySem.W.Frag) (C : Addr) (m qual : Str) (st : Stmt) : Prop where
  ex : ∃ f fd, Meth K C m f ∧ Fun K m qual st f fd
structure InitAt (K : PySem.W.Frag) (C : Addr) (qual : Str) (st : Stmt) : Prop where
  ex : ∃ f fd, Mk K C f ∧ Fun K "__init__" qual st f fd
structure HasM (P : Program) (w : World) (K : PySem.W.Frag) (mg : Str → Option Value) (base : Heap) (C : Addr) (k : Nat) (m : Str) (ps : List Str) (sp : Sp) : Prop where
  ex : ∃ f fd, Meth K C m f ∧ Binds K fd ps [] ∧ FnOk P w K mg base CX0 k f fd ps sp
structure HasI (P : Program) (w : World) (K : PySem.W.Frag) (mg : Str → Option Value) (base : Heap) (C : Addr) (k : Nat) (x : Str) (ps : List Str) (sp : Sp) : Prop where
  ex : ∃ f fd, mg x = some (.ref C) ∧ Mk K C f ∧ Binds K fd ps [] ∧ FnOk P w K mg base CX0 k f fd ps sp
section
variable {X : Cx} {k : Nat} {C : Addr} {x m : Str} {ps : List Str} {sp : Sp} {o e : Expr} {es : List Expr} {ta : TE} {t : TA} {p pos apos : Pos}
theorem pe_hasM {pl : Sem Bool} (c : Cls X.K C) (h : HasM X.prog X.w X.K X.mg X.base C k m ps sp) (hr : Room k X.A) (he : PE X o ta) (ha : PA X (e :: es) t)
    (hst : starEach (e :: es) X.env = (false, eval e X.env) :: starEach es X.env := by rfl) (hpl : (backTo pos (starEach es X.env)).any (·.1) = false := by rfl)
    (ht : eval (.Call (.Attribute o m apos) (e :: es) [] pos) X.env = (do
      let ov ← eval o X.env
      standAt apos.atName
      let (f, first) ← holding [ov] (getMethod ov m pl)
      callWith pos f first (backTo pos (starEach (e :: es) X.env)) (backToKw pos (keywordEach [] X.env))) := by rfl) :
    PE X (.Call (.Attribute o m apos) (e :: es) [] pos) (tMeth C m sp [] E0 ta t) := by
  obtain ⟨f, fd, hm, hb, F⟩ := h.ex
  exact pe_meth he c hm F hr hb .nil pass0 ha hst hpl ht
theorem pe_hasM0 {pl : Sem Bool} (c : Cls X.K C) (h : HasM X.prog X.w X.K X.mg X.base C k m ps sp) (hr : Room k X.A) (he : PE X o ta)
    (ht : eval (.Call (.Attribute o m apos) [] [] pos) X.env = (do
      let ov ← eval o X.env
      standAt apos.atName
      let (f, first) ← holding [ov] (getMethod ov m pl)
      callWith pos f first (backTo pos (starEach [] X.env)) (backToKw pos (keywordEach [] X.env))) := by rfl) :
    PE X (.Call (.Attribute o m apos) [] [] pos) (tMeth C m sp [] E0 ta tNil) := by
  obtain ⟨f, fd, hm, hb, F⟩ := h.ex
  exact pe_meth0 he c hm F hr hb .nil pass0 ht
theorem pe_hasI (h : HasI X.prog X.w X.K X.mg X.base C k x ps sp) (hr : Room (k + 1) X.A) (hg : Gl X x) (ha : PA X (e :: es) t)
    (hdb : (x == ("__debug__" : Str)) = false := by decide) (he : starEach (e :: es) X.env = (false, eval e X.env) :: starEach es X.env := by rfl) (hpl : (backTo pos (starEach es X.env)).any (·.1) = false := by rfl) :
    PE X (.Call (.Name x p) (e :: es) [] pos) (tMake C sp [] E0 t) := by
  obtain ⟨f, fd, hm, M, hb, F⟩ := h.ex
  exact pe_make M F hr hg hm hb .nil pass0 ha hdb he hpl
theorem pe_fldK {K : PySem.W.Frag} {f : Str} (h : X.K = K) (he : PE X e ta) (hb : attributeBase e f X.env (eval e X.env) = eval e X.env) : PE X (.Attribute e f pos) (tFld K ta f) := h ▸ pe_fld he hb
/-- what is never reached -/
theorem ps_never {st : Stmt} : PS X st (fun _ _ _ => False) := ⟨fun _ _ _ _ _ _ h => h.elim⟩
/-- xs[i], for xs[i] += .. -/
theorem get_list : PGet X (rIxL X.K) := by
  intro pins s σ H x y v u Q I rx ry h
  obtain ⟨p, xs, i, z, rfl, rfl, hq, he, q⟩ := h
  cases rx
  obtain ⟨t, rfl⟩ := ry
  obtain ⟨its, r, pl, hz⟩ := I.list hq
  obtain ⟨j, h1, h2, h3, h4, h5⟩ := atI_get he
  obtain ⟨w, ew, rw'⟩ := r.get h2
  have hl := r.length
  have hn := line63
  have fin : EP X pins σ Q w s := ⟨z, H, I, rw', q⟩
  by_cases h0 : 0 ≤ i
  · have hj : i.toNat = j := by
      rw [seqIndex_of h0 h5] at h1
      exact Option.some.inj h1
    exact wpAny_getItem_list pl.isList h0 (by omega) (by rw [hj]; simpa using ew) fin
  · have hj : (i + (its.toArray.size : Int)).toNat = j := by
      rw [seqIndex_neg (by omega) h4] at h1
      rw [List.size_toArray, ← hl]
      exact Option.some.inj h1
    exact wpAny_getItem_list_neg pl.isList (by omega) (by rw [List.size_toArray] <;> omega) (by omega) (by rw [hj]; simpa using ew) fin
end
section
variable {P : Program} {w : World} {K : PySem.W.Frag} {mg : Str → Option Value} {base : Heap} {C : Addr}
theorem has_ofM {m qual : Str} {st : Stmt} {N ps : List Str} {k : Nat} {sp : Sp} (A : MethAt K C m qual st) (S : FnScope N ps (defScope st))
    (B : ∀ (kV doc pm : Value) (an : Option Addr) (cdv ct : Value) (us : List Value), us.length = ps.length → bindArgs (PySem.W.fnOf m qual (defArgs st) (defBody st) (defScope st) .none kV doc pm an cdv ct) ⟨us, []⟩ = pure (ps.zip us))
    (len : ∀ vs H Q E, sp vs H Q E → vs.length = ps.length)
    (hbody : ∀ (f : Addr) (cdv : Value) (A : Around) (outer : List Env) (s : Shared) (H : Hp) (vs : List V) (Q : VK) (E : XK), Room k (A.deeper (envOfC qual (defScope st) s.heap.objs.size f cdv)) → sp vs H Q E →
      ∃ t, PSs (cxOf CX0 P w K mg base N qual (defScope st) f cdv A outer s H E).nox (defBody st) t ∧ t { nx := fun _ H' => Q .non H', rt := Q } (start N vs) H) : HasM P w K mg base C (k + 1) m ps sp := by
  obtain ⟨f, fd, hm, F⟩ := A.ex
  exact ⟨f, fd, hm, F.binds B, F.ok S len fun cdv A outer s H vs Q E hr h => hbody f cdv A outer s H vs Q E hr h⟩
theorem has_ofI {x qual : Str} {st : Stmt} {N ps : List Str} {k : Nat} {sp : Sp} (hg : mg x = some (.ref C)) (A : InitAt K C qual st) (S : FnScope N ps (defScope st))
    (B : ∀ (kV doc pm : Value) (an : Option Addr) (cdv ct : Value) (us : List Value), us.length = ps.length → bindArgs (PySem.W.fnOf "__init__" qual (defArgs st) (defBody st) (defScope st) .none kV doc pm an cdv ct) ⟨us, []⟩ = pure (ps.zip us))
    (len : ∀ vs H Q E, sp vs H Q E → vs.length = ps.length)
    (hbody : ∀ (f : Addr) (cdv : Value) (A : Around) (outer : List Env) (s : Shared) (H : Hp) (vs : List V) (Q : VK) (E : XK), Room k (A.deeper (envOfC qual (defScope st) s.heap.objs.size f cdv)) → sp vs H Q E →
      ∃ t, PSs (cxOf CX0 P w K mg base N qual (defScope st) f cdv A outer s H E).nox (defBody st) t ∧ t { nx := fun _ H' => Q .non H', rt := Q } (start N vs) H) : HasI P w K mg base C (k + 1) x ps sp := by
  obtain ⟨f, fd, hm, F⟩ := A.ex
  exact ⟨f, fd, hg, hm, F.binds B, F.ok S len fun cdv A outer s H vs Q E hr h => hbody f cdv A outer s H vs Q E hr h⟩
end

structure Top (K : PySem.W.Frag) (mg : Str → Option Value) (cs : Nat → Addr) : Prop where
  d__law_begun : At K mg "_law_begun" s__law_begun
  d__law_draw : At K mg "_law_draw" s__law_draw
  d__law_pick : At K mg "_law_pick" s__law_pick
  d__law_far_marks : At K mg "_law_far_marks" s__law_far_marks
  d__law_system : At K mg "_law_system" s__law_system
  d__law_puts : At K mg "_law_puts" s__law_puts
  d__law_spoil : At K mg "_law_spoil" s__law_spoil
  d_law : At K mg "law" s_law
  g_Follower : mg "Follower" = some (.ref (cs 0))
  cl_Follower : Cls K (cs 0)
  i_Follower : InitAt K (cs 0) "Follower.__init__" s_Follower___init__
  m_Follower_put : MethAt K (cs 0) "put" "Follower.put" s_Follower_put
  m_Follower_add : MethAt K (cs 0) "add" "Follower.add" s_Follower_add
  m_Follower_back : MethAt K (cs 0) "back" "Follower.back" s_Follower_back
  m_Follower_on : MethAt K (cs 0) "on" "Follower.on" s_Follower_on
  m_Follower_shown : MethAt K (cs 0) "shown" "Follower.shown" s_Follower_shown
  m_Follower_puts : MethAt K (cs 0) "puts" "Follower.puts" s_Follower_puts
  m_Follower_is_broken : MethAt K (cs 0) "is_broken" "Follower.is_broken" s_Follower_is_broken
  m_Follower_clauses : MethAt K (cs 0) "clauses" "Follower.clauses" s_Follower_clauses
  m_Follower__refuse_broken : MethAt K (cs 0) "_refuse_broken" "Follower._refuse_broken" s_Follower__refuse_broken
  m_Follower__row_of : MethAt K (cs 0) "_row_of" "Follower._row_of" s_Follower__row_of
  m_Follower__take_in : MethAt K (cs 0) "_take_in" "Follower._take_in" s_Follower__take_in
  m_Follower__bring : MethAt K (cs 0) "_bring" "Follower._bring" s_Follower__bring
  m_Follower__take_off_last : MethAt K (cs 0) "_take_off_last" "Follower._take_off_last" s_Follower__take_off_last
  m_Follower__is_ready : MethAt K (cs 0) "_is_ready" "Follower._is_ready" s_Follower__is_ready
  m_Follower__settle : MethAt K (cs 0) "_settle" "Follower._settle" s_Follower__settle
  m_Follower__news : MethAt K (cs 0) "_news" "Follower._news" s_Follower__news
  m_Follower__rows_to : MethAt K (cs 0) "_rows_to" "Follower._rows_to" s_Follower__rows_to
  n_Follower__clauses : NoAttr K (cs 0) "_clauses"
  n_Follower__offs : NoAttr K (cs 0) "_offs"
  n_Follower__having : NoAttr K (cs 0) "_having"
  n_Follower__trail : NoAttr K (cs 0) "_trail"
  n_Follower__place : NoAttr K (cs 0) "_place"
  n_Follower__rows : NoAttr K (cs 0) "_rows"
  n_Follower__puts : NoAttr K (cs 0) "_puts"
  n_Follower__is_put : NoAttr K (cs 0) "_is_put"
  n_Follower__ahead : NoAttr K (cs 0) "_ahead"
  n_Follower__broken_row : NoAttr K (cs 0) "_broken_row"
  b_len : mg "len" = none
  b_range : mg "range" = none
  b_list : mg "list" = none
  b_min : mg "min" = none
  b_tuple : mg "tuple" = none
  b_abs : mg "abs" = none
  b_repr : mg "repr" = none
  b_isinstance : mg "isinstance" = none
  b_sorted : mg "sorted" = none
theorem bd_Follower___init__ : ∀ (kV doc pm : Value) (an : Option Addr) (cdv ct : Value) (us : List Value), us.length = (["self", "clauses"] : List Str).length → bindArgs (PySem.W.fnOf "__init__" "Follower.__init__" (defArgs s_Follower___init__) (defBody s_Follower___init__) (defScope s_Follower___init__) .none kV doc pm an cdv ct) ⟨us, []⟩ = pure ((["self", "clauses"] : List Str).zip us) := fun _ _ _ _ _ _ us hl => match us, hl with | [_, _], _ => rfl
theorem bd_Follower_put : ∀ (kV doc pm : Value) (an : Option Addr) (cdv ct : Value) (us : List Value), us.length = (["self", "mark"] : List Str).length → bindArgs (PySem.W.fnOf "put" "Follower.put" (defArgs s_Follower_put) (defBody s_Follower_put) (defScope s_Follower_put) .none kV doc pm an cdv ct) ⟨us, []⟩ = pure ((["self", "mark"] : List Str).zip us) := fun _ _ _ _ _ _ us hl => match us, hl with | [_, _], _ => rfl
theorem bd_Follower_add : ∀ (kV doc pm : Value) (an : Option Addr) (cdv ct : Value) (us : List Value), us.length = (["self", "clause"] : List Str).length → bindArgs (PySem.W.fnOf "add" "Follower.add" (defArgs s_Follower_add) (defBody s_Follower_add) (defScope s_Follower_add) .none kV doc pm an cdv ct) ⟨us, []⟩ = pure ((["self", "clause"] : List Str).zip us) := fun _ _ _ _ _ _ us hl => match us, hl with | [_, _], _ => rfl
theorem bd_Follower_back : ∀ (kV doc pm : Value) (an : Option Addr) (cdv ct : Value) (us : List Value), us.length = (["self"] : List Str).length → bindArgs (PySem.W.fnOf "back" "Follower.back" (defArgs s_Follower_back) (defBody s_Follower_back) (defScope s_Follower_back) .none kV doc pm an cdv ct) ⟨us, []⟩ = pure ((["self"] : List Str).zip us) := fun _ _ _ _ _ _ us hl => match us, hl with | [_], _ => rfl
theorem bd_Follower_on : ∀ (kV doc pm : Value) (an : Option Addr) (cdv ct : Value) (us : List Value), us.length = (["self"] : List Str).length → bindArgs (PySem.W.fnOf "on" "Follower.on" (defArgs s_Follower_on) (defBody s_Follower_on) (defScope s_Follower_on) .none kV doc pm an cdv ct) ⟨us, []⟩ = pure ((["self"] : List Str).zip us) := fun _ _ _ _ _ _ us hl => match us, hl with | [_], _ => rfl
theorem bd_Follower_shown : ∀ (kV doc pm : Value) (an : Option Addr) (cdv ct : Value) (us : List Value), us.length = (["self", "mark"] : List Str).length → bindArgs (PySem.W.fnOf "shown" "Follower.shown" (defArgs s_Follower_shown) (defBody s_Follower_shown) (defScope s_Follower_shown) .none kV doc pm an cdv ct) ⟨us, []⟩ = pure ((["self", "mark"] : List Str).zip us) := fun _ _ _ _ _ _ us hl => match us, hl with | [_, _], _ => rfl
theorem bd_Follower_puts : ∀ (kV doc pm : Value) (an : Option Addr) (cdv ct : Value) (us : List Value), us.length = (["self"] : List Str).length → bindArgs (PySem.W.fnOf "puts" "Follower.puts" (defArgs s_Follower_puts) (defBody s_Follower_puts) (defScope s_Follower_puts) .none kV doc pm an cdv ct) ⟨us, []⟩ = pure ((["self"] : List Str).zip us) := fun _ _ _ _ _ _ us hl => match us, hl with | [_], _ => rfl
theorem bd_Follower_is_broken : ∀ (kV doc pm : Value) (an : Option Addr) (cdv ct : Value) (us : List Value), us.length = (["self"] : List Str).length → bindArgs (PySem.W.fnOf "is_broken" "Follower.is_broken" (defArgs s_Follower_is_broken) (defBody s_Follower_is_broken) (defScope s_Follower_is_broken) .none kV doc pm an cdv ct) ⟨us, []⟩ = pure ((["self"] : List Str).zip us) := fun _ _ _ _ _ _ us hl => match us, hl with | [_], _ => rfl
theorem bd_Follower_clauses : ∀ (kV doc pm : Value) (an : Option Addr) (cdv ct : Value) (us : List Value), us.length = (["self"] : List Str).length → bindArgs (PySem.W.fnOf "clauses" "Follower.clauses" (defArgs s_Follower_clauses) (defBody s_Follower_clauses) (defScope s_Follower_clauses) .none kV doc pm an cdv ct) ⟨us, []⟩ = pure ((["self"] : List Str).zip us) := fun _ _ _ _ _ _ us hl => match us, hl with | [_], _ => rfl
theorem bd_Follower__refuse_broken : ∀ (kV doc pm : Value) (an : Option Addr) (cdv ct : Value) (us : List Value), us.length = (["self"] : List Str).length → bindArgs (PySem.W.fnOf "_refuse_broken" "Follower._refuse_broken" (defArgs s_Follower__refuse_broken) (defBody s_Follower__refuse_broken) (defScope s_Follower__refuse_broken) .none kV doc pm an cdv ct) ⟨us, []⟩ = pure ((["self"] : List Str).zip us) := fun _ _ _ _ _ _ us hl => match us, hl with | [_], _ => rfl
theorem bd_Follower__row_of : ∀ (kV doc pm : Value) (an : Option Addr) (cdv ct : Value) (us : List Value), us.length = (["self", "mark"] : List Str).length → bindArgs (PySem.W.fnOf "_row_of" "Follower._row_of" (defArgs s_Follower__row_of) (defBody s_Follower__row_of) (defScope s_Follower__row_of) .none kV doc pm an cdv ct) ⟨us, []⟩ = pure ((["self", "mark"] : List Str).zip us) := fun _ _ _ _ _ _ us hl => match us, hl with | [_, _], _ => rfl
theorem bd_Follower__take_in : ∀ (kV doc pm : Value) (an : Option Addr) (cdv ct : Value) (us : List Value), us.length = (["self", "clause"] : List Str).length → bindArgs (PySem.W.fnOf "_take_in" "Follower._take_in" (defArgs s_Follower__take_in) (defBody s_Follower__take_in) (defScope s_Follower__take_in) .none kV doc pm an cdv ct) ⟨us, []⟩ = pure ((["self", "clause"] : List Str).zip us) := fun _ _ _ _ _ _ us hl => match us, hl with | [_, _], _ => rfl
theorem bd_Follower__bring : ∀ (kV doc pm : Value) (an : Option Addr) (cdv ct : Value) (us : List Value), us.length = (["self", "mark", "row"] : List Str).length → bindArgs (PySem.W.fnOf "_bring" "Follower._bring" (defArgs s_Follower__bring) (defBody s_Follower__bring) (defScope s_Follower__bring) .none kV doc pm an cdv ct) ⟨us, []⟩ = pure ((["self", "mark", "row"] : List Str).zip us) := fun _ _ _ _ _ _ us hl => match us, hl with | [_, _, _], _ => rfl
theorem bd_Follower__take_off_last : ∀ (kV doc pm : Value) (an : Option Addr) (cdv ct : Value) (us : List Value), us.length = (["self"] : List Str).length → bindArgs (PySem.W.fnOf "_take_off_last" "Follower._take_off_last" (defArgs s_Follower__take_off_last) (defBody s_Follower__take_off_last) (defScope s_Follower__take_off_last) .none kV doc pm an cdv ct) ⟨us, []⟩ = pure ((["self"] : List Str).zip us) := fun _ _ _ _ _ _ us hl => match us, hl with | [_], _ => rfl
theorem bd_Follower__is_ready : ∀ (kV doc pm : Value) (an : Option Addr) (cdv ct : Value) (us : List Value), us.length = (["self", "number"] : List Str).length → bindArgs (PySem.W.fnOf "_is_ready" "Follower._is_ready" (defArgs s_Follower__is_ready) (defBody s_Follower__is_ready) (defScope s_Follower__is_ready) .none kV doc pm an cdv ct) ⟨us, []⟩ = pure ((["self", "number"] : List Str).zip us) := fun _ _ _ _ _ _ us hl => match us, hl with | [_, _], _ => rfl
theorem bd_Follower__settle : ∀ (kV doc pm : Value) (an : Option Addr) (cdv ct : Value) (us : List Value), us.length = (["self", "numbers"] : List Str).length → bindArgs (PySem.W.fnOf "_settle" "Follower._settle" (defArgs s_Follower__settle) (defBody s_Follower__settle) (defScope s_Follower__settle) .none kV doc pm an cdv ct) ⟨us, []⟩ = pure ((["self", "numbers"] : List Str).zip us) := fun _ _ _ _ _ _ us hl => match us, hl with | [_, _], _ => rfl
theorem bd_Follower__news : ∀ (kV doc pm : Value) (an : Option Addr) (cdv ct : Value) (us : List Value), us.length = (["self", "ahead"] : List Str).length → bindArgs (PySem.W.fnOf "_news" "Follower._news" (defArgs s_Follower__news) (defBody s_Follower__news) (defScope s_Follower__news) .none kV doc pm an cdv ct) ⟨us, []⟩ = pure ((["self", "ahead"] : List Str).zip us) := fun _ _ _ _ _ _ us hl => match us, hl with | [_, _], _ => rfl
theorem bd_Follower__rows_to : ∀ (kV doc pm : Value) (an : Option Addr) (cdv ct : Value) (us : List Value), us.length = (["self", "marks"] : List Str).length → bindArgs (PySem.W.fnOf "_rows_to" "Follower._rows_to" (defArgs s_Follower__rows_to) (defBody s_Follower__rows_to) (defScope s_Follower__rows_to) .none kV doc pm an cdv ct) ⟨us, []⟩ = pure ((["self", "marks"] : List Str).zip us) := fun _ _ _ _ _ _ us hl => match us, hl with | [_, _], _ => rfl
/-! ### the draws -/
def spDraw : Sp := fun vs H Q _ => ∃ (t c : Addr) (m : Int) (n : Nat), vs = [.ref t, .int m] ∧ Tape H t c n ∧ n < 2 ^ 40 ∧ 0 < m ∧ m < 2 ^ 8000 ∧
  ∀ (H' : Hp) (r : Int), 0 ≤ r → r < m → Tape H' t c (n + 1) → Kp t H H' → Q (.int r) H'
theorem cell_at {ns : List Int} {spot : Int} (h0 : 0 < ns.length) (hs : 0 ≤ spot) : ∃ x, atI (ns.map V.int) (spot % ((ns.map V.int).length : Int)) = some (.int x) := by
  rw [List.length_map]
  have hp : (0 : Int) < (ns.length : Int) := by omega
  have h1 := Int.emod_nonneg spot (show (ns.length : Int) ≠ 0 by omega)
  have h2 := Int.emod_lt_of_pos spot hp
  have h3 : (spot % (ns.length : Int)).toNat < ns.length := by omega
  refine ⟨ns[(spot % (ns.length : Int)).toNat], at_of (j := (spot % (ns.length : Int)).toNat) (by omega) ?_⟩
  rw [List.getElem?_map, List.getElem?_eq_getElem h3]
  rfl
theorem log2_small {m : Int} (h0 : 0 < m) (h : m < 2 ^ 8000) : m.natAbs.log2 < 9000 := by
  have h2 : m.natAbs < 2 ^ 8000 := by
    have e : ((2 ^ 8000 : Nat) : Int) = (2 : Int) ^ 8000 := by rw [Int.natCast_pow]; rfl
    omega
  exact Nat.lt_of_lt_of_le (PySem.Flt.log2_lt_of (by decide) h2) (by decide)
theorem pow_ok {x spot : Int} {n : Nat} (h0 : 0 ≤ spot) (h1 : spot ≤ n) (h2 : n < 2 ^ 40) : CPow (x % 2147483647 + 69621 * spot + 48271) 17 := by
  have a := Int.emod_nonneg x (show (2147483647 : Int) ≠ 0 by decide)
  have b := Int.emod_lt_of_pos x (show (0 : Int) < 2147483647 by decide)
  refine ⟨by decide, by decide, ?_⟩
  have e : (2 : Nat) ^ 64 = 18446744073709551616 := by decide
  rw [e]
  omega
section
variable {P : Program} {w : World} {K : PySem.W.Frag} {mg : Str → Option Value} {base : Heap}
theorem has_draw {cs : Nat → Addr} (T : Top K mg cs) : Has P w K mg base 1 "_law_draw" ["_law_tape", "_law_many"] spDraw := by
  refine has_of T.d__law_draw sc__law_draw bd__law_draw (fun vs H Q E h => ?_) (fun f cdv A outer s H vs Q E hr h => ?_)
  · obtain ⟨t, c, m, n, rfl, _⟩ := h
    rfl
  · have hu := hu_of hr
    have nd := sc__law_draw.nd
    obtain ⟨t, c, m, n, rfl, ⟨ns, spot, left, tp, hs⟩, hn, hm, hm2, k⟩ := h
    refine ⟨_, (C8.pss_cut (ps_if (pt_cmpR op_lt (pe_dget hu (pv 0) pe_str (fun _ _ => rfl)) (pv 1) (nomark _)) (pss_cons (ps_par (i := 2) (j := 3) (by rfl) nd rfl rfl (by decide) rfl rfl (pa_cons (pe_dget hu (pv 0) pe_str (fun _ _ => rfl)) (pa_cons (pe_callB call_len_seq (by rfl) T.b_len (by decide +kernel) (pa_cons (pe_dget hu (pv 0) pe_str (fun _ _ => rfl)) pa_nil)) pa_nil)) (by rfl))
    (pss_cons (ps_asg (pe_tup (pa_cons (pe_ix ix_list (pe_dget hu (pv 0) pe_str (fun _ _ => rfl)) (pe_op op_mod (pv 2) (pv 3)) (fun _ _ => rfl)) (pa_cons (pe_op op_add (pv 2) pe_int) pa_nil))) (pg_tup (by rfl) (pgs_cons (pg_name (i := 4) nd rfl (.inl rfl)) (pgs_cons (pg_sub (pv 0) pe_str (set_dict hu)) pgs_nil))))
    (pss_cons (ps_dput hu (pv 0) pe_str (pe_op op_mod (pe_op op_pow (pe_op op_add (pe_op op_add (pe_op op_mod (pv 4) pe_int) (pe_op op_mul pe_int (pv 2))) pe_int) pe_int) (pe_op op_add (pe_op op_pow pe_int pe_int) pe_int)) rfl)
    (pss_one (ps_if (PW.pt (pw_and (pt_cmpR op_ge (pv 4) (pe_op op_pow pe_int pe_int) (nomark _)) (pw_and1 (pt_cmpR op_lt (pv 2) (pv 3) (nomark _))))) (pss_one (ps_dput hu (pv 0) pe_str (pe_op op_sub (pv 4) (pe_op op_pow pe_int pe_int)) rfl)) pss_nil))))) pss_nil)
    (pss_cons (ps_asg (pe_tup (pa_cons (pe_op op_mod (pe_dget hu (pv 0) pe_str (fun _ _ => rfl)) (pv 1)) (pa_cons (pe_op op_fdivW (pe_dget hu (pv 0) pe_str (fun _ _ => rfl)) (pv 1)) pa_nil))) (pg_tup (by rfl) (pgs_cons (pg_name (i := 5) nd rfl (.inl rfl)) (pgs_cons (pg_sub (pv 0) pe_str (set_dict hu)) pgs_nil))))
    (pss_one (ps_ret (pv 5))))), ?_⟩
    refine ⟨fun σ' H' => ∃ (v2 v3 v4 v5 : Option V) (spot' left' : Int), σ' = [some (.ref t), some (.int m), v2, v3, v4, v5] ∧ TapeC H' t c ns spot' left' ∧ spot' ≤ ((n + 1 : Nat) : Int) ∧ Kp t H H', ?_, ?_⟩
    · refine ⟨_, rfl, t, _, rfl, dg_left tp.d, _, rfl, _, _, rfl, rfl, _, rfl, ite2 (fun _ => ?_) (fun _ => ?_)⟩
      · obtain ⟨x, hx⟩ := cell_at tp.ne tp.s0
        refine ⟨_, rfl, t, _, rfl, dg_spot tp.d, _, rfl, t, _, rfl, dg_cells tp.d, c, _, rfl, .inl (SqL.of tp.l), _, _, rfl, ?_⟩
        refine ⟨_, rfl, t, _, rfl, dg_cells tp.d, _, rfl, _, rfl, _, _, rfl, rfl, ?_, c, _, _, _, rfl, rfl, SqL.of tp.l, hx, _, rfl, _, _, rfl, rfl, by show 2 ≤ sizeLine; decide, fun p hp => ?_⟩
        · show (0 : Int) < ((ns.map V.int).length : Int)
          rw [List.length_map]
          have := tp.ne
          omega
        have h1 : (upd H p (.tup [.int x, .int (spot + 1)])) t = some (.dK (tk c spot left)) := by
          rw [upd_ne (ne_of_none tp.d hp)]
          exact tp.d
        refine ⟨p, _, rfl, SqT.of upd_same, rfl, _, _, rfl, _, _, rfl, _, rfl, t, _, rfl, dp_spot _ h1, rfl, ?_⟩
        have c1 : (upd (upd H p (.tup [.int x, .int (spot + 1)])) t (.dK (tk c (spot + 1) left))) c = some (.lst (ns.map V.int)) := by
          rw [upd_ne (show c ≠ t from ne_of tp.l tp.d (by intro z; cases z)), upd_ne (ne_of_none tp.l hp)]
          exact tp.l
        refine ⟨_, rfl, _, _, rfl, rfl, by show (0 : Int) < 2147483647; decide, _, rfl, _, _, rfl, rfl, .inl ⟨by decide, by decide⟩, _, _, rfl, rfl, _, _, rfl, rfl, _, _, rfl, rfl, pow_ok tp.s0 hs hn, _, _, rfl, rfl, ⟨by decide, by decide, by decide⟩, _, _, rfl, rfl, _, _, rfl, rfl, ?_, _, rfl, t, _, rfl, dp_left _ upd_same, ?_⟩
        · show (0 : Int) < 10 ^ (50 : Int).toNat + 151
          decide
        have kp : ∀ z, Kp t H (upd (upd (upd H p (.tup [.int x, .int (spot + 1)])) t (.dK (tk c (spot + 1) left))) t (.dK (tk c (spot + 1) z))) := fun z => ((Kp.new hp).trans Kp.at).trans Kp.at
        have tq : ∀ z, 0 ≤ z → TapeC (upd (upd (upd H p (.tup [.int x, .int (spot + 1)])) t (.dK (tk c (spot + 1) left))) t (.dK (tk c (spot + 1) z))) t c ns (spot + 1) z := fun z hz =>
          ⟨upd_same, by rw [upd_ne (show c ≠ t from ne_of tp.l tp.d (by intro z; cases z))]; exact c1, tp.ne, tp.lt, by have := tp.s0; omega, hz⟩
        have h0 : ∀ a : Int, 0 ≤ a % (10 ^ (50 : Int).toNat + 151) := fun a => Int.emod_nonneg _ (by decide)
        refine ⟨_, rfl, _, _, rfl, rfl, ⟨by decide, by decide, by decide⟩, _, _, rfl, rfl, _, rfl, ite2 (fun hc => ?_) (fun _ => iteF ?_)⟩
        · refine ⟨_, rfl, _, rfl, _, _, rfl, rfl, _, rfl, ite2 (fun _ => ?_) (fun _ => ?_)⟩
          · refine ⟨_, rfl, _, _, rfl, rfl, ⟨by decide, by decide, by decide⟩, _, _, rfl, rfl, _, rfl, t, _, rfl, dp_left _ upd_same, ?_⟩
            have hz : (10 : Int) ^ (18 : Int).toNat ≤ x := of_decide_eq_true hc
            exact ⟨_, _, _, _, spot + 1, x - 10 ^ (18 : Int).toNat, rfl, ⟨upd_same, by rw [upd_ne (show c ≠ t from ne_of tp.l tp.d (by intro z; cases z))]; exact (tq _ (h0 _)).l, tp.ne, tp.lt, by have := tp.s0; omega, by omega⟩, by omega, (kp _).trans Kp.at⟩
          · exact ⟨_, _, _, _, _, _, rfl, tq _ (h0 _), by omega, kp _⟩
        · exact ⟨_, _, _, _, _, _, rfl, tq _ (h0 _), by omega, kp _⟩
      · exact ⟨_, _, _, _, _, _, rfl, tp, by omega, Kp.refl _⟩
    · rintro σ' H' ⟨v2, v3, v4, v5, spot', left', rfl, tp', hs', kp⟩
      refine ⟨_, rfl, t, _, rfl, dg_left tp'.d, _, rfl, _, _, rfl, rfl, hm, _, rfl, t, _, rfl, dg_left tp'.d, _, rfl, _, _, rfl, rfl, ⟨hm, ?_⟩, by show 2 ≤ sizeLine; decide, fun p hp => ?_⟩
      · exact log2_small hm hm2
      have h1 : ∀ o, (upd H' p o) t = some (.dK (tk c spot' left')) := fun o => by
          rw [upd_ne (ne_of_none tp'.d hp)]
          exact tp'.d
      refine ⟨p, _, rfl, SqT.of upd_same, rfl, _, _, rfl, _, _, rfl, _, rfl, t, _, rfl, dp_left _ (h1 _), rfl, ?_⟩
      refine ⟨_, rfl, k _ _ (Int.emod_nonneg _ (by omega)) (Int.emod_lt_of_pos _ hm) ?_ ?_⟩
      · exact ⟨ns, spot', _, ⟨upd_same, by rw [upd_ne (show c ≠ t from ne_of tp'.l tp'.d (by intro z; cases z)), upd_ne (ne_of_none tp'.l hp)]; exact tp'.l, tp'.ne, tp'.lt, tp'.s0, Int.ediv_nonneg tp'.l0 (by omega)⟩, hs'⟩
      · exact (kp.trans (Kp.new hp)).trans Kp.at
/-- a pick from a list or a tuple -/
def spPick (K : PySem.W.Frag) : Sp := fun vs H Q _ => ∃ (t c a : Addr) (xs : List V) (n : Nat), vs = [.ref t, .ref a] ∧ Tape H t c n ∧ n < 2 ^ 40 ∧ (∀ H', Kp t H H' → SqL K H' a xs ∨ SqT K H' a xs) ∧ 0 < xs.length ∧ xs.length ≤ 1000000 ∧
  ∀ (H' : Hp) (i : Nat) (v : V), xs[i]? = some v → Tape H' t c (n + 1) → Kp t H H' → Q v H'
theorem has_pick {cs : Nat → Addr} (T : Top K mg cs) (h__law_draw : Has P w K mg base 1 "_law_draw" ["_law_tape", "_law_many"] spDraw) : Has P w K mg base 2 "_law_pick" ["_law_tape", "_law_some"] (spPick K) := by
  refine has_of T.d__law_pick sc__law_pick bd__law_pick (fun vs H Q E h => ?_) (fun f cdv A outer s H vs Q E hr h => ?_)
  · obtain ⟨t, c, a, xs, n, rfl, _⟩ := h
    rfl
  · have hu := hu_of hr
    have nd := sc__law_pick.nd
    obtain ⟨t, c, a, xs, n, rfl, tp, hn, hs, h0, h1, k⟩ := h
    refine ⟨_, (pss_one (ps_ret (pe_ix ix_seq (pv 1) (pe_has h__law_draw (hr.mono (by omega)) (by rfl) (pa_cons (pv 0) (pa_cons (pe_callB call_len_seq (by rfl) T.b_len (by decide +kernel) (pa_cons (pv 1) pa_nil)) pa_nil))) (fun _ _ => rfl)))), ?_⟩
    refine ⟨_, rfl, _, rfl, _, rfl, a, xs, rfl, hs H (Kp.refl _), t, c, _, n, rfl, tp, hn, by omega, ?_, fun H' r r0 r1 tp' kp => ?_⟩
    · exact Int.lt_of_le_of_lt (Int.ofNat_le.mpr h1) (by decide +kernel)
    have hi : r.toNat < xs.length := by omega
    have g : xs[r.toNat]? = some xs[r.toNat] := List.getElem?_eq_getElem hi
    rcases hs H' kp with z | z
    · exact .inl ⟨a, xs, r, _, rfl, rfl, z, at_of (by omega) g, k H' _ _ g tp' kp⟩
    · exact .inr (.inl ⟨a, xs, r, _, rfl, rfl, z, at_of (by omega) g, k H' _ _ g tp' kp⟩)
/-- the tape's beginning -/
def spBegun (K : PySem.W.Frag) : Sp := fun vs H Q _ => ∃ (a : Addr) (ns : List Int), vs = [.ref a] ∧ SqL K H a (ns.map V.int) ∧ ns.length ≤ 63 ∧
  ∀ (H' : Hp) (t c : Addr), H t = none → H c = none → Same H H' → Tape H' t c 0 → Q (.ref t) H'
theorem has_begun {cs : Nat → Addr} (T : Top K mg cs) : Has P w K mg base 1 "_law_begun" ["_law_script"] (spBegun K) := by
  refine has_of T.d__law_begun sc__law_begun bd__law_begun (fun vs H Q E h => ?_) (fun f cdv A outer s H vs Q E hr h => ?_)
  · obtain ⟨a, ns, rfl, _⟩ := h
    rfl
  · have hu := hu_of hr
    have nd := sc__law_begun.nd
    obtain ⟨a, ns, rfl, hS, hl, k⟩ := h
    refine ⟨_, (pss_one (ps_ret (pe_disp (pps_cons pe_str (pe_orT (pe_slice sl_list (pv 0) po_none (po_some pe_int)) (pe_one (pe_lst (pa_cons pe_int pa_nil)))) (pps_cons pe_str pe_int (pps_cons pe_str pe_int pps_nil))) (by rfl) (by rfl) (fun z => by cases z) (by decide)))), ?_⟩
    intro t ht
    have s1 := same_new (o := .dK []) ht
    refine ⟨_, rfl, 63, rfl, a, _, rfl, s1.seq hS, fun q hq => ?_⟩
    have ec : cutV (ns.map V.int) none (some 63) = ns.map V.int := by
      unfold cutV
      rw [HT.sIx_none, show HT.sIx (ns.map V.int).length (ns.map V.int).length (some 63) = min 63 (ns.map V.int).length from HT.sIx_nat _ _ 63, List.drop_zero, List.length_map]
      refine List.take_of_length_le ?_
      rw [List.length_map]
      omega
    rw [ec]
    have nqt : q ≠ t := fun e => by
      rw [e, upd_same] at hq
      cases hq
    have nq : H q = none := by
      rw [← hq, upd_ne nqt]
    cases hns : ns with
    | cons z zs =>
      refine ⟨true, .inl ⟨_, SqL.of upd_same, rfl⟩, iteT ?_⟩
      refine ⟨by rw [upd_ne nqt.symm]; exact upd_same, tk q 0 0, rfl, by show 3 ≤ 15; decide, ?_⟩
      refine k _ t q ht nq (fun b o e => ?_) ⟨z :: zs, 0, 0, ⟨upd_same, by rw [upd_ne nqt]; exact upd_same, by rw [List.length_cons]; omega, by rw [← hns]; exact hl, by decide, by decide⟩, by decide⟩
      rw [upd_ne (ne_of_none e ht), upd_ne (ne_of_none e nq), upd_ne (ne_of_none e ht)]
      exact e
    | nil =>
      refine ⟨false, .inl ⟨_, SqL.of upd_same, rfl⟩, iteF ?_⟩
      refine ⟨by show 1 ≤ sizeLine; decide, fun p hp => ?_⟩
      have npq : p ≠ q := fun e => by
        rw [e, upd_same] at hp
        cases hp
      have npt : p ≠ t := fun e => by
        rw [e, upd_ne nqt.symm, upd_same] at hp
        cases hp
      have np : H p = none := by
        rw [← hp, upd_ne npq, upd_ne npt]
      refine ⟨by rw [upd_ne npt.symm, upd_ne nqt.symm]; exact upd_same, tk p 0 0, rfl, by show 3 ≤ 15; decide, ?_⟩
      refine k _ t p ht np (fun b o e => ?_) ⟨[0], 0, 0, ⟨upd_same, by rw [upd_ne npt]; exact upd_same, by decide, by decide, by decide, by decide⟩, by decide⟩
      rw [upd_ne (ne_of_none e ht), upd_ne (ne_of_none e np), upd_ne (ne_of_none e nq), upd_ne (ne_of_none e ht)]
      exact e
end

/-! ### steps by clauses, as plain functions -/
def tru (on : List Int) : List (Key × V) := on.map fun k => ((Sum.inl k : Key), V.bl true)
def ins (on : List Int) (k : Int) : List Int := if k ∈ on then on else on ++ [k]
theorem tru_val (on : List Int) (k : Int) : valV (tru on) (Sum.inl k : Key) = if k ∈ on then some (V.bl true) else none := by
  induction on with
  | nil => rfl
  | cons a r ih =>
    show valV (((Sum.inl a : Key), V.bl true) :: tru r) (Sum.inl k : Key) = _
    by_cases h : a = k
    · rw [valV_pos (by rw [h]), if_pos (by rw [h]; exact List.mem_cons_self)]
    · rw [valV_neg (fun e => h (Sum.inl.inj e)), ih]
      by_cases hm : k ∈ r
      · rw [if_pos hm, if_pos (List.mem_cons_of_mem _ hm)]
      · rw [if_neg hm, if_neg]
        intro z
        rcases List.mem_cons.mp z with e | e
        · exact h e.symm
        · exact hm e
theorem tru_some (on : List Int) (k : Int) : (valV (tru on) (Sum.inl k : Key)).isSome = decide (k ∈ on) := by
  rw [tru_val]
  by_cases h : k ∈ on
  · rw [if_pos h, decide_eq_true h]
    rfl
  · rw [if_neg h, decide_eq_false h]
    rfl
theorem tru_put (on : List Int) (k : Int) : putK (tru on) (Sum.inl k : Key) (V.bl true) = tru (ins on k) := by
  unfold ins
  by_cases h : k ∈ on
  · rw [if_pos h]
    unfold putK
    rw [if_pos (by rw [valV_any, tru_some, decide_eq_true h])]
    unfold tru
    rw [List.map_map]
    refine List.map_congr_left fun a ha => ?_
    show (if ((Sum.inl a : Key), V.bl true).1 = Sum.inl k then _ else _) = _
    by_cases e : (Sum.inl a : Key) = Sum.inl k
    · rw [if_pos e]
    · rw [if_neg e]
  · rw [if_neg h, putK_new _ (by rw [tru_val, if_neg h])]
    unfold tru
    rw [List.map_append]
    rfl
theorem tru_merge : ∀ (b a : List Int), mergeK (tru a) (tru b) = tru (b.foldl ins a)
  | [], a => rfl
  | k :: r, a => by
    show mergeK (putK (tru a) (Sum.inl k : Key) (V.bl true)) (tru r) = _
    rw [tru_put, tru_merge r]
    rfl
theorem ins_len (on : List Int) (k : Int) : (ins on k).length ≤ on.length + 1 := by
  unfold ins
  split
  · omega
  · rw [List.length_append]
    exact Nat.le_refl _
theorem fold_len : ∀ (b a : List Int), (b.foldl ins a).length ≤ a.length + b.length
  | [], a => Nat.le_refl _
  | k :: r, a => by
    have h := fold_len r (ins a k)
    have h2 := ins_len a k
    show (r.foldl ins (ins a k)).length ≤ a.length + (r.length + 1)
    omega
/-- the marks of a clause that aren't off -/
def left (on c : List Int) : List Int := c.filter fun m => !decide (-m ∈ on)
/-- the clause of a number -/
def clAt (cs : List (List Int)) (r : Int) : Option (List Int) := if 0 ≤ r ∧ r < cs.length then cs[r.toNat]? else none
def step (cs : List (List Int)) (on : List Int) (r : Int) : Option (List Int) :=
  match clAt cs r with
  | none => none
  | some c => match left on c with
    | [x] => if x ∈ on then none else some (ins on x)
    | _ => none
def bring (cs : List (List Int)) : List Int → List Int → Option (List Int)
  | [], on => some on
  | r :: rs, on => match step cs on r with
    | none => none
    | some on' => bring cs rs on'
def broken (cs : List (List Int)) (on : List Int) (r : Int) : Bool :=
  match clAt cs r with
  | none => false
  | some c => (left on c).isEmpty
/-- what the program tells -/
def shownP (cs : List (List Int)) (ps rs : List Int) : Option Int → Bool
  | none => match rs.getLast? with
    | none => false
    | some r => match bring cs rs.dropLast (ps.foldl ins []) with
      | none => false
      | some on => broken cs on r
  | some m => match bring cs rs (ps.foldl ins []) with
    | none => false
    | some on => decide (m ∈ on)
/-- the law's own walk -/
def stepL (cs : List (List Int)) (on : List Int) (r : Int) : Option (List Int × Bool) :=
  match clAt cs r with
  | none => none
  | some c => if (left on c).length > 1 ∨ ((left on c).filter fun m => decide (m ∈ on)) ≠ [] then none else some ((left on c).foldl ins on, (left on c).isEmpty)
def walkL (cs : List (List Int)) : List Int → List Int → Bool → Option (List Int × Bool)
  | [], on, e => some (on, e)
  | r :: rs, on, e => if e = true then none else match stepL cs on r with
    | none => none
    | some (on', e') => walkL cs rs on' e'
def shownL (cs : List (List Int)) (ps rs : List Int) (m : Option Int) : Bool :=
  match walkL cs rs (ps.foldl ins []) false with
  | none => false
  | some (on, e) => match m with
    | none => e
    | some k => !e && decide (k ∈ on)
theorem stepL_of (cs : List (List Int)) (on : List Int) (r : Int) : stepL cs on r = match step cs on r with
    | some on' => some (on', false)
    | none => if broken cs on r = true then some (on, true) else none := by
  unfold stepL step broken
  cases clAt cs r with
  | none => rfl
  | some c =>
    show (if (left on c).length > 1 ∨ ((left on c).filter fun m => decide (m ∈ on)) ≠ [] then none else some ((left on c).foldl ins on, (left on c).isEmpty)) = match (match left on c with | [x] => if x ∈ on then none else some (ins on x) | _ => none) with
      | some on' => some (on', false)
      | none => if (left on c).isEmpty = true then some (on, true) else none
    cases left on c with
    | nil => simp
    | cons x r =>
      cases r with
      | nil =>
        by_cases h : x ∈ on
        · simp [h]
        · simp [h, ins]
      | cons y r => simp
theorem walk_ended (cs : List (List Int)) (rs on : List Int) : walkL cs rs on true = if rs = [] then some (on, true) else none := by
  cases rs with
  | nil => rfl
  | cons r rs => simp [walkL]
theorem walk_mark (cs : List (List Int)) (k : Int) : ∀ (rs on : List Int), (match walkL cs rs on false with
    | none => false
    | some (o, e) => !e && decide (k ∈ o)) = match bring cs rs on with
    | none => false
    | some o => decide (k ∈ o)
  | [], on => rfl
  | r :: rs, on => by
    simp only [walkL, bring]
    rw [if_neg Bool.false_ne_true, stepL_of]
    cases step cs on r with
    | some on' => exact walk_mark cs k rs on'
    | none =>
      by_cases hb : broken cs on r = true
      · simp only [hb, if_true]
        rw [walk_ended]
        cases rs with
        | nil => rfl
        | cons a b => rfl
      · simp only [hb]
        rfl
theorem walk_none (cs : List (List Int)) : ∀ (rs on : List Int), (match walkL cs rs on false with
    | none => false
    | some (_, e) => e) = match rs.getLast? with
    | none => false
    | some r => match bring cs rs.dropLast on with
      | none => false
      | some o => broken cs o r
  | [], on => rfl
  | [r], on => by
    simp only [walkL, bring, List.getLast?_singleton, List.dropLast_singleton]
    rw [if_neg Bool.false_ne_true, stepL_of]
    cases hs : step cs on r with
    | some on' =>
      have nb : broken cs on r = false := by
        unfold step at hs
        unfold broken
        cases hc : clAt cs r with
        | none => rfl
        | some c =>
          rw [hc] at hs
          simp only at hs ⊢
          cases hl : left on c with
          | nil =>
            rw [hl] at hs
            cases hs
          | cons x y => rfl
      rw [nb]
    | none =>
      by_cases hb : broken cs on r = true
      · simp only [hb, if_true]
      · simp only [hb]
        simp
  | r :: r2 :: rs, on => by
    have e1 : (r :: r2 :: rs).getLast? = (r2 :: rs).getLast? := by rw [List.getLast?_cons_cons]
    have e2 : (r :: r2 :: rs).dropLast = r :: (r2 :: rs).dropLast := rfl
    rw [e1, e2]
    simp only [bring]
    rw [show walkL cs (r :: r2 :: rs) on false = match stepL cs on r with | none => none | some (on', e') => walkL cs (r2 :: rs) on' e' by
      show (if false = true then none else _) = _
      rw [if_neg Bool.false_ne_true]]
    rw [stepL_of]
    cases step cs on r with
    | some on' => exact walk_none cs (r2 :: rs) on'
    | none =>
      have z : (match (r2 :: rs).getLast? with | none => false | some r => false) = false := by
        cases (r2 :: rs).getLast? <;> rfl
      by_cases hb : broken cs on r = true
      · simp only [hb, if_true]
        rw [walk_ended]
        simp only [reduceCtorEq, if_false]
        exact z.symm
      · simp only [hb]
        exact z.symm
theorem shown_eq (cs : List (List Int)) (ps rs : List Int) (m : Option Int) : shownL cs ps rs m = shownP cs ps rs m := by
  unfold shownL shownP
  cases m with
  | none => exact walk_none cs rs _
  | some k => exact walk_mark cs k rs _

/-! ### clauses as they stand in the heap -/
structure Cs (H : Hp) (a : Addr) (qs : List Addr) (cs : List (List Int)) : Prop where
  l : H a = some (.lst (qs.map V.ref))
  n : qs.length = cs.length
  t : ∀ (i : Nat) q c, qs[i]? = some q → cs[i]? = some c → H q = some (.tup (c.map V.int))
theorem Cs.same {H H' : Hp} {a : Addr} {qs : List Addr} {cs : List (List Int)} (h : Cs H a qs cs) (s : Same H H') : Cs H' a qs cs := ⟨s _ _ h.l, h.n, fun i q c hq hc => s _ _ (h.t i q c hq hc)⟩
theorem Cs.kp {H H' : Hp} {a d : Addr} {qs : List Addr} {cs : List (List Int)} {kvs : List (Key × V)} (h : Cs H a qs cs) (hd : H d = some (.dK kvs)) (k : Kp d H H') : Cs H' a qs cs :=
  ⟨k _ _ h.l (ne_of h.l hd (by intro z; cases z)), h.n, fun i q c hq hc => k _ _ (h.t i q c hq hc) (ne_of (h.t i q c hq hc) hd (by intro z; cases z))⟩
theorem clAt_some {cs : List (List Int)} {r : Int} {c : List Int} (h : clAt cs r = some c) : 0 ≤ r ∧ r < cs.length ∧ cs[r.toNat]? = some c := by
  unfold clAt at h
  split at h
  · rename_i e
    exact ⟨e.1, e.2, h⟩
  · cases h
theorem clAt_in {cs : List (List Int)} {r : Int} (h0 : 0 ≤ r) (h1 : r < cs.length) : ∃ c, clAt cs r = some c := by
  unfold clAt
  rw [if_pos ⟨h0, h1⟩]
  exact ⟨_, List.getElem?_eq_getElem (by omega)⟩
theorem Cs.at {H : Hp} {a : Addr} {qs : List Addr} {cs : List (List Int)} (h : Cs H a qs cs) {r : Int} {c : List Int} (hc : clAt cs r = some c) : ∃ q, atI (qs.map V.ref) r = some (.ref q) ∧ H q = some (.tup (c.map V.int)) := by
  obtain ⟨h0, h1, h2⟩ := clAt_some hc
  have hn := h.n
  have l : r.toNat < qs.length := by omega
  refine ⟨qs[r.toNat], at_of (j := r.toNat) (by omega) ?_, h.t _ _ _ (List.getElem?_eq_getElem l) h2⟩
  rw [List.getElem?_map, List.getElem?_eq_getElem l]
  rfl
theorem len_zero (l : List Int) : decide (V.int ((l.map V.int).length : Nat) = V.int 0) = l.isEmpty := by
  cases l with
  | nil => rfl
  | cons y r =>
    refine decide_eq_false fun z => ?_
    have z2 := V.int.inj z
    rw [List.length_map, List.length_cons] at z2
    omega
theorem drop_at {α : Type} {xs : List α} {i : Nat} {x : α} (h : xs[i]? = some x) : xs.drop i = x :: xs.drop (i + 1) := by
  obtain ⟨l, e⟩ := List.getElem?_eq_some_iff.mp h
  rw [List.drop_eq_getElem_cons l, e]
theorem int_at {rs : List Int} {i : Nat} {x : V} (h : (rs.map V.int)[i]? = some x) : ∃ r, x = .int r ∧ rs[i]? = some r := by
  rw [List.getElem?_map] at h
  cases e : rs[i]? with
  | none =>
    rw [e] at h
    cases h
  | some r =>
    rw [e] at h
    exact ⟨r, (Option.some.inj h).symm, rfl⟩

/-! ### small things -/
theorem pick_int {zs : List Int} {i : Nat} {v : V} (h : (zs.map V.int)[i]? = some v) : ∃ z, v = .int z ∧ z ∈ zs := by
  obtain ⟨r, e, hr⟩ := int_at h
  exact ⟨r, e, List.mem_of_getElem? hr⟩
theorem seq_in {n : Nat} {i : Int} (h0 : 0 ≤ i) (h1 : i < n) : seqIndex? i n = some i.toNat := by
  have e : ixN n i = some i.toNat := by
    unfold ixN
    rw [if_pos h0, if_pos h1]
  exact (ixN_seq e).1
theorem pow8000 {x : Int} (h : x ≤ 1000000) : x < 2 ^ 8000 := Int.lt_of_le_of_lt h (by decide +kernel)
theorem Tape.sq {H : Hp} {t c p : Addr} {n : Nat} {xs : List V} (h : Tape H t c n) (e : H p = some (.lst xs)) {H' : Hp} (k : Kp t H H') : H' p = some (.lst xs) := k p _ e (by
  obtain ⟨ns, spot, left, tc, _⟩ := h
  exact ne_of e tc.d (by intro z; cases z))
theorem Tape.ne_lst' {H : Hp} {t c p : Addr} {n : Nat} {xs : List V} (h : Tape H t c n) (e : H p = some (.lst xs)) : p ≠ t := by
  obtain ⟨ns, spot, left, tc, _⟩ := h
  exact ne_of e tc.d (by intro z; cases z)
theorem getElem_snoc {α : Type} {xs : List α} {x y : α} {i : Nat} (h : (xs ++ [x])[i]? = some y) : (i < xs.length ∧ xs[i]? = some y) ∨ (i = xs.length ∧ x = y) := by
  by_cases c : i < xs.length
  · rw [List.getElem?_append_left c] at h
    exact .inl ⟨c, h⟩
  · rw [List.getElem?_append_right (by omega)] at h
    have l := (List.getElem?_eq_some_iff.mp h).1
    simp only [List.length_cons, List.length_nil] at l
    have e : i - xs.length = 0 := by omega
    rw [e] at h
    exact .inr ⟨by omega, Option.some.inj h⟩
theorem same_mut {H H' : Hp} {D : Addr} {o : HO} (s : Same H H') (h : H D = none) : Same H (upd H' D o) := fun b u e => by
  rw [upd_ne (ne_of_none e h)]
  exact s b u e
theorem take_snoc {xs : List Int} {i : Nat} {x : Int} (h : xs[i]? = some x) : xs.take (i + 1) = xs.take i ++ [x] := by
  rw [List.take_add_one, h]
  rfl

/-! ### sorted(xs, key=abs), xs of whole numbers, any length -/
def byAbs (ns : List Int) : List Int := ns.mergeSort fun a b => decide ((if a < 0 then -a else a) ≤ (if b < 0 then -b else b))
def tSortAbs (K : PySem.W.Frag) (t : TA) : TE := fun σ H Q => t σ H fun vs H1 => ∃ (a : Addr) (ns : List Int), vs = [.ref a] ∧ SqL K H1 a (ns.map V.int) ∧ ∀ p, H1 p = none → Q (.ref p) (upd H1 p (.lst ((byAbs ns).map V.int)))
theorem each_ints : ∀ {vs : List Value} {ns : List Int}, IntsAre vs ns → PySem.W.EachIs (fun v (n : Int) => ∃ t, v = Value.int n t) vs ns
  | _, _, .nil => .nil
  | _, _, .cons _ u t => .cons ⟨u, rfl⟩ (each_ints t)
theorem vals_each : ∀ {vs : List Value} {ns : List Int}, PySem.W.EachIs (fun v (n : Int) => ∃ t, v = Value.int n t) vs ns → Vals (ns.map V.int) vs
  | _, _, .nil => .nil
  | _, _, .cons h t => .cons h (vals_each t)
section
variable {X : Cx}
theorem pe_sortAbs {e : Expr} {t : TA} {p p2 kpos pos : Pos} (hu : X.A.units + 64 < cLine) (hg : Gl X "sorted") (hm : X.mg "sorted" = none) (ha : Gl X "abs") (hma : X.mg "abs" = none) (he : PA X [e] t)
    (h1 : backTo pos (starEach [e] X.env) = (false, eval e X.env) :: backTo pos (starEach [] X.env) := by rfl) (hpl : (backTo pos (starEach [e] X.env)).any (·.1) = false := by rfl)
    (hall : (backToKw pos (keywordEach [⟨some "key", .Name "abs" p2, kpos⟩] X.env)).all (·.1.isSome) = true := by rfl) (hnone : (backToKw pos (keywordEach [⟨some "key", .Name "abs" p2, kpos⟩] X.env)).any (·.1.isNone) = false := by rfl)
    (hks : (backToKw pos (keywordEach [⟨some "key", .Name "abs" p2, kpos⟩] X.env)).filterMap (·.1) = [Str.ofString "key"] := by rfl) :
    PE X (.Call (.Name "sorted" p) [e] [⟨some "key", .Name "abs" p2, kpos⟩] pos) (tSortAbs X.K t) := by
  refine ⟨fun pins s σ H Q I h => ?_⟩
  refine wpAny_Call_Name_kw (ld_blt I hg hm (u := .builtin "sorted") (by decide +kernel) ?_ (by decide) (by decide))
  refine PyProof.Rows.callWith_kw (thn (he.run pos pins s σ H _ I h) fun us s1 ⟨vs, H1, I1, r1, q1⟩ => ?_) h1 hpl hall hnone
  obtain ⟨a, ns, ev, hs, q⟩ := q1
  rw [hks]
  show wpAny _ _ (evalAll ((do let v ← eval (.Name "abs" p2) X.env; standAt pos; pure v) :: [])) _ _ s1
  refine wpAny_evalAll_cons (wpAny_bind (ld_blt I1 ha hma (u := .builtin "abs") (by decide +kernel) (wpAny_bind (wpAny_standAt (wpAny_pure ?_))) (by decide) (by decide)))
  refine wpAny_evalAll_nil ?_
  subst ev
  obtain rfl := Vals.ref1 r1
  obtain ⟨its, rv, hl, hz⟩ := I1.list hs
  rw [List.length_map] at hz
  refine PySem.W.sorted_key_data (b := false) (bs := ns) (R := fun v (n : Int) => ∃ t, v = Value.int n t) (fun z => PyData.int (if z < 0 then -z else z)) hl.isList (each_ints rv.ints) (PySem.W.AllAlike.of fun _ _ => by simp [PySem.W.alike])
    (PySem.W.Sortable.others fun _ => ⟨by simp, by simp⟩) hz (fun x _ => ?_) (ksk_s1 _ _) (fun _ => ksk_l1 _ _) (fun a => ksk_t4 "abs" a) (fun v x hv hx h' tk hk => ?_) fun out c h' tk hk fr hD _ eo => ?_
  · have e0 : (PyData.int (if x < 0 then -x else x)).depth = 0 := rfl
    rw [e0]
    omega
  · obtain ⟨t', rfl⟩ := hv
    exact call_abs_int fun u tk' => ⟨h', tk', rfl, fun _ _ e => e, .int _ _⟩
  · rw [PySem.W.dataLe_int] at eo
    have rv2 : Vals ((byAbs ns).map V.int) out := vals_each eo
    have hlen : ((byAbs ns).map V.int).length ≤ sizeLine := by
      rw [List.length_map]
      unfold byAbs
      rw [List.length_mergeSort]
      exact hz
    exact ⟨.ref _, upd H1 (s1.heap.objs.size + 1) (.lst ((byAbs ns).map V.int)), I1.laid (t' := tk) hk (Nat.le_succ _) ⟨hlen, _, c, rv2, hD⟩, rfl, q _ (I1.hok.fresh (Nat.le_succ _))⟩
end

/-! ### what follows at once, as plain functions and sets -/
theorem mem_left {tr c : List Int} {x : Int} : x ∈ left tr c ↔ x ∈ c ∧ -x ∉ tr := by
  unfold left
  rw [List.mem_filter]
  simp
def offC (tr c : List Int) : Int := ((c.filter fun m => decide (-m ∈ tr)).length : Int)
theorem off_left (tr : List Int) : ∀ c : List Int, offC tr c + ((left tr c).length : Int) = (c.length : Int)
  | [] => rfl
  | x :: r => by
    have ih := off_left tr r
    unfold offC left at ih ⊢
    by_cases h : -x ∈ tr
    · rw [List.filter_cons_of_pos (by simp [h]), List.filter_cons_of_neg (by simp [h]), List.length_cons, List.length_cons]
      omega
    · rw [List.filter_cons_of_neg (by simp [h]), List.filter_cons_of_pos (by simp [h]), List.length_cons, List.length_cons]
      omega
theorem left_snoc (tr c : List Int) (m : Int) : left (tr ++ [m]) c = (left tr c).filter fun x => decide (x ≠ -m) := by
  unfold left
  rw [List.filter_filter]
  refine List.filter_congr fun x _ => ?_
  by_cases h1 : -x ∈ tr
  · simp [h1]
  · by_cases h2 : x = -m
    · simp [h1, h2]
    · have h3 : -x ≠ m := fun e => h2 (by omega)
      simp [h1, h2, h3]
def Quiet (tr c : List Int) : Prop := left tr c ≠ [] ∧ ∀ x, left tr c = [x] → x ∈ tr
def Closed (cs : List (List Int)) (tr : List Int) : Prop := ∀ c ∈ cs, Quiet tr c
theorem quiet_big {tr c : List Int} (h : 2 ≤ (left tr c).length) : Quiet tr c := by
  refine ⟨fun e => ?_, fun x e => ?_⟩
  · rw [e] at h
    exact absurd h (by decide)
  · rw [e] at h
    exact absurd h (by simp)
theorem left_other {tr c : List Int} {m : Int} (h : -m ∉ c) : left (tr ++ [m]) c = left tr c := by
  rw [left_snoc]
  refine List.filter_eq_self.mpr fun x hx => ?_
  have hc := (mem_left.mp hx).1
  exact decide_eq_true fun e => h (e ▸ hc)
theorem quiet_other {tr c : List Int} {m : Int} (h : -m ∉ c) (q : Quiet tr c) : Quiet (tr ++ [m]) c := by
  unfold Quiet
  rw [left_other h]
  exact ⟨q.1, fun x e => List.mem_append_left _ (q.2 x e)⟩
theorem len_drop_one {l : List Int} {y : Int} (hn : l.Nodup) (hy : y ∈ l) : (l.filter fun x => decide (x ≠ y)).length + 1 = l.length := by
  induction l with
  | nil => cases hy
  | cons a r ih =>
    have hn' := List.nodup_cons.mp hn
    by_cases e : a = y
    · subst e
      rw [List.filter_cons_of_neg (by simp), List.length_cons]
      have : r.filter (fun x => decide (x ≠ a)) = r := List.filter_eq_self.mpr fun x hx => decide_eq_true fun z => hn'.1 (z ▸ hx)
      rw [this]
    · rw [List.filter_cons_of_pos (by simpa using e), List.length_cons, List.length_cons, ih hn'.2 ((List.mem_cons.mp hy).resolve_left fun z => e z.symm)]
theorem left_has {tr c : List Int} {m : Int} (hn : c.Nodup) (hm : m ∉ tr) (h : -m ∈ c) : (left (tr ++ [m]) c).length + 1 = (left tr c).length := by
  rw [left_snoc]
  exact len_drop_one (hn.sublist List.filter_sublist) (mem_left.mpr ⟨h, by rw [Int.neg_neg]; exact hm⟩)
/-- the numbers of the clauses that have a mark -/
def nums (cs : List (List Int)) (x : Int) : List Nat := (List.range cs.length).filter fun i => decide (x ∈ cs.getD i [])
theorem nums_snoc (cs : List (List Int)) (c : List Int) (x : Int) : nums (cs ++ [c]) x = nums cs x ++ (if x ∈ c then [cs.length] else []) := by
  unfold nums
  rw [List.length_append, List.length_singleton, List.range_succ, List.filter_append]
  congr 1
  · refine List.filter_congr fun i hi => ?_
    have hl := List.mem_range.mp hi
    rw [List.getD_eq_getElem?_getD, List.getD_eq_getElem?_getD, List.getElem?_append_left hl]
  · have e : (cs ++ [c]).getD cs.length [] = c := by
      rw [List.getD_eq_getElem?_getD, List.getElem?_append_right (Nat.le_refl _), Nat.sub_self]
      rfl
    by_cases h : x ∈ c
    · rw [if_pos h, List.filter_cons_of_pos (by rw [e]; exact decide_eq_true h)]
      rfl
    · rw [if_neg h, List.filter_cons_of_neg (by rw [e]; simpa using h)]
      rfl
theorem mem_nums {cs : List (List Int)} {x : Int} {i : Nat} : i ∈ nums cs x ↔ ∃ c, cs[i]? = some c ∧ x ∈ c := by
  unfold nums
  rw [List.mem_filter, List.mem_range]
  constructor
  · rintro ⟨h, hx⟩
    refine ⟨cs[i], List.getElem?_eq_getElem h, ?_⟩
    have := of_decide_eq_true hx
    rw [List.getD_eq_getElem?_getD, List.getElem?_eq_getElem h] at this
    exact this
  · rintro ⟨c, h, hx⟩
    have hl := (List.getElem?_eq_some_iff.mp h).1
    refine ⟨hl, decide_eq_true ?_⟩
    rw [List.getD_eq_getElem?_getD, h]
    exact hx
theorem nums_nodup (cs : List (List Int)) (x : Int) : (nums cs x).Nodup := List.nodup_range.sublist List.filter_sublist
def leftSum (cs : List (List Int)) (tr : List Int) : Nat := (cs.map fun c => (left tr c).length).sum
theorem leftSum_cons (c : List Int) (cs : List (List Int)) (tr : List Int) : leftSum (c :: cs) tr = (left tr c).length + leftSum cs tr := by
  unfold leftSum
  rw [List.map_cons, List.sum_cons]
theorem leftSum_append (a b : List (List Int)) (tr : List Int) : leftSum (a ++ b) tr = leftSum a tr + leftSum b tr := by
  unfold leftSum
  rw [List.map_append, List.sum_append]
theorem rev_ind {α : Type} {P : List α → Prop} (h0 : P []) (h1 : ∀ xs x, P xs → P (xs ++ [x])) : ∀ xs, P xs := by
  intro xs
  have h : ∀ ys : List α, P ys.reverse := by
    intro ys
    induction ys with
    | nil => exact h0
    | cons a r ih =>
      rw [List.reverse_cons]
      exact h1 _ _ ih
  have := h xs.reverse
  rw [List.reverse_reverse] at this
  exact this
theorem leftSum_snoc {m : Int} {tr : List Int} (hm : m ∉ tr) : ∀ cs : List (List Int), (∀ c ∈ cs, c.Nodup) → leftSum cs (tr ++ [m]) + (nums cs (-m)).length = leftSum cs tr := by
  refine rev_ind (fun _ => rfl) fun xs c ih hn => ?_
  have ih' := ih fun d hd => hn d (List.mem_append_left _ hd)
  have hc := hn c (List.mem_append_right _ List.mem_cons_self)
  rw [leftSum_append, leftSum_append, nums_snoc, List.length_append]
  have one : ∀ t, leftSum [c] t = (left t c).length := fun t => by
    rw [leftSum_cons]
    rfl
  rw [one, one]
  by_cases h : -m ∈ c
  · rw [if_pos h]
    have := left_has hc hm h
    simp only [List.length_singleton]
    omega
  · rw [if_neg h, left_other h]
    simp only [List.length_nil]
    omega
theorem leftSum_le (cs : List (List Int)) (tr : List Int) : leftSum cs tr ≤ cs.flatten.length := by
  induction cs with
  | nil => exact Nat.le_refl _
  | cons c r ih =>
    rw [leftSum_cons, List.flatten_cons, List.length_append]
    have : (left tr c).length ≤ c.length := List.length_filter_le _ _
    omega
/-! ### derived marks -/
inductive Der (cs : List (List Int)) (ps : List Int) : Int → Prop
  | put {m : Int} : m ∈ ps → Der cs ps m
  | cl {m : Int} {c : List Int} : c ∈ cs → m ∈ c → (∀ x ∈ c, x ≠ m → Der cs ps (-x)) → Der cs ps m
def Brk (cs : List (List Int)) (ps : List Int) : Prop := ∃ c ∈ cs, ∀ x ∈ c, Der cs ps (-x)
/-- each mark of a trail came by a row or was put -/
def Just (cs : List (List Int)) (ps tr : List Int) (rw : List (Option Int)) : Prop :=
  ∀ (i : Nat) (m : Int), tr[i]? = some m → (rw[i]? = some none ∧ m ∈ ps) ∨ ∃ (k : Nat) (c : List Int), rw[i]? = some (some (k : Int)) ∧ cs[k]? = some c ∧ m ∈ c ∧ ∀ x ∈ c, x ≠ m → -x ∈ tr.take i
theorem mem_take {α : Type} {l : List α} {i : Nat} {x : α} (h : x ∈ l.take i) : ∃ j, j < i ∧ l[j]? = some x := by
  obtain ⟨j, hj⟩ := List.mem_iff_getElem?.mp h
  rw [List.getElem?_take] at hj
  by_cases c : j < i
  · rw [if_pos c] at hj
    exact ⟨j, c, hj⟩
  · rw [if_neg c] at hj
    cases hj
theorem just_der {cs : List (List Int)} {ps tr : List Int} {rw : List (Option Int)} (h : Just cs ps tr rw) : ∀ (n i : Nat) (m : Int), i < n → tr[i]? = some m → Der cs ps m := by
  intro n
  induction n with
  | zero => intro i m hi; exact absurd hi (Nat.not_lt_zero _)
  | succ n ih =>
    intro i m hi hm
    rcases h i m hm with ⟨_, hp⟩ | ⟨k, c, _, hc, hmc, ho⟩
    · exact .put hp
    · refine .cl (List.mem_of_getElem? hc) hmc fun x hx hne => ?_
      obtain ⟨j, hj, e⟩ := mem_take (ho x hx hne)
      exact ih j (-x) (by omega) e
theorem Just.der {cs : List (List Int)} {ps tr : List Int} {rw : List (Option Int)} (h : Just cs ps tr rw) {m : Int} (hm : m ∈ tr) : Der cs ps m := by
  obtain ⟨i, e⟩ := List.mem_iff_getElem?.mp hm
  exact just_der h (i + 1) i m (Nat.lt_succ_self _) e
theorem der_in {cs : List (List Int)} {ps tr : List Int} (hn : ∀ c ∈ cs, c.Nodup) (hp : ∀ m ∈ ps, m ∈ tr) (hc : Closed cs tr) {m : Int} (h : Der cs ps m) : m ∈ tr := by
  induction h with
  | put h => exact hp _ h
  | @cl m c hm hmc _ ih =>
    have q := hc c hm
    have sub : ∀ x ∈ left tr c, x = m := fun x hx => by
      obtain ⟨h1, h2⟩ := mem_left.mp hx
      by_cases e : x = m
      · exact e
      · exact absurd (ih x h1 e) h2
    have nd : (left tr c).Nodup := (hn c hm).sublist List.filter_sublist
    cases e : left tr c with
    | nil => exact absurd e q.1
    | cons a r =>
      rw [e] at sub nd
      have ha := sub a List.mem_cons_self
      cases r with
      | nil => exact ha ▸ q.2 a e
      | cons b r2 =>
        have hb := sub b (List.mem_cons_of_mem _ List.mem_cons_self)
        exact absurd (List.mem_cons_self : b ∈ b :: r2) ((List.nodup_cons.mp nd).1 |> fun z => by rw [ha, ← hb] at z; exact z)
theorem not_brk {cs : List (List Int)} {ps tr : List Int} (hn : ∀ c ∈ cs, c.Nodup) (hp : ∀ m ∈ ps, m ∈ tr) (hc : Closed cs tr) : ¬ Brk cs ps := by
  rintro ⟨c, hm, h⟩
  refine (hc c hm).1 (List.filter_eq_nil_iff.mpr fun x hx => ?_)
  have := der_in hn hp hc (h x hx)
  simp [this]
theorem Der.more {cs cs' : List (List Int)} {ps ps' : List Int} (hc : ∀ c ∈ cs, c ∈ cs') (hp : ∀ m ∈ ps, m ∈ ps') {m : Int} (h : Der cs ps m) : Der cs' ps' m := by
  induction h with
  | put h => exact .put (hp _ h)
  | cl h1 h2 _ ih => exact .cl (hc _ h1) h2 ih
theorem nodup_le {α : Type} [DecidableEq α] : ∀ {xs ys : List α}, xs.Nodup → (∀ x ∈ xs, x ∈ ys) → xs.length ≤ ys.length
  | [], _, _, _ => Nat.zero_le _
  | a :: r, ys, hn, h => by
    have hn' := List.nodup_cons.mp hn
    have ha := h a List.mem_cons_self
    have l := nodup_le (ys := ys.erase a) hn'.2 fun x hx => (List.mem_erase_of_ne (fun e : x = a => hn'.1 (by rw [← e]; exact hx))).mpr (h x (List.mem_cons_of_mem _ hx))
    rw [List.length_erase_of_mem ha] at l
    have := List.length_pos_of_mem ha
    rw [List.length_cons]
    omega
/-! ### sorted by names -/
def ab (a : Int) : Int := if a < 0 then -a else a
theorem byAbs_perm (ns : List Int) : (byAbs ns).Perm ns := List.mergeSort_perm _ _
theorem byAbs_sorted (ns : List Int) : (byAbs ns).Pairwise fun a b => ab a ≤ ab b := by
  have h := List.pairwise_mergeSort (le := fun a b => decide (ab a ≤ ab b)) (fun a b c h1 h2 => by
    have := of_decide_eq_true h1
    have := of_decide_eq_true h2
    exact decide_eq_true (by omega)) (fun a b => by
    by_cases c : ab a ≤ ab b
    · simp [c]
    · have : ab b ≤ ab a := by omega
      simp [this]) ns
  exact h.imp fun h => of_decide_eq_true h
theorem sorted_one : ∀ {xs ys : List Int}, xs.Perm ys → xs.Pairwise (fun a b => ab a ≤ ab b) → ys.Pairwise (fun a b => ab a ≤ ab b) → (∀ a ∈ xs, ∀ b ∈ xs, ab a = ab b → a = b) → xs = ys
  | [], ys, h, _, _, _ => (List.nil_perm.mp h).symm
  | a :: r, [], h, _, _, _ => absurd h.length_eq (by simp)
  | a :: r, b :: s, h, h1, h2, hi => by
    have p1 := List.pairwise_cons.mp h1
    have p2 := List.pairwise_cons.mp h2
    have ma : a ∈ b :: s := h.mem_iff.mp List.mem_cons_self
    have mb : b ∈ a :: r := h.mem_iff.mpr List.mem_cons_self
    have le1 : ab b ≤ ab a := by
      rcases List.mem_cons.mp ma with e | m
      · rw [e]; exact Int.le_refl _
      · exact p2.1 a m
    have le2 : ab a ≤ ab b := by
      rcases List.mem_cons.mp mb with e | m
      · rw [e]; exact Int.le_refl _
      · exact p1.1 b m
    have e : a = b := hi a List.mem_cons_self b mb (by omega)
    subst e
    rw [sorted_one ((List.perm_cons a).mp h) p1.2 p2.2 fun x hx y hy => hi x (List.mem_cons_of_mem _ hx) y (List.mem_cons_of_mem _ hy)]
theorem perm_of {xs ys : List Int} (hx : xs.Nodup) (hy : ys.Nodup) (h : ∀ x, x ∈ xs ↔ x ∈ ys) : xs.Perm ys := (List.perm_ext_iff_of_nodup hx hy).mpr h
theorem byAbs_eq {xs ys : List Int} (hx : xs.Nodup) (hy : ys.Nodup) (hc : ∀ x ∈ xs, -x ∉ xs) (h : ∀ x, x ∈ xs ↔ x ∈ ys) : byAbs xs = byAbs ys := by
  refine sorted_one (((byAbs_perm xs).trans (perm_of hx hy h)).trans (byAbs_perm ys).symm) (byAbs_sorted xs) (byAbs_sorted ys) fun a ha b hb e => ?_
  have ha' := (byAbs_perm xs).mem_iff.mp ha
  have hb' := (byAbs_perm xs).mem_iff.mp hb
  unfold ab at e
  by_cases c : a = b
  · exact c
  · have : b = -a := by
      split at e <;> split at e <;> omega
    exact absurd (this ▸ hb') (hc a ha')

/-! ### a follower in the heap -/
structure FA where
  f : Addr
  dx : Addr
  cl : Addr
  ofs : Addr
  hv : Addr
  tr : Addr
  pl : Addr
  rw : Addr
  pu : Addr
  ip : Addr
  ah : Addr
def fas (A : FA) : List Addr := [A.f, A.cl, A.ofs, A.hv, A.tr, A.pl, A.rw, A.pu, A.ip, A.ah]
def optI : Option Int → V
  | none => .non
  | some i => .int i
def fl (A : FA) (br : Option Int) : List (Str × V) := [("_clauses", .ref A.cl), ("_offs", .ref A.ofs), ("_having", .ref A.hv), ("_trail", .ref A.tr), ("_place", .ref A.pl), ("_rows", .ref A.rw), ("_puts", .ref A.pu), ("_is_put", .ref A.ip), ("_ahead", .ref A.ah), ("_broken_row", optI br)]
theorem put_br (A : FA) (br b : Option Int) : putF "_broken_row" (optI b) (fl A br) = fl A b := by rfl
/-- the places of a trail's marks -/
def plD (tr : List Int) : List (Key × V) := tr.zipIdx.map fun p => ((Sum.inl p.1 : Key), V.int (p.2 : Nat))
theorem plD_snoc (tr : List Int) (m : Int) : plD (tr ++ [m]) = plD tr ++ [((Sum.inl m : Key), V.int (tr.length : Nat))] := by
  unfold plD
  rw [List.zipIdx_append, List.map_append]
  simp
theorem plD_none {tr : List Int} {m : Int} (h : m ∉ tr) : valV (plD tr) (Sum.inl m : Key) = none := by
  revert h
  refine rev_ind (P := fun tr => m ∉ tr → valV (plD tr) (Sum.inl m : Key) = none) (fun _ => rfl) (fun xs x ih h => ?_) tr
  rw [plD_snoc]
  have hx : x ≠ m := fun e => h (by rw [e]; exact List.mem_append_right _ List.mem_cons_self)
  have ih' := ih fun z => h (List.mem_append_left _ z)
  unfold valV at ih' ⊢
  rw [List.find?_append]
  cases e : (plD xs).find? (fun kv => decide (kv.1 = (Sum.inl m : Key))) with
  | some v => rw [e] at ih'; cases ih'
  | none =>
    simp [List.find?_cons, hx]
theorem plD_some {tr : List Int} (hn : tr.Nodup) {i : Nat} {m : Int} (h : tr[i]? = some m) : valV (plD tr) (Sum.inl m : Key) = some (.int (i : Nat)) := by
  revert hn h
  refine rev_ind (P := fun tr => tr.Nodup → tr[i]? = some m → valV (plD tr) (Sum.inl m : Key) = some (.int (i : Nat))) (fun _ h => by simp at h) (fun xs x ih hn h => ?_) tr
  rw [plD_snoc]
  rcases getElem_snoc h with ⟨hl, e⟩ | ⟨hl, e⟩
  · have ih' := ih (hn.sublist (List.sublist_append_left _ _)) e
    unfold valV at ih' ⊢
    rw [List.find?_append]
    cases e2 : (plD xs).find? (fun kv => decide (kv.1 = (Sum.inl m : Key))) with
    | none => rw [e2] at ih'; cases ih'
    | some v => rw [e2] at ih'; exact ih'
  · subst e hl
    have nx : x ∉ xs := fun z => by
      have := List.nodup_append.mp hn
      exact this.2.2 x z x List.mem_cons_self rfl
    have n := plD_none nx
    unfold valV at n ⊢
    rw [List.find?_append]
    cases e2 : (plD xs).find? (fun kv => decide (kv.1 = (Sum.inl x : Key))) with
    | some v => rw [e2] at n; cases n
    | none => simp
theorem plD_is {tr : List Int} (hn : tr.Nodup) (m : Int) : (valV (plD tr) (Sum.inl m : Key)).isSome = decide (m ∈ tr) := by
  by_cases h : m ∈ tr
  · obtain ⟨i, e⟩ := List.mem_iff_getElem?.mp h
    rw [plD_some hn e, decide_eq_true h]
    rfl
  · rw [plD_none h, decide_eq_false h]
    rfl
theorem plD_len (tr : List Int) : (plD tr).length = tr.length := by
  unfold plD
  rw [List.length_map, List.length_zipIdx]
/-! ### the ten objects -/
structure Core (H : Hp) (as : List Addr) (obs : List HO) : Prop where
  nd : as.Nodup
  le : as.length = obs.length
  at_ : ∀ (i : Nat) (a : Addr) (o : HO), as[i]? = some a → obs[i]? = some o → H a = some o
theorem Core.put {H : Hp} {as : List Addr} {obs : List HO} (h : Core H as obs) (i : Nat) {a : Addr} (ha : as[i]? = some a) (o : HO) : Core (upd H a o) as (obs.set i o) := by
  refine ⟨h.nd, by rw [List.length_set]; exact h.le, fun j b u hb hu => ?_⟩
  by_cases e : i = j
  · subst e
    rw [ha] at hb
    cases hb
    have hl := (List.getElem?_eq_some_iff.mp ha).1
    rw [List.getElem?_set_self (by rw [← h.le]; exact hl)] at hu
    cases hu
    exact upd_same
  · rw [List.getElem?_set_ne e] at hu
    have ne : b ≠ a := fun z => by
      subst z
      have h1 := (List.getElem?_eq_some_iff.mp ha)
      have h2 := (List.getElem?_eq_some_iff.mp hb)
      obtain ⟨l1, e1⟩ := h1
      obtain ⟨l2, e2⟩ := h2
      exact e ((List.getElem_inj h.nd).mp (e1.trans e2.symm))
    rw [upd_ne ne]
    exact h.at_ j b u hb hu
theorem Core.has {H : Hp} {as : List Addr} {obs : List HO} (h : Core H as obs) {a : Addr} (ha : a ∈ as) : ∃ o, o ∈ obs ∧ H a = some o := by
  obtain ⟨i, e⟩ := List.mem_iff_getElem?.mp ha
  have l := (List.getElem?_eq_some_iff.mp e).1
  have l2 : i < obs.length := by rw [← h.le]; exact l
  exact ⟨obs[i], List.getElem_mem l2, h.at_ i a _ e (List.getElem?_eq_getElem l2)⟩
theorem Core.keep {H H' : Hp} {as : List Addr} {obs : List HO} (h : Core H as obs) (k : ∀ a ∈ as, ∀ o, H a = some o → H' a = some o) : Core H' as obs :=
  ⟨h.nd, h.le, fun i a o ha ho => k a (List.mem_of_getElem? ha) o (h.at_ i a o ha ho)⟩
/-- the lists of numbers -/
structure Hv (H : Hp) (as : List Addr) (kvs : List (Key × V)) (g : Int → List Nat) : Prop where
  at_ : ∀ m : Int, (valV kvs (Sum.inl m : Key) = none ∧ g m = []) ∨ ∃ l, valV kvs (Sum.inl m : Key) = some (.ref l) ∧ H l = some (.lst ((g m).map fun i => V.int (i : Nat))) ∧ l ∉ as
  one : ∀ (m m' : Int) (l : Addr), valV kvs (Sum.inl m : Key) = some (.ref l) → valV kvs (Sum.inl m' : Key) = some (.ref l) → m = m'
theorem Hv.keep {H H' : Hp} {as : List Addr} {kvs : List (Key × V)} {g : Int → List Nat} (h : Hv H as kvs g) (k : ∀ (m : Int) l, valV kvs (Sum.inl m : Key) = some (.ref l) → ∀ o, H l = some o → H' l = some o) : Hv H' as kvs g := by
  refine ⟨fun m => ?_, h.one⟩
  rcases h.at_ m with z | ⟨l, e, hl, nl⟩
  · exact .inl z
  · exact .inr ⟨l, e, k m l e _ hl, nl⟩
/-- what lies about the ten -/
structure Rest (H : Hp) (A : FA) (D : Addr → Prop) (qs aq : List Addr) (kvs : List (Key × V)) (cs : List (List Int)) (g : Int → List Nat) (ah : List (Int × Int)) : Prop where
  cn : qs.length = cs.length
  ct : ∀ (i : Nat) q c, qs[i]? = some q → cs[i]? = some c → H q = some (.tup (c.map V.int))
  an : aq.length = ah.length
  at_ : ∀ (i : Nat) q z, aq[i]? = some q → ah[i]? = some z → H q = some (.tup [.int z.1, .int z.2])
  hv : Hv H (fas A) kvs g
  dd : ∀ b, D b ↔ b ∈ fas A ∨ ∃ m : Int, valV kvs (Sum.inl m : Key) = some (.ref b)
def NT (o : HO) : Prop := ∀ xs, o ≠ .tup xs
theorem Rest.keep {H H' : Hp} {A : FA} {D : Addr → Prop} {qs aq : List Addr} {kvs : List (Key × V)} {cs : List (List Int)} {g : Int → List Nat} {ah : List (Int × Int)} (h : Rest H A D qs aq kvs cs g ah)
    (kt : ∀ b xs, H b = some (.tup xs) → H' b = some (.tup xs)) (kd : ∀ b, b ∉ fas A → D b → ∀ o, H b = some o → H' b = some o) : Rest H' A D qs aq kvs cs g ah := by
  refine ⟨h.cn, fun i q c hq hc => kt _ _ (h.ct i q c hq hc), h.an, fun i q z hq hz => kt _ _ (h.at_ i q z hq hz), ?_, h.dd⟩
  refine ⟨fun m => ?_, h.hv.one⟩
  rcases h.hv.at_ m with z | ⟨l, e, hl, nl⟩
  · exact .inl z
  · exact .inr ⟨l, e, kd l nl ((h.dd l).mpr (.inr ⟨m, e⟩)) _ hl, nl⟩
/-- one of the ten is changed -/
theorem Rest.core {H : Hp} {A : FA} {D : Addr → Prop} {qs aq : List Addr} {kvs : List (Key × V)} {cs : List (List Int)} {g : Int → List Nat} {ah : List (Int × Int)} (h : Rest H A D qs aq kvs cs g ah)
    {a : Addr} (ha : a ∈ fas A) {u : HO} (hu : H a = some u) (nu : NT u) (o : HO) : Rest (upd H a o) A D qs aq kvs cs g ah := by
  refine h.keep (fun b xs e => ?_) fun b nb _ v e => ?_
  · rw [upd_ne (ne_of e hu fun z => nu xs z.symm)]
    exact e
  · rw [upd_ne (fun z : b = a => nb (by rw [z]; exact ha))]
    exact e
theorem Rest.same {H H' : Hp} {A : FA} {D : Addr → Prop} {qs aq : List Addr} {kvs : List (Key × V)} {cs : List (List Int)} {g : Int → List Nat} {ah : List (Int × Int)} (h : Rest H A D qs aq kvs cs g ah) (s : Same H H') : Rest H' A D qs aq kvs cs g ah :=
  h.keep (fun b xs e => s _ _ e) fun b _ _ o e => s _ _ e
theorem Core.same {H H' : Hp} {as : List Addr} {obs : List HO} (h : Core H as obs) (s : Same H H') : Core H' as obs := h.keep fun a _ o e => s _ _ e
/-- the whole follower, as it lies -/
structure FolR (H : Hp) (C : Addr) (A : FA) (D : Addr → Prop) (qs aq : List Addr) (kvs : List (Key × V)) (cs : List (List Int)) (o : List Int) (g : Int → List Nat) (tr : List Int) (rw : List (Option Int)) (pu : List Int) (ah : List (Int × Int)) (br : Option Int) : Prop where
  co : Core H (fas A) [.ins C A.dx (fl A br), .lst (qs.map V.ref), .lst (o.map V.int), .dK kvs, .lst (tr.map V.int), .dK (plD tr), .lst (rw.map optI), .lst (pu.map V.int), .dK (tru pu), .lst (aq.map V.ref)]
  re : Rest H A D qs aq kvs cs g ah
/-- what stays behind a deed -/
structure Fr (D D' : Addr → Prop) (H H' : Hp) : Prop where
  k : ∀ b o, H b = some o → ¬ D b → H' b = some o
  d : ∀ b, D' b → D b ∨ H b = none
theorem Fr.refl (D : Addr → Prop) (H : Hp) : Fr D D H H := ⟨fun _ _ e _ => e, fun _ h => .inl h⟩
theorem Fr.trans {D D1 D2 : Addr → Prop} {H H1 H2 : Hp} (a : Fr D D1 H H1) (b : Fr D1 D2 H1 H2) (h : ∀ b, D b → D1 b) : Fr D D2 H H2 := by
  refine ⟨fun x o e n => ?_, fun x hx => ?_⟩
  · refine b.k x o (a.k x o e n) fun z => ?_
    rcases a.d x z with d | d
    · exact n d
    · rw [d] at e
      cases e
  · rcases b.d x hx with d | d
    · exact a.d x d
    · by_cases dx : D x
      · exact .inl dx
      · refine .inr ?_
        cases e : H x with
        | none => rfl
        | some o =>
          rw [a.k x o e dx] at d
          cases d
theorem Fr.same {D : Addr → Prop} {H H' : Hp} (s : Same H H') : Fr D D H H' := ⟨fun b o e _ => s b o e, fun _ h => .inl h⟩
theorem Fr.upd {D : Addr → Prop} {H : Hp} {a : Addr} {o : HO} (h : D a) : Fr D D H (upd H a o) := ⟨fun b u e n => by rw [upd_ne (fun z : b = a => n (by rw [z]; exact h))]; exact e, fun _ h => .inl h⟩
section
variable {H : Hp} {C : Addr} {A : FA} {D : Addr → Prop} {qs aq : List Addr} {kvs : List (Key × V)} {cs : List (List Int)} {o : List Int} {g : Int → List Nat} {tr : List Int} {rw : List (Option Int)} {pu : List Int} {ah : List (Int × Int)} {br : Option Int}
theorem FolR.ins (h : FolR H C A D qs aq kvs cs o g tr rw pu ah br) : H A.f = some (.ins C A.dx (fl A br)) := h.co.at_ 0 _ _ rfl rfl
theorem FolR.cl (h : FolR H C A D qs aq kvs cs o g tr rw pu ah br) : H A.cl = some (.lst (qs.map V.ref)) := h.co.at_ 1 _ _ rfl rfl
theorem FolR.ofs (h : FolR H C A D qs aq kvs cs o g tr rw pu ah br) : H A.ofs = some (.lst (o.map V.int)) := h.co.at_ 2 _ _ rfl rfl
theorem FolR.hvd (h : FolR H C A D qs aq kvs cs o g tr rw pu ah br) : H A.hv = some (.dK kvs) := h.co.at_ 3 _ _ rfl rfl
theorem FolR.trl (h : FolR H C A D qs aq kvs cs o g tr rw pu ah br) : H A.tr = some (.lst (tr.map V.int)) := h.co.at_ 4 _ _ rfl rfl
theorem FolR.pld (h : FolR H C A D qs aq kvs cs o g tr rw pu ah br) : H A.pl = some (.dK (plD tr)) := h.co.at_ 5 _ _ rfl rfl
theorem FolR.rwl (h : FolR H C A D qs aq kvs cs o g tr rw pu ah br) : H A.rw = some (.lst (rw.map optI)) := h.co.at_ 6 _ _ rfl rfl
theorem FolR.pul (h : FolR H C A D qs aq kvs cs o g tr rw pu ah br) : H A.pu = some (.lst (pu.map V.int)) := h.co.at_ 7 _ _ rfl rfl
theorem FolR.ipd (h : FolR H C A D qs aq kvs cs o g tr rw pu ah br) : H A.ip = some (.dK (tru pu)) := h.co.at_ 8 _ _ rfl rfl
theorem FolR.ahl (h : FolR H C A D qs aq kvs cs o g tr rw pu ah br) : H A.ah = some (.lst (aq.map V.ref)) := h.co.at_ 9 _ _ rfl rfl
theorem FolR.same {H' : Hp} (h : FolR H C A D qs aq kvs cs o g tr rw pu ah br) (s : Same H H') : FolR H' C A D qs aq kvs cs o g tr rw pu ah br := ⟨h.co.same s, h.re.same s⟩
theorem FolR.in_ (h : FolR H C A D qs aq kvs cs o g tr rw pu ah br) {a : Addr} (ha : a ∈ fas A) : D a := (h.re.dd a).mpr (.inl ha)
theorem FolR.setBr (h : FolR H C A D qs aq kvs cs o g tr rw pu ah br) (b : Option Int) : FolR (upd H A.f (.ins C A.dx (fl A b))) C A D qs aq kvs cs o g tr rw pu ah b :=
  ⟨h.co.put 0 rfl _, h.re.core (by simp [fas]) h.ins (fun xs z => by cases z) _⟩
theorem FolR.setOf (h : FolR H C A D qs aq kvs cs o g tr rw pu ah br) (o' : List Int) : FolR (upd H A.ofs (.lst (o'.map V.int))) C A D qs aq kvs cs o' g tr rw pu ah br :=
  ⟨h.co.put 2 rfl _, h.re.core (by simp [fas]) h.ofs (fun xs z => by cases z) _⟩
end

section
variable {P : Program} {w : World} {K : PySem.W.Frag} {mg : Str → Option Value} {base : Heap}
/-! ### the small methods -/
def spReady (C : Addr) : Sp := fun vs H Q _ => ∃ (A : FA) (br : Option Int) (qs : List Addr) (o : List Int) (i : Nat) (z : Int) (q : Addr) (c : List Int), vs = [.ref A.f, .int (i : Nat)] ∧ H A.f = some (.ins C A.dx (fl A br)) ∧ H A.ofs = some (.lst (o.map V.int)) ∧ o[i]? = some z ∧
  H A.cl = some (.lst (qs.map V.ref)) ∧ qs[i]? = some q ∧ H q = some (.tup (c.map V.int)) ∧ Q (.bl (decide (z ≥ (c.length : Int) - 1))) H
theorem hm_ready {cs : Nat → Addr} (T : Top K mg cs) : HasM P w K mg base (cs 0) 1 "_is_ready" ["self", "number"] (spReady (cs 0)) := by
  refine has_ofM T.m_Follower__is_ready sc_Follower__is_ready bd_Follower__is_ready (fun vs H Q E h => ?_) (fun f cdv Ar outer s H vs Q E hr h => ?_)
  · obtain ⟨A, br, qs, o, i, z, q, c, rfl, _⟩ := h
    rfl
  · have hu := hu_of hr
    have nd := sc_Follower__is_ready.nd
    obtain ⟨A, br, qs, o, i, z, q, c, rfl, hf, ho, hz, hc, hq, ht, k⟩ := h
    refine ⟨_, (pss_one (ps_ret (pe_cmpR op_ge (pe_ix ix_list (pe_fld (pv 0) rfl) (pv 1) (fun _ _ => rfl)) (pe_op op_sub (pe_callB call_len_seq (by rfl) T.b_len (by decide +kernel) (pa_cons (pe_ix ix_list (pe_fld (pv 0) rfl) (pv 1) (fun _ _ => rfl)) pa_nil)) pe_int) (nomark _)))), ?_⟩
    have ez : (o.map V.int)[i]? = some (.int z) := by
      rw [List.getElem?_map, hz]
      rfl
    have eq : (qs.map V.ref)[i]? = some (.ref q) := by
      rw [List.getElem?_map, hq]
      rfl
    refine ⟨_, rfl, A.f, cs 0, A.dx, _, _, rfl, hf, T.cl_Follower, T.n_Follower__offs, rfl, _, rfl, A.ofs, _, _, _, rfl, rfl, SqL.of ho, atI_nat ez, ?_⟩
    refine ⟨_, rfl, A.f, cs 0, A.dx, _, _, rfl, hf, T.cl_Follower, T.n_Follower__clauses, rfl, _, rfl, A.cl, _, _, _, rfl, rfl, SqL.of hc, atI_nat eq, q, _, rfl, .inr (SqT.of ht), _, _, rfl, rfl, _, _, rfl, rfl, ?_⟩
    rw [List.length_map]
    exact k
def spIsBr (C : Addr) : Sp := fun vs H Q _ => ∃ (A : FA) (br : Option Int), vs = [.ref A.f] ∧ H A.f = some (.ins C A.dx (fl A br)) ∧ Q (.bl br.isSome) H
theorem hm_isbr {cs : Nat → Addr} (T : Top K mg cs) : HasM P w K mg base (cs 0) 1 "is_broken" ["self"] (spIsBr (cs 0)) := by
  refine has_ofM T.m_Follower_is_broken sc_Follower_is_broken bd_Follower_is_broken (fun vs H Q E h => ?_) (fun f cdv Ar outer s H vs Q E hr h => ?_)
  · obtain ⟨A, br, rfl, _⟩ := h
    rfl
  · have hu := hu_of hr
    have nd := sc_Follower_is_broken.nd
    obtain ⟨A, br, rfl, hf, k⟩ := h
    refine ⟨_, (pss_one (ps_ret (pe_cmpR op_notN (pe_fld (pv 0) rfl) pe_non (nomark _)))), ?_⟩
    refine ⟨_, rfl, A.f, cs 0, A.dx, _, _, rfl, hf, T.cl_Follower, T.n_Follower__broken_row, rfl, rfl, ?_⟩
    cases br with
    | none => exact k
    | some r => exact k
def spRefuse (C : Addr) : Sp := fun vs H Q _ => ∃ (A : FA), vs = [.ref A.f] ∧ H A.f = some (.ins C A.dx (fl A none)) ∧ Q .non H
theorem hm_refuse {cs : Nat → Addr} (T : Top K mg cs) : HasM P w K mg base (cs 0) 1 "_refuse_broken" ["self"] (spRefuse (cs 0)) := by
  refine has_ofM T.m_Follower__refuse_broken sc_Follower__refuse_broken bd_Follower__refuse_broken (fun vs H Q E h => ?_) (fun f cdv Ar outer s H vs Q E hr h => ?_)
  · obtain ⟨A, rfl, _⟩ := h
    rfl
  · have hu := hu_of hr
    have nd := sc_Follower__refuse_broken.nd
    obtain ⟨A, rfl, hf, k⟩ := h
    refine ⟨_, (pss_one (ps_if (pt_cmpR op_notN (pe_fld (pv 0) rfl) pe_non (nomark _)) (pss_one ps_never) pss_nil)), ?_⟩
    exact ⟨_, rfl, A.f, cs 0, A.dx, _, _, rfl, hf, T.cl_Follower, T.n_Follower__broken_row, rfl, rfl, _, rfl, iteF k⟩
def spRowOf (C : Addr) : Sp := fun vs H Q _ => ∃ (A : FA) (br : Option Int) (tr : List Int) (rw : List (Option Int)) (m : Int) (i : Nat) (r : Option Int), vs = [.ref A.f, .int m] ∧ H A.f = some (.ins C A.dx (fl A br)) ∧ H A.pl = some (.dK (plD tr)) ∧ H A.rw = some (.lst (rw.map optI)) ∧
  tr.Nodup ∧ tr[i]? = some m ∧ rw[i]? = some r ∧ Q (optI r) H
theorem hm_rowof {cs : Nat → Addr} (T : Top K mg cs) : HasM P w K mg base (cs 0) 1 "_row_of" ["self", "mark"] (spRowOf (cs 0)) := by
  refine has_ofM T.m_Follower__row_of sc_Follower__row_of bd_Follower__row_of (fun vs H Q E h => ?_) (fun f cdv Ar outer s H vs Q E hr h => ?_)
  · obtain ⟨A, br, tr, rw, m, i, r, rfl, _⟩ := h
    rfl
  · have hu := hu_of hr
    have nd := sc_Follower__row_of.nd
    obtain ⟨A, br, tr, rw, m, i, r, rfl, hf, hp, hw, hn, ht, hr', k⟩ := h
    refine ⟨_, (pss_one (ps_ret (pe_ix ix_list (pe_fld (pv 0) rfl) (pe_dget hu (pe_fld (pv 0) rfl) (pv 1) (fun _ _ => rfl)) (fun _ _ => rfl)))), ?_⟩
    have er : (rw.map optI)[i]? = some (optI r) := by
      rw [List.getElem?_map, hr']
      rfl
    have g := DGet.k (k := (Sum.inl m : Key)) hp
    rw [plD_some hn ht] at g
    exact ⟨_, rfl, A.f, cs 0, A.dx, _, _, rfl, hf, T.cl_Follower, T.n_Follower__rows, rfl, _, rfl, A.f, cs 0, A.dx, _, _, rfl, hf, T.cl_Follower, T.n_Follower__place, rfl, _, rfl, A.pl, _, rfl, g, A.rw, _, _, _, rfl, rfl, SqL.of hw, atI_nat er, k⟩
def spNews (C : Addr) : Sp := fun vs H Q _ => ∃ (A : FA) (br : Option Int) (tr : List Int) (n : Nat), vs = [.ref A.f, .int (n : Nat)] ∧ H A.f = some (.ins C A.dx (fl A br)) ∧ H A.tr = some (.lst (tr.map V.int)) ∧
  ((br ≠ none → Q .non H) ∧ (br = none → ∀ H' p, H p = none → Same H H' → H' p = some (.lst ((byAbs (tr.drop n)).map V.int)) → Q (.ref p) H'))
theorem hm_news {cs : Nat → Addr} (T : Top K mg cs) : HasM P w K mg base (cs 0) 1 "_news" ["self", "ahead"] (spNews (cs 0)) := by
  refine has_ofM T.m_Follower__news sc_Follower__news bd_Follower__news (fun vs H Q E h => ?_) (fun f cdv Ar outer s H vs Q E hr h => ?_)
  · obtain ⟨A, br, tr, n, rfl, _⟩ := h
    rfl
  · have hu := hu_of hr
    have nd := sc_Follower__news.nd
    obtain ⟨A, br, tr, n, rfl, hf, ht, k1, k2⟩ := h
    refine ⟨_, (pss_cons (ps_if (pt_cmpR op_notN (pe_fld (pv 0) rfl) pe_non (nomark _)) (pss_one (ps_ret pe_non)) pss_nil)
    (pss_one (ps_ret (pe_sortAbs hr.units (by rfl) T.b_sorted (by rfl) T.b_abs (pa_cons (pe_slice sl_list (pe_fld (pv 0) rfl) (po_some (pv 1)) po_none) pa_nil))))), ?_⟩
    refine ⟨_, rfl, A.f, cs 0, A.dx, _, _, rfl, hf, T.cl_Follower, T.n_Follower__broken_row, rfl, rfl, _, rfl, ?_⟩
    cases br with
    | some r => exact iteT (k1 (by simp))
    | none =>
      refine iteF ⟨_, rfl, A.f, cs 0, A.dx, _, _, rfl, hf, T.cl_Follower, T.n_Follower__trail, rfl, _, rfl, _, rfl, A.tr, _, rfl, SqL.of ht, fun p hp => ?_⟩
      have ec : cutV (tr.map V.int) (some (n : Int)) none = (tr.drop n).map V.int := by
        unfold cutV
        rw [HT.sIx_nat, HT.sIx_none, List.length_map, List.map_drop]
        by_cases c : n ≤ tr.length
        · rw [Nat.min_eq_left c]
          exact List.take_of_length_le (by rw [List.length_drop, List.length_map]; exact Nat.le_refl _)
        · rw [Nat.min_eq_right (by omega), Nat.sub_self, List.take_zero, List.drop_eq_nil_of_le (by rw [List.length_map]; omega)]
      refine ⟨p, tr.drop n, rfl, by rw [ec]; exact SqL.of upd_same, fun q hq => ?_⟩
      have np : q ≠ p := fun e => by
        rw [e, upd_same] at hq
        cases hq
      exact k2 rfl _ q (by rw [← hq, upd_ne np]) ((same_new hp).trans (same_new hq)) upd_same
def spOn (C : Addr) : Sp := fun vs H Q _ => ∃ (A : FA) (tr : List Int), vs = [.ref A.f] ∧ H A.f = some (.ins C A.dx (fl A none)) ∧ H A.tr = some (.lst (tr.map V.int)) ∧
  (∀ H' p, H p = none → Same H H' → H' p = some (.lst ((byAbs tr).map V.int)) → Q (.ref p) H')
theorem hm_on {cs : Nat → Addr} (T : Top K mg cs) (h_Follower__refuse_broken : HasM P w K mg base (cs 0) 1 "_refuse_broken" ["self"] (spRefuse (cs 0))) : HasM P w K mg base (cs 0) 2 "on" ["self"] (spOn (cs 0)) := by
  refine has_ofM T.m_Follower_on sc_Follower_on bd_Follower_on (fun vs H Q E h => ?_) (fun f cdv Ar outer s H vs Q E hr h => ?_)
  · obtain ⟨A, tr, rfl, _⟩ := h
    rfl
  · have hu := hu_of hr
    have nd := sc_Follower_on.nd
    obtain ⟨A, tr, rfl, hf, ht, k⟩ := h
    refine ⟨_, (pss_cons (ps_expr (pe_hasM0 T.cl_Follower h_Follower__refuse_broken (hr.mono (by omega)) (pv 0)))
    (pss_one (ps_ret (pe_sortAbs hr.units (by rfl) T.b_sorted (by rfl) T.b_abs (pa_cons (pe_fld (pv 0) rfl) pa_nil))))), ?_⟩
    refine ⟨_, rfl, A.f, A.dx, _, rfl, hf, rfl, A, rfl, hf, ?_⟩
    exact ⟨_, rfl, A.f, cs 0, A.dx, _, _, rfl, hf, T.cl_Follower, T.n_Follower__trail, rfl, A.tr, tr, rfl, SqL.of ht, fun q hq => k _ q hq (same_new hq) upd_same⟩
end

theorem plD_put {tr : List Int} {m : Int} (h : m ∉ tr) : putK (plD tr) (Sum.inl m : Key) (.int (tr.length : Nat)) = plD (tr ++ [m]) := by
  rw [putK_new _ (plD_none h), plD_snoc]
theorem ints_snoc (l : List Int) (m : Int) : l.map V.int ++ [V.int m] = (l ++ [m]).map V.int := by
  rw [List.map_append]
  rfl
theorem opts_snoc (l : List (Option Int)) (r : Option Int) : l.map optI ++ [optI r] = (l ++ [r]).map optI := by
  rw [List.map_append]
  rfl
theorem refs_snoc (l : List Addr) (q : Addr) : l.map V.ref ++ [V.ref q] = (l ++ [q]).map V.ref := by
  rw [List.map_append]
  rfl
theorem nats_snoc (l : List Nat) (n : Nat) : l.map (fun i => V.int (i : Nat)) ++ [V.int (n : Nat)] = (l ++ [n]).map fun i => V.int (i : Nat) := by
  rw [List.map_append]
  rfl
theorem FolR.known {H : Hp} {C : Addr} {A : FA} {D : Addr → Prop} {qs aq : List Addr} {kvs : List (Key × V)} {cs : List (List Int)} {o : List Int} {g : Int → List Nat} {tr : List Int} {rw : List (Option Int)} {pu : List Int} {ah : List (Int × Int)} {br : Option Int}
    (h : FolR H C A D qs aq kvs cs o g tr rw pu ah br) {b : Addr} (hb : D b) : ∃ u, H b = some u := by
  rcases (h.re.dd b).mp hb with z | ⟨m, z⟩
  · obtain ⟨u, _, e⟩ := h.co.has z
    exact ⟨u, e⟩
  · rcases h.re.hv.at_ m with ⟨e, _⟩ | ⟨l, e, hl, _⟩
    · rw [z] at e
      cases e
    · rw [z] at e
      cases e
      exact ⟨_, hl⟩
theorem FolR.not_new {H : Hp} {C : Addr} {A : FA} {D : Addr → Prop} {qs aq : List Addr} {kvs : List (Key × V)} {cs : List (List Int)} {o : List Int} {g : Int → List Nat} {tr : List Int} {rw : List (Option Int)} {pu : List Int} {ah : List (Int × Int)} {br : Option Int}
    (h : FolR H C A D qs aq kvs cs o g tr rw pu ah br) {b : Addr} (hb : H b = none) : ¬ D b := fun z => by
  obtain ⟨u, e⟩ := h.known z
  rw [hb] at e
  cases e
/-- a filter of what is off -/
theorem off_filter (tr c : List Int) : ((c.map V.int).filter fun x => match x with | .int m => decide (-m ∈ tr) | _ => false) = (c.filter fun m => decide (-m ∈ tr)).map V.int := by
  rw [List.filter_map]
  rfl
section
variable {P : Program} {w : World} {K : PySem.W.Frag} {mg : Str → Option Value} {base : Heap}
def gJ (cs : List (List Int)) (c : List Int) (j : Nat) : Int → List Nat := fun m => nums cs m ++ (if m ∈ c.take j then [cs.length] else [])
theorem gJ_end (cs : List (List Int)) (c : List Int) : gJ cs c c.length = nums (cs ++ [c]) := by
  funext m
  unfold gJ
  rw [List.take_length, nums_snoc]
theorem gJ_zero (cs : List (List Int)) (c : List Int) : gJ cs c 0 = nums cs := by
  funext m
  unfold gJ
  rw [List.take_zero, if_neg (by simp), List.append_nil]
theorem gJ_at {cs : List (List Int)} {c : List Int} {j : Nat} {m : Int} (hn : c.Nodup) (h : c[j]? = some m) (x : Int) : gJ cs c (j + 1) x = if x = m then gJ cs c j m ++ [cs.length] else gJ cs c j x := by
  have nt : m ∉ c.take j := fun z => by
    obtain ⟨i, hi, e⟩ := mem_take z
    have l1 := (List.getElem?_eq_some_iff.mp e)
    have l2 := (List.getElem?_eq_some_iff.mp h)
    obtain ⟨a1, a2⟩ := l1
    obtain ⟨b1, b2⟩ := l2
    have := (List.getElem_inj hn).mp (a2.trans b2.symm)
    omega
  unfold gJ
  rw [take_snoc h]
  by_cases e : x = m
  · subst e
    rw [if_pos rfl, if_pos (List.mem_append_right _ List.mem_cons_self), if_neg nt, List.append_nil]
  · rw [if_neg e]
    congr 1
    by_cases z : x ∈ c.take j
    · rw [if_pos (List.mem_append_left _ z), if_pos z]
    · rw [if_neg fun y => (List.mem_append.mp y).elim z fun y => e (List.mem_singleton.mp y), if_neg z]
def spTake (C : Addr) : Sp := fun vs H Q _ => ∃ (A : FA) (D : Addr → Prop) (qs aq : List Addr) (kvs : List (Key × V)) (cs : List (List Int)) (tr : List Int) (rw : List (Option Int)) (pu : List Int) (ah : List (Int × Int)) (br : Option Int) (q : Addr) (c : List Int),
  vs = [.ref A.f, .ref q] ∧ FolR H C A D qs aq kvs cs (cs.map (offC tr)) (nums cs) tr rw pu ah br ∧ H q = some (.tup (c.map V.int)) ∧ c.Nodup ∧ tr.Nodup ∧ cs.length ≤ 100000 ∧ c.length ≤ 1000 ∧ kvs.length ≤ 1000000 ∧
  ∀ (H' : Hp) (D' : Addr → Prop) (kvs' : List (Key × V)), FolR H' C A D' (qs ++ [q]) aq kvs' (cs ++ [c]) ((cs ++ [c]).map (offC tr)) (nums (cs ++ [c])) tr rw pu ah br → kvs'.length ≤ kvs.length + c.length → Fr D D' H H' → (∀ b, D b → D' b) → Q .non H'
theorem hm_take {cs : Nat → Addr} (T : Top K mg cs) : HasM P w K mg base (cs 0) 1 "_take_in" ["self", "clause"] (spTake (cs 0)) := by
  refine has_ofM T.m_Follower__take_in sc_Follower__take_in bd_Follower__take_in (fun vs H Q E h => ?_) (fun f cdv Ar outer s H vs Q E hr h => ?_)
  · obtain ⟨A, D, qs, aq, kvs, ks, tr, rw, pu, ah, br, q, c, rfl, _⟩ := h
    rfl
  · have hu := hu_of hr
    have nd := sc_Follower__take_in.nd
    obtain ⟨A, D, qs, aq, kvs, ks, tr, rw, pu, ah, br, q, c, rfl, F, hq, hn, ht, lc, l2, l3, k⟩ := h
    refine ⟨_, (pss_cons (ps_set (i := 2) nd rfl (.inl rfl) (pe_callB call_len_seq (by rfl) T.b_len (by decide +kernel) (pa_cons (pe_fld (pv 0) rfl) pa_nil)))
    (pss_cons (ps_expr (pe_bm PySem.F.plainAttrs_list PySem.F.slot_list_append PySem.F.type_list_append mt_append (pe_fld (pv 0) rfl) (pa_cons (pv 1) pa_nil)))
    (pss_cons (ps_expr (pe_bm PySem.F.plainAttrs_list PySem.F.slot_list_append PySem.F.type_list_append mt_append (pe_fld (pv 0) rfl) (pa_cons (pe_callB call_len_seq (by rfl) T.b_len (by decide +kernel) (pa_cons (pe_lc (own := [("mark", 3)]) (by rfl) nd (pi_tup (pv 1)) (blkOk_by (own := [("mark", 3)]) (N := nm_Follower__take_in) (sc := defScope s_Follower__take_in) (by decide +kernel)) (fun _ _ _ _ _ => pg_name (i := 3) nd rfl (.inl rfl)) (fun _ _ _ _ _ => pts_one (pt_cmp (pc_din hu (pe_un un_neg (pv 3)) (pe_fldK (K := K) rfl (pv 0) rfl)))) (fun _ _ _ _ _ => (pv 3))) pa_nil)) pa_nil)))
    (pss_one (ps_for PassesOwn.never rfl (pi_tup (pv 1)) (pg_name (i := 3) nd rfl (.inl rfl))
      (pss_one (ps_expr (pe_bm PySem.F.plainAttrs_list PySem.F.slot_list_append PySem.F.type_list_append mt_append (pe_dsetd (pe_fld (pv 0) rfl) (pv 3) (pe_lst pa_nil) ⟨rfl, rfl, rfl, rfl⟩) (pa_cons (pv 2) pa_nil))))))))), ?_⟩
    have line : 1100000 < sizeLine := by decide
    have cn := F.re.cn
    refine ⟨_, rfl, A.f, cs 0, A.dx, _, _, rfl, F.ins, T.cl_Follower, T.n_Follower__clauses, rfl, A.cl, _, rfl, .inl (SqL.of F.cl), ?_⟩
    refine ⟨_, rfl, A.f, cs 0, A.dx, _, _, rfl, F.ins, T.cl_Follower, T.n_Follower__clauses, rfl, .inl ⟨rfl, _, SqL.of F.cl⟩, _, rfl, A.cl, _, _, rfl, rfl, F.cl, by rw [List.length_map]; omega, ?_⟩
    have c1 := F.co.put 1 rfl (.lst (qs.map V.ref ++ [.ref q]))
    have r1 := F.re.core (by simp [fas]) F.cl (fun xs z => by cases z) (.lst (qs.map V.ref ++ [.ref q]))
    have f1 : Fr D D H (upd H A.cl (.lst (qs.map V.ref ++ [.ref q]))) := Fr.upd (F.in_ (by simp [fas]))
    have hq1 : (upd H A.cl (.lst (qs.map V.ref ++ [.ref q]))) q = some (.tup (c.map V.int)) := by
      rw [upd_ne (ne_of hq F.cl (by intro z; cases z))]
      exact hq
    generalize upd H A.cl (.lst (qs.map V.ref ++ [.ref q])) = H1 at c1 r1 f1 hq1
    rw [refs_snoc] at c1
    have i1 : H1 A.f = some (.ins (cs 0) A.dx (fl A br)) := c1.at_ 0 _ _ rfl rfl
    have o1 : H1 A.ofs = some (.lst ((ks.map (offC tr)).map V.int)) := c1.at_ 2 _ _ rfl rfl
    have p1 : H1 A.pl = some (.dK (plD tr)) := c1.at_ 5 _ _ rfl rfl
    -- offs
    refine ⟨_, rfl, A.f, cs 0, A.dx, _, _, rfl, i1, T.cl_Follower, T.n_Follower__offs, rfl, .inl ⟨rfl, _, SqL.of o1⟩, ?_⟩
    refine ⟨_, rfl, q, rfl, ⟨_, SqT.of hq1⟩, fun L hL => lc_sel_tup (fun x => match x with | .int m => decide (-m ∈ tr) | _ => false) (fun x => x) (SqT.of hq1) hL (by rw [List.length_map]; omega) (fun x hm => ?_) fun H2 s2 h2 => ?_⟩
    · obtain ⟨m, _, rfl⟩ := List.mem_map.mp hm
      refine ⟨rfl, fun H' s' R r => ⟨_, rfl, m, rfl, _, rfl, A.f, cs 0, A.dx, _, _, rfl, s' _ _ i1, T.cl_Follower, T.n_Follower__place, rfl, A.pl, _, rfl, DGet.k (k := Sum.inl (-m)) (s' _ _ p1), _, rfl, ?_⟩, fun _ H' s' R r => ⟨_, rfl, r H' (Same.refl _)⟩⟩
      rw [plD_is ht]
      exact r H' (Same.refl _)
    rw [off_filter, List.map_id'] at h2
    refine ⟨L, _, rfl, .inl (SqL.of h2), A.ofs, _, _, rfl, rfl, s2 _ _ o1, by rw [List.length_map, List.length_map]; omega, ?_⟩
    have c2 := (c1.same s2).put 2 rfl (.lst ((ks.map (offC tr)).map V.int ++ [.int ((((c.filter fun m => decide (-m ∈ tr)).map V.int).length : Nat) : Int)]))
    have r2 := (r1.same s2).core (a := A.ofs) (by simp [fas]) (s2 _ _ o1) (fun xs z => by cases z) (.lst ((ks.map (offC tr)).map V.int ++ [.int ((((c.filter fun m => decide (-m ∈ tr)).map V.int).length : Nat) : Int)]))
    have f2 : Fr D D H (upd H2 A.ofs (.lst ((ks.map (offC tr)).map V.int ++ [.int ((((c.filter fun m => decide (-m ∈ tr)).map V.int).length : Nat) : Int)]))) := (f1.trans (Fr.same s2) fun _ h => h).trans (Fr.upd (F.in_ (by simp [fas]))) fun _ h => h
    have hq2 : (upd H2 A.ofs (.lst ((ks.map (offC tr)).map V.int ++ [.int ((((c.filter fun m => decide (-m ∈ tr)).map V.int).length : Nat) : Int)]))) q = some (.tup (c.map V.int)) := by
      rw [upd_ne (ne_of hq1 o1 (by intro z; cases z))]
      exact s2 _ _ hq1
    generalize upd H2 A.ofs (.lst ((ks.map (offC tr)).map V.int ++ [.int ((((c.filter fun m => decide (-m ∈ tr)).map V.int).length : Nat) : Int)])) = H3 at c2 r2 f2 hq2
    rw [ints_snoc, List.length_map, show ((((c.filter fun m => decide (-m ∈ tr)).length : Nat) : Int)) = offC tr c from rfl, show ks.map (offC tr) ++ [offC tr c] = (ks ++ [c]).map (offC tr) by rw [List.map_append]; rfl] at c2
    have F3 : FolR H3 (cs 0) A D (qs ++ [q]) aq kvs (ks ++ [c]) ((ks ++ [c]).map (offC tr)) (gJ ks c 0) tr rw pu ah br := by
      refine ⟨c2, ?_, ?_, r2.an, r2.at_, by rw [gJ_zero]; exact r2.hv, r2.dd⟩
      · rw [List.length_append, List.length_append, cn]
        rfl
      · intro i p d hp hd
        rcases getElem_snoc hp with ⟨_, e⟩ | ⟨e1, rfl⟩
        · rcases getElem_snoc hd with ⟨_, e2⟩ | ⟨e2, _⟩
          · exact r2.ct i p d e e2
          · omega
        · rcases getElem_snoc hd with ⟨e2, _⟩ | ⟨_, rfl⟩
          · omega
          · exact hq2
    -- the loop
    refine ⟨_, rfl, q, rfl, ⟨_, SqT.of hq2⟩, for_tup (K := K) (a := q) (xs := c.map V.int) (fun j σ H' => ∃ v3 D' kvs', σ = [some (.ref A.f), some (.ref q), some (.int ((qs.map V.ref).length : Nat)), v3] ∧
      FolR H' (cs 0) A D' (qs ++ [q]) aq kvs' (ks ++ [c]) ((ks ++ [c]).map (offC tr)) (gJ ks c j) tr rw pu ah br ∧ kvs'.length ≤ kvs.length + j ∧ Fr D D' H H' ∧ (∀ b, D b → D' b) ∧ H' q = some (.tup (c.map V.int))) ⟨none, D, kvs, rfl, F3, Nat.le_refl _, f2, fun _ h => h, hq2⟩ ?_ ?_ ?_⟩
    · rintro j σ H' _ ⟨_, _, _, _, _, _, _, _, hq'⟩
      exact SqT.of hq'
    · rintro j x σ H4 hj ⟨v3, D4, kv4, rfl, F4, l4, f4, d4, hq4⟩
      obtain ⟨m, rfl, hm⟩ := int_at hj
      have hjl := (List.getElem?_eq_some_iff.mp hm).1
      refine ⟨_, rfl, A.f, cs 0, A.dx, _, _, rfl, F4.ins, T.cl_Follower, T.n_Follower__having, rfl, A.hv, rfl, .inl ⟨kv4, .inl F4.hvd⟩, _, rfl, by show 0 ≤ sizeLine; decide, fun N hN => ?_⟩
      have s5 : Same H4 (upd H4 N (.lst [])) := same_new hN
      have nN := F4.not_new hN
      have nf : N ∉ fas A := fun z => nN (F4.in_ z)
      have hq5 := s5 _ _ hq4
      refine ⟨kv4, Sum.inl m, s5 _ _ F4.hvd, rfl, by omega, fun v hv => ?_, fun hv => ?_⟩
      · -- the list is there
        rcases F4.re.hv.at_ m with ⟨e, _⟩ | ⟨l, e, hl, nl⟩
        · rw [hv] at e
          cases e
        rw [hv] at e
        cases e
        have hl5 := s5 _ _ hl
        have gl : (gJ ks c j m).length ≤ 100001 := by
          unfold gJ nums
          rw [List.length_append]
          have a1 := List.length_filter_le (fun i => decide (m ∈ ks.getD i [])) (List.range ks.length)
          rw [List.length_range] at a1
          have a2 : (if m ∈ c.take j then [ks.length] else []).length ≤ 1 := by split <;> simp
          omega
        refine ⟨.inl ⟨rfl, _, SqL.of hl5⟩, _, rfl, l, _, _, rfl, rfl, hl5, by rw [List.length_map]; omega, ?_⟩
        have Dl : D4 l := (F4.re.dd l).mpr (.inr ⟨m, hv⟩)
        have lq : q ≠ l := ne_of hq5 hl5 (by intro z; cases z)
        rw [List.length_map, cn, nats_snoc]
        refine ⟨_, D4, kv4, rfl, ⟨?_, ?_⟩, by omega, (f4.trans (Fr.same s5) d4).trans (Fr.upd Dl) d4, d4, by rw [upd_ne lq]; exact hq5⟩
        · refine (F4.co.same s5).keep fun a ha o e => ?_
          rw [upd_ne (fun z : a = l => nl (by rw [← z]; exact ha))]
          exact e
        · have R5 := F4.re.same s5
          refine ⟨R5.cn, fun i p d hp hd => ?_, R5.an, fun i p z hp hz => ?_, ⟨fun x => ?_, R5.hv.one⟩, R5.dd⟩
          · have e := R5.ct i p d hp hd
            rw [upd_ne (ne_of e hl5 (by intro z; cases z))]
            exact e
          · have e := R5.at_ i p z hp hz
            rw [upd_ne (ne_of e hl5 (by intro z; cases z))]
            exact e
          · rw [gJ_at hn hm]
            by_cases ex : x = m
            · subst ex
              rw [if_pos rfl]
              exact .inr ⟨l, hv, upd_same, nl⟩
            · rw [if_neg ex]
              rcases R5.hv.at_ x with z | ⟨l', e', hl', nl'⟩
              · exact .inl z
              · refine .inr ⟨l', e', ?_, nl'⟩
                rw [upd_ne (fun z : l' = l => ex (R5.hv.one x m l (by rw [← z]; exact e') hv))]
                exact hl'
      · -- a new list
        have ge : gJ ks c j m = [] := by
          rcases F4.re.hv.at_ m with ⟨_, e⟩ | ⟨l, e, _⟩
          · exact e
          · rw [hv] at e
            cases e
        have hvN : A.hv ≠ N := fun z => nf (by rw [← z]; simp [fas])
        have hN6 : (upd (upd H4 N (.lst [])) A.hv (.dK (putK kv4 (Sum.inl m : Key) (.ref N)))) N = some (.lst []) := by
          rw [upd_ne hvN.symm, upd_same]
        refine ⟨.inl ⟨rfl, _, SqL.of hN6⟩, _, rfl, N, _, _, rfl, rfl, hN6, by show 0 < sizeLine; decide, ?_⟩
        have k6 : ∀ b u, H4 b = some u → b ≠ A.hv → (upd (upd (upd H4 N (.lst [])) A.hv (.dK (putK kv4 (Sum.inl m : Key) (.ref N)))) N (.lst ([] ++ [V.int ((qs.map V.ref).length : Nat)]))) b = some u := fun b u e nb => by
          rw [upd_ne (ne_of_none e hN), upd_ne nb, upd_ne (ne_of_none e hN)]
          exact e
        have qhv : q ≠ A.hv := ne_of hq4 F4.hvd (by intro z; cases z)
        have kl : (putK kv4 (Sum.inl m : Key) (V.ref N)).length = kv4.length + 1 := by
          rw [putK_new _ hv, List.length_append]
          rfl
        refine ⟨_, fun b => D4 b ∨ b = N, putK kv4 (Sum.inl m) (.ref N), rfl, ⟨?_, ?_⟩, by omega, ?_, fun b h => .inl (d4 b h), k6 q _ hq4 qhv⟩
        · have c6 := (F4.co.same s5).put 3 rfl (.dK (putK kv4 (Sum.inl m : Key) (.ref N)))
          exact c6.keep fun a ha o e => by
            rw [upd_ne (fun z : a = N => nf (by rw [← z]; exact ha))]
            exact e
        · have R4 := F4.re
          refine ⟨R4.cn, fun i p d hp hd => ?_, R4.an, fun i p z hp hz => ?_, ⟨fun x => ?_, fun x x' l h1 h2 => ?_⟩, fun b => ?_⟩
          · have e := R4.ct i p d hp hd
            exact k6 _ _ e (ne_of e F4.hvd (by intro z; cases z))
          · have e := R4.at_ i p z hp hz
            exact k6 _ _ e (ne_of e F4.hvd (by intro z; cases z))
          · rw [gJ_at hn hm, valV_put]
            by_cases ex : x = m
            · subst ex
              rw [if_pos rfl, if_pos rfl, ge]
              refine .inr ⟨N, rfl, ?_, nf⟩
              rw [upd_same, List.length_map, cn]
              rfl
            · rw [if_neg ex, if_neg (fun z => ex (Sum.inl.inj z))]
              rcases R4.hv.at_ x with z | ⟨l', e', hl', nl'⟩
              · exact .inl z
              · exact .inr ⟨l', e', k6 _ _ hl' (fun z => nl' (by rw [z]; simp [fas])), nl'⟩
          · rw [valV_put] at h1 h2
            have old : ∀ y : Int, valV kv4 (Sum.inl y : Key) = some (.ref N) → False := fun y e => by
              exact nN ((R4.dd N).mpr (.inr ⟨y, e⟩))
            by_cases e1 : (Sum.inl x : Key) = Sum.inl m
            · rw [if_pos e1] at h1
              by_cases e2 : (Sum.inl x' : Key) = Sum.inl m
              · exact (Sum.inl.inj e1).trans (Sum.inl.inj e2).symm
              · rw [if_neg e2] at h2
                cases h1
                exact (old x' h2).elim
            · rw [if_neg e1] at h1
              by_cases e2 : (Sum.inl x' : Key) = Sum.inl m
              · rw [if_pos e2] at h2
                cases h2
                exact (old x h1).elim
              · rw [if_neg e2] at h2
                exact R4.hv.one x x' l h1 h2
          · constructor
            · rintro (h | rfl)
              · rcases (R4.dd b).mp h with z | ⟨y, z⟩
                · exact .inl z
                · refine .inr ⟨y, ?_⟩
                  rw [valV_put, if_neg fun e => by rw [Sum.inl.inj e, hv] at z; cases z]
                  exact z
              · exact .inr ⟨m, by rw [valV_put, if_pos rfl]⟩
            · rintro (z | ⟨y, z⟩)
              · exact .inl ((R4.dd b).mpr (.inl z))
              · rw [valV_put] at z
                by_cases e : (Sum.inl y : Key) = Sum.inl m
                · rw [if_pos e] at z
                  cases z
                  exact .inr rfl
                · rw [if_neg e] at z
                  exact .inl ((R4.dd b).mpr (.inr ⟨y, z⟩))
        · refine ⟨fun b u e n => ?_, fun b h => ?_⟩
          · exact k6 b u (f4.k b u e n) fun z => n (by
              have : D4 b := by rw [z]; exact F4.in_ (by simp [fas])
              rcases f4.d b this with d | d
              · exact d
              · rw [d] at e
                cases e)
          · rcases h with h | rfl
            · exact f4.d b h
            · by_cases db : D b
              · exact .inl db
              · refine .inr ?_
                cases e : H b with
                | none => rfl
                | some u =>
                  rw [f4.k b u e db] at hN
                  cases hN
    · rintro σ H4 ⟨v3, D4, kv4, rfl, F4, l4, f4, d4, hq4⟩
      rw [List.length_map, gJ_end] at F4
      exact k H4 D4 kv4 F4 (by rw [List.length_map] at l4; exact l4) f4 d4
end

def spBring (C : Addr) : Sp := fun vs H Q _ => ∃ (A : FA) (D : Addr → Prop) (qs aq : List Addr) (kvs : List (Key × V)) (cs : List (List Int)) (tr : List Int) (rw : List (Option Int)) (pu : List Int) (ah : List (Int × Int)) (br : Option Int) (m : Int) (r : Option Int),
  vs = [.ref A.f, .int m, optI r] ∧ FolR H C A D qs aq kvs cs (cs.map (offC tr)) (nums cs) tr rw pu ah br ∧ m ∉ tr ∧ (∀ c ∈ cs, c.Nodup) ∧ cs.length ≤ 100000 ∧ tr.length ≤ 1000000 ∧ rw.length ≤ 1000000 ∧
  ∀ (H' : Hp) (p : Addr) (rd : List Nat), FolR H' C A D qs aq kvs cs (cs.map (offC (tr ++ [m]))) (nums cs) (tr ++ [m]) (rw ++ [r]) pu ah br → H p = none → H' p = some (.lst (rd.map fun i => V.int (i : Nat))) →
    rd = (nums cs (-m)).filter (fun i => decide ((left (tr ++ [m]) (cs.getD i [])).length ≤ 1)) → Fr D D H H' → Q (.ref p) H'
/-- offs, some of which are told anew -/
def oJ (cs : List (List Int)) (tr : List Int) (m : Int) (L : List Nat) : List Int := (List.range cs.length).map fun i => if i ∈ L then offC (tr ++ [m]) (cs.getD i []) else offC tr (cs.getD i [])
theorem range_getD {β : Type} (cs : List (List Int)) (f : List Int → β) : (List.range cs.length).map (fun i => f (cs.getD i [])) = cs.map f := by
  refine List.ext_getElem? fun i => ?_
  rw [List.getElem?_map, List.getElem?_map]
  by_cases h : i < cs.length
  · rw [List.getElem?_range h, List.getElem?_eq_getElem h]
    show some (f (cs.getD i [])) = some (f cs[i])
    rw [List.getD_eq_getElem?_getD, List.getElem?_eq_getElem h]
    rfl
  · rw [List.getElem?_eq_none (by rw [List.length_range]; omega), List.getElem?_eq_none (by omega)]
    rfl
theorem off_other {tr c : List Int} {m : Int} (h : -m ∉ c) : offC (tr ++ [m]) c = offC tr c := by
  have a := off_left (tr ++ [m]) c
  have b := off_left tr c
  rw [left_other h] at a
  omega
theorem oJ_zero (cs : List (List Int)) (tr : List Int) (m : Int) : oJ cs tr m [] = cs.map (offC tr) := by
  unfold oJ
  simp only [List.not_mem_nil, if_false]
  exact range_getD cs (offC tr)
theorem oJ_end (cs : List (List Int)) (tr : List Int) (m : Int) : oJ cs tr m (nums cs (-m)) = cs.map (offC (tr ++ [m])) := by
  rw [← range_getD cs (offC (tr ++ [m]))]
  unfold oJ
  refine List.map_congr_left fun i hi => ?_
  have hl := List.mem_range.mp hi
  by_cases h : i ∈ nums cs (-m)
  · rw [if_pos h]
  · rw [if_neg h]
    refine (off_other fun z => h (mem_nums.mpr ⟨cs[i], List.getElem?_eq_getElem hl, ?_⟩)).symm
    rw [List.getD_eq_getElem?_getD, List.getElem?_eq_getElem hl] at z
    exact z
theorem oJ_len (cs : List (List Int)) (tr : List Int) (m : Int) (L : List Nat) : (oJ cs tr m L).length = cs.length := by
  unfold oJ
  rw [List.length_map, List.length_range]
theorem oJ_at {cs : List (List Int)} {tr : List Int} {m : Int} {L : List Nat} {i : Nat} {c : List Int} (h : cs[i]? = some c) : (oJ cs tr m L)[i]? = some (if i ∈ L then offC (tr ++ [m]) c else offC tr c) := by
  have hl := (List.getElem?_eq_some_iff.mp h).1
  unfold oJ
  rw [List.getElem?_map, List.getElem?_range hl]
  have e : cs.getD i [] = c := by
    rw [List.getD_eq_getElem?_getD, h]
    rfl
  show some (if i ∈ L then offC (tr ++ [m]) (cs.getD i []) else offC tr (cs.getD i [])) = some _
  rw [e]
theorem off_has {tr c : List Int} {m : Int} (hn : c.Nodup) (hm : m ∉ tr) (h : -m ∈ c) : offC (tr ++ [m]) c = offC tr c + 1 := by
  have a := off_left (tr ++ [m]) c
  have b := off_left tr c
  have d := left_has hn hm h
  omega
theorem oJ_set {cs : List (List Int)} {tr : List Int} {m : Int} {L : List Nat} {i : Nat} {c : List Int} (h : cs[i]? = some c) : (oJ cs tr m L).set i (offC (tr ++ [m]) c) = oJ cs tr m (L ++ [i]) := by
  have hl := (List.getElem?_eq_some_iff.mp h).1
  refine List.ext_getElem? fun j => ?_
  by_cases e : i = j
  · subst e
    rw [List.getElem?_set_self (by rw [oJ_len]; exact hl), oJ_at h, if_pos (List.mem_append_right _ List.mem_cons_self)]
  · rw [List.getElem?_set_ne e]
    by_cases hj : j < cs.length
    · rw [oJ_at (List.getElem?_eq_getElem hj), oJ_at (List.getElem?_eq_getElem hj)]
      by_cases z : j ∈ L
      · rw [if_pos z, if_pos (List.mem_append_left _ z)]
      · rw [if_neg z, if_neg fun y => (List.mem_append.mp y).elim z fun y => e (List.mem_singleton.mp y).symm]
    · rw [List.getElem?_eq_none (by rw [oJ_len]; omega), List.getElem?_eq_none (by rw [oJ_len]; omega)]
section
variable {P : Program} {w : World} {K : PySem.W.Frag} {mg : Str → Option Value} {base : Heap}
theorem hm_bring {cs : Nat → Addr} (T : Top K mg cs) (h_Follower__is_ready : HasM P w K mg base (cs 0) 1 "_is_ready" ["self", "number"] (spReady (cs 0))) : HasM P w K mg base (cs 0) 2 "_bring" ["self", "mark", "row"] (spBring (cs 0)) := by
  refine has_ofM T.m_Follower__bring sc_Follower__bring bd_Follower__bring (fun vs H Q E h => ?_) (fun f cdv Ar outer s H vs Q E hr h => ?_)
  · obtain ⟨A, D, qs, aq, kvs, ks, tr, rw, pu, ah, br, m, r, rfl, _⟩ := h
    rfl
  · have hu := hu_of hr
    have nd := sc_Follower__bring.nd
    obtain ⟨A, D, qs, aq, kvs, ks, tr, rw, pu, ah, br, m, r, rfl, F, hm, hn, l1, l2, l3, k⟩ := h
    refine ⟨_, (pss_cons (ps_dput hu (pe_fld (pv 0) rfl) (pv 1) (pe_callB call_len_seq (by rfl) T.b_len (by decide +kernel) (pa_cons (pe_fld (pv 0) rfl) pa_nil)) rfl)
    (pss_cons (ps_expr (pe_bm PySem.F.plainAttrs_list PySem.F.slot_list_append PySem.F.type_list_append mt_append (pe_fld (pv 0) rfl) (pa_cons (pv 1) pa_nil)))
    (pss_cons (ps_expr (pe_bm PySem.F.plainAttrs_list PySem.F.slot_list_append PySem.F.type_list_append mt_append (pe_fld (pv 0) rfl) (pa_cons (pv 2) pa_nil)))
    (pss_cons (ps_set (i := 3) nd rfl (.inl rfl) (pe_lst pa_nil))
    (pss_cons (ps_for PassesOwn.never rfl (pi_list (pe_dget2 hu (pe_fld (pv 0) rfl) (pe_un un_neg (pv 1)) (pe_lst pa_nil) ⟨rfl, rfl, rfl, rfl⟩)) (pg_name (i := 4) nd rfl (.inl rfl))
      (pss_cons (ps_augS (pe_fld (pv 0) rfl) (pv 4) get_list pe_int ip_add set_list)
    (pss_one (ps_if (pt_val (pe_hasM T.cl_Follower h_Follower__is_ready (hr.mono (by omega)) (pv 0) (pa_cons (pv 4) pa_nil))) (pss_one (ps_expr (pe_bm PySem.F.plainAttrs_list PySem.F.slot_list_append PySem.F.type_list_append mt_append (pv 3) (pa_cons (pv 4) pa_nil)))) pss_nil))))
    (pss_one (ps_ret (pv 3)))))))), ?_⟩
    have line : 1100000 < sizeLine := by decide
    -- place
    refine ⟨_, rfl, A.f, cs 0, A.dx, _, _, rfl, F.ins, T.cl_Follower, T.n_Follower__trail, rfl, A.tr, _, rfl, .inl (SqL.of F.trl), _, rfl, A.f, cs 0, A.dx, _, _, rfl, F.ins, T.cl_Follower, T.n_Follower__place, rfl, _, rfl, A.pl, _, rfl, DPut.k (k := Sum.inl m) F.pld (by rw [plD_len]; omega), ?_⟩
    rw [List.length_map, plD_put hm]
    have c1 := F.co.put 5 rfl (.dK (plD (tr ++ [m])))
    have r1 := F.re.core (by simp [fas]) F.pld (fun xs z => by cases z) (.dK (plD (tr ++ [m])))
    have f1 : Fr D D H (upd H A.pl (.dK (plD (tr ++ [m])))) := Fr.upd (F.in_ (by simp [fas]))
    generalize upd H A.pl (.dK (plD (tr ++ [m]))) = H1 at c1 r1 f1
    -- trail
    have i1 : H1 A.f = some (.ins (cs 0) A.dx (fl A br)) := c1.at_ 0 _ _ rfl rfl
    have t1 : H1 A.tr = some (.lst (tr.map V.int)) := c1.at_ 4 _ _ rfl rfl
    refine ⟨_, rfl, A.f, cs 0, A.dx, _, _, rfl, i1, T.cl_Follower, T.n_Follower__trail, rfl, .inl ⟨rfl, _, SqL.of t1⟩, _, rfl, A.tr, _, _, rfl, rfl, t1, by rw [List.length_map]; omega, ?_⟩
    have c2 := c1.put 4 rfl (.lst (tr.map V.int ++ [.int m]))
    have r2 := r1.core (a := A.tr) (by simp [fas]) t1 (fun xs z => by cases z) (.lst (tr.map V.int ++ [.int m]))
    have f2 : Fr D D H (upd H1 A.tr (.lst (tr.map V.int ++ [.int m]))) := f1.trans (Fr.upd (F.in_ (by simp [fas]))) fun _ h => h
    generalize upd H1 A.tr (.lst (tr.map V.int ++ [.int m])) = H2 at c2 r2 f2
    rw [ints_snoc] at c2
    -- rows
    have i2 : H2 A.f = some (.ins (cs 0) A.dx (fl A br)) := c2.at_ 0 _ _ rfl rfl
    have t2 : H2 A.rw = some (.lst (rw.map optI)) := c2.at_ 6 _ _ rfl rfl
    refine ⟨_, rfl, A.f, cs 0, A.dx, _, _, rfl, i2, T.cl_Follower, T.n_Follower__rows, rfl, .inl ⟨rfl, _, SqL.of t2⟩, _, rfl, A.rw, _, _, rfl, rfl, t2, by rw [List.length_map]; omega, ?_⟩
    have c3 := c2.put 6 rfl (.lst (rw.map optI ++ [optI r]))
    have r3 := r2.core (a := A.rw) (by simp [fas]) t2 (fun xs z => by cases z) (.lst (rw.map optI ++ [optI r]))
    have f3 : Fr D D H (upd H2 A.rw (.lst (rw.map optI ++ [optI r]))) := f2.trans (Fr.upd (F.in_ (by simp [fas]))) fun _ h => h
    generalize upd H2 A.rw (.lst (rw.map optI ++ [optI r])) = H3 at c3 r3 f3
    rw [opts_snoc] at c3
    have F3 : FolR H3 (cs 0) A D qs aq kvs ks (ks.map (offC tr)) (nums ks) (tr ++ [m]) (rw ++ [r]) pu ah br := ⟨c3, r3⟩
    -- ready
    refine ⟨by show 0 ≤ sizeLine; decide, fun N hN => ?_⟩
    have F4 := F3.same (same_new (o := .lst []) hN)
    have f4 : Fr D D H (upd H3 N (.lst [])) := f3.trans (Fr.same (same_new hN)) fun _ h => h
    have nN := F3.not_new hN
    have nNf : N ∉ fas A := fun z => nN (F3.in_ z)
    have hN4 : (upd H3 N (.lst [])) N = some (.lst (([] : List Nat).map fun i => V.int (i : Nat))) := upd_same
    have hN0 : H N = none := by
      cases e : H N with
      | none => rfl
      | some u =>
        rw [f3.k N u e nN] at hN
        cases hN
    generalize upd H3 N (.lst []) = H4 at F4 f4 hN4
    refine ⟨_, rfl, A.f, cs 0, A.dx, _, _, rfl, F4.ins, T.cl_Follower, T.n_Follower__having, rfl, A.hv, rfl, .inl ⟨kvs, .inl F4.hvd⟩, _, rfl, m, rfl, by show 0 ≤ sizeLine; decide, fun E5 hE => ?_⟩
    have s5 : Same H4 (upd H4 E5 (.lst [])) := same_new hE
    have F5 := F4.same s5
    have f5 : Fr D D H (upd H4 E5 (.lst [])) := f4.trans (Fr.same s5) fun _ h => h
    have nE := F4.not_new hE
    have hN5 := s5 _ _ hN4
    have nEN : E5 ≠ N := (ne_of_none hN4 hE).symm
    have there : ∃ l, ((valV kvs (Sum.inl (-m) : Key)).getD (.ref E5)) = .ref l ∧ (upd H4 E5 (.lst [])) l = some (.lst ((nums ks (-m)).map fun i => V.int (i : Nat))) ∧ l ∉ fas A ∧ l ≠ N := by
      rcases F5.re.hv.at_ (-m) with ⟨e, e2⟩ | ⟨l, e, hl, nl⟩
      · rw [e, e2]
        exact ⟨E5, rfl, upd_same, fun z => nE (F4.in_ z), nEN⟩
      · rw [e]
        exact ⟨l, rfl, hl, nl, fun z => nN ((F3.re.dd N).mpr (.inr ⟨-m, by rw [← z]; exact e⟩))⟩
    generalize upd H4 E5 (.lst []) = H5 at F5 f5 hN5 there
    obtain ⟨l, el, hl, nl, nlN⟩ := there
    refine ⟨_, DGet.k (k := (Sum.inl (-m) : Key)) F5.hvd, l, el, ⟨_, SqL.of hl⟩, for_list (K := K) (a := l) (xs := (nums ks (-m)).map fun i => V.int (i : Nat)) (fun j σ H' => ∃ v4, σ = [some (.ref A.f), some (.int m), some (optI r), some (.ref N), v4] ∧
      FolR H' (cs 0) A D qs aq kvs ks (oJ ks tr m ((nums ks (-m)).take j)) (nums ks) (tr ++ [m]) (rw ++ [r]) pu ah br ∧ H' l = some (.lst ((nums ks (-m)).map fun i => V.int (i : Nat))) ∧
      H' N = some (.lst ((((nums ks (-m)).take j).filter (fun i => decide ((left (tr ++ [m]) (ks.getD i [])).length ≤ 1))).map fun i => V.int (i : Nat))) ∧ Fr D D H H') ⟨none, rfl, ?_, hl, hN5, f5⟩ ?_ ?_ ?_⟩
    · rw [List.take_zero, oJ_zero]
      exact F5
    · rintro j σ H' _ ⟨_, _, _, hl', _⟩
      exact SqL.of hl'
    · rintro j x σ H6 hj ⟨v4, rfl, F6, hl6, hN6, f6⟩
      obtain ⟨i, rfl, hi⟩ : ∃ i : Nat, x = .int (i : Nat) ∧ (nums ks (-m))[j]? = some i := by
        rw [List.getElem?_map] at hj
        cases e : (nums ks (-m))[j]? with
        | none => rw [e] at hj; cases hj
        | some i => rw [e] at hj; exact ⟨i, (Option.some.inj hj).symm, rfl⟩
      obtain ⟨c, hc, hmc⟩ := mem_nums.mp (List.mem_of_getElem? hi)
      have hil := (List.getElem?_eq_some_iff.mp hc).1
      have nt : i ∉ (nums ks (-m)).take j := fun z => by
        obtain ⟨i', hi', e⟩ := mem_take z
        obtain ⟨a1, a2⟩ := List.getElem?_eq_some_iff.mp e
        obtain ⟨b1, b2⟩ := List.getElem?_eq_some_iff.mp hi
        have := (List.getElem_inj (nums_nodup ks (-m))).mp (a2.trans b2.symm)
        omega
      have ho := oJ_at (tr := tr) (m := m) (L := (nums ks (-m)).take j) hc
      rw [if_neg nt] at ho
      have ho2 : ((oJ ks tr m ((nums ks (-m)).take j)).map V.int)[i]? = some (.int (offC tr c)) := by
        rw [List.getElem?_map, ho]
        rfl
      refine ⟨_, rfl, A.f, cs 0, A.dx, _, _, rfl, F6.ins, T.cl_Follower, T.n_Follower__offs, rfl, _, rfl, A.ofs, _, _, _, rfl, rfl, SqL.of F6.ofs, atI_nat ho2, _, _, rfl, rfl, A.ofs, _, _, i, rfl, rfl, F6.ofs, ?_, ?_⟩
      · unfold ixN
        rw [if_pos (by omega), if_pos (by rw [List.length_map, oJ_len]; omega), Int.toNat_natCast]
      have eset : ((oJ ks tr m ((nums ks (-m)).take j)).map V.int).set i (V.int (offC tr c + 1)) = (oJ ks tr m ((nums ks (-m)).take j ++ [i])).map V.int := by
        rw [← off_has (hn c (List.mem_of_getElem? hc)) hm hmc, ← List.map_set, oJ_set hc]
      dsimp only
      rw [eset]
      have F7 := F6.setOf (oJ ks tr m ((nums ks (-m)).take j ++ [i]))
      have f7 : Fr D D H (upd H6 A.ofs (.lst ((oJ ks tr m ((nums ks (-m)).take j ++ [i])).map V.int))) := f6.trans (Fr.upd (F.in_ (by simp [fas]))) fun _ h => h
      have hl7 : (upd H6 A.ofs (.lst ((oJ ks tr m ((nums ks (-m)).take j ++ [i])).map V.int))) l = some (.lst ((nums ks (-m)).map fun i => V.int (i : Nat))) := by
        rw [upd_ne (fun z => nl (by rw [z]; simp [fas]))]
        exact hl6
      have hN7 : (upd H6 A.ofs (.lst ((oJ ks tr m ((nums ks (-m)).take j ++ [i])).map V.int))) N = some (.lst ((((nums ks (-m)).take j).filter (fun i => decide ((left (tr ++ [m]) (ks.getD i [])).length ≤ 1))).map fun i => V.int (i : Nat))) := by
        rw [upd_ne (fun z => nNf (by rw [z]; simp [fas]))]
        exact hN6
      generalize upd H6 A.ofs (.lst ((oJ ks tr m ((nums ks (-m)).take j ++ [i])).map V.int)) = H7 at F7 f7 hl7 hN7
      have ho7 := oJ_at (tr := tr) (m := m) (L := (nums ks (-m)).take j ++ [i]) hc
      rw [if_pos (List.mem_append_right _ List.mem_cons_self)] at ho7
      have cn := F7.re.cn
      have hqi : qs[i]? = some qs[i] := List.getElem?_eq_getElem (by omega)
      have htk : (nums ks (-m)).take (j + 1) = (nums ks (-m)).take j ++ [i] := by
        rw [List.take_add_one, hi]
        rfl
      have ec : ks.getD i [] = c := by
        rw [List.getD_eq_getElem?_getD, hc]
        rfl
      refine ⟨_, rfl, A.f, A.dx, _, rfl, F7.ins, rfl, _, rfl, A, br, qs, _, i, _, qs[i], c, rfl, F7.ins, F7.ofs, ho7, F7.cl, hqi, F7.re.ct i _ _ hqi hc, _, rfl, ite2 (fun z => ?_) (fun z => ?_)⟩
      · have z' : offC (tr ++ [m]) c ≥ (c.length : Int) - 1 := of_decide_eq_true z
        have ol := off_left (tr ++ [m]) c
        refine ⟨_, rfl, .inl ⟨rfl, _, SqL.of hN7⟩, _, rfl, N, _, _, rfl, rfl, hN7, ?_, ?_⟩
        · rw [List.length_map]
          have a1 := List.length_filter_le (fun i => decide ((left (tr ++ [m]) (ks.getD i [])).length ≤ 1)) ((nums ks (-m)).take j)
          have a2 := List.length_take_le' j (nums ks (-m))
          have a3 : (nums ks (-m)).length ≤ ks.length := by
            unfold nums
            have := List.length_filter_le (fun i => decide (-m ∈ ks.getD i [])) (List.range ks.length)
            rw [List.length_range] at this
            exact this
          omega
        rw [nats_snoc]
        refine ⟨_, rfl, ?_, ?_, ?_, ?_⟩
        · rw [htk]
          have Fx := F7
          refine ⟨Fx.co.keep fun a ha o e => ?_, Fx.re.keep (fun b xs e => ?_) fun b nb db o e => ?_⟩
          · rw [upd_ne (fun z : a = N => nNf (by rw [← z]; exact ha))]
            exact e
          · rw [upd_ne (ne_of e hN7 (by intro z; cases z))]
            exact e
          · rw [upd_ne (fun z : b = N => nN (by rw [← z]; exact db))]
            exact e
        · rw [upd_ne nlN]
          exact hl7
        · rw [upd_same, htk, List.filter_append, List.filter_cons_of_pos (by rw [ec]; exact decide_eq_true (by omega)), List.filter_nil]
        · refine ⟨fun b o e nb => ?_, fun b hb => .inl hb⟩
          rw [upd_ne (ne_of_none e hN0)]
          exact f7.k b o e nb
      · have z' : ¬ offC (tr ++ [m]) c ≥ (c.length : Int) - 1 := fun y => z (decide_eq_true y)
        have ol := off_left (tr ++ [m]) c
        refine ⟨_, rfl, by rw [htk]; exact F7, hl7, ?_, f7⟩
        rw [hN7, htk, List.filter_append, List.filter_cons_of_neg (by rw [ec]; simp; omega), List.filter_nil, List.append_nil]
    · rintro σ H6 ⟨v4, rfl, F6, hl6, hN6, f6⟩
      rw [List.length_map, List.take_length] at F6 hN6
      rw [oJ_end] at F6
      exact ⟨_, rfl, k H6 N _ F6 hN0 hN6 rfl f6⟩
end

structure Okay (cs : List (List Int)) (pu tr : List Int) (rw : List (Option Int)) : Prop where
  nd : tr.Nodup
  con : ∀ m ∈ tr, -m ∉ tr
  just : Just cs pu tr rw
  len : rw.length = tr.length
structure Good (cs : List (List Int)) : Prop where
  nd : ∀ c ∈ cs, c.Nodup
  nz : ∀ c ∈ cs, ∀ m ∈ c, m ≠ 0
  n : cs.length ≤ 100000
  fl : cs.flatten.length ≤ 800000
theorem Okay.small {cs : List (List Int)} {pu tr : List Int} {rw : List (Option Int)} (h : Okay cs pu tr rw) : tr.length ≤ pu.length + cs.flatten.length := by
  have e := nodup_le (xs := tr) (ys := pu ++ cs.flatten) h.nd fun m hm => by
    obtain ⟨i, e⟩ := List.mem_iff_getElem?.mp hm
    rcases h.just i m e with ⟨_, hp⟩ | ⟨k, c, _, hc, hmc, _⟩
    · exact List.mem_append_left _ hp
    · exact List.mem_append_right _ (List.mem_flatten.mpr ⟨c, List.mem_of_getElem? hc, hmc⟩)
  rw [List.length_append] at e
  exact e
theorem Just.snoc {cs : List (List Int)} {pu tr : List Int} {rw : List (Option Int)} {x : Int} {r : Option Int} (h : Just cs pu tr rw) (len : rw.length = tr.length)
    (hx : (r = none ∧ x ∈ pu) ∨ ∃ (k : Nat) (c : List Int), r = some (k : Int) ∧ cs[k]? = some c ∧ x ∈ c ∧ ∀ y ∈ c, y ≠ x → -y ∈ tr) : Just cs pu (tr ++ [x]) (rw ++ [r]) := by
  intro i m hm
  rcases getElem_snoc hm with ⟨hl, e⟩ | ⟨hl, e⟩
  · rcases h i m e with ⟨a, b⟩ | ⟨k, c, a, b, d, f⟩
    · exact .inl ⟨by rw [List.getElem?_append_left (by omega)]; exact a, b⟩
    · exact .inr ⟨k, c, by rw [List.getElem?_append_left (by omega)]; exact a, b, d, fun y hy hne => by rw [List.take_append_of_le_length (by omega)]; exact f y hy hne⟩
  · subst e
    have er : (rw ++ [r])[i]? = some r := by
      rw [hl, ← len, List.getElem?_append_right (Nat.le_refl _), Nat.sub_self]
      rfl
    rcases hx with ⟨rfl, hp⟩ | ⟨k, c, rfl, hc, hxc, ho⟩
    · exact .inl ⟨er, hp⟩
    · exact .inr ⟨k, c, er, hc, hxc, fun y hy hne => by rw [hl, List.take_append_of_le_length (Nat.le_refl _), List.take_length]; exact ho y hy hne⟩
theorem Okay.snoc {cs : List (List Int)} {pu tr : List Int} {rw : List (Option Int)} {x : Int} {r : Option Int} (h : Okay cs pu tr rw) (x0 : x ≠ 0) (nx : x ∉ tr) (nx2 : -x ∉ tr)
    (hx : (r = none ∧ x ∈ pu) ∨ ∃ (k : Nat) (c : List Int), r = some (k : Int) ∧ cs[k]? = some c ∧ x ∈ c ∧ ∀ y ∈ c, y ≠ x → -y ∈ tr) : Okay cs pu (tr ++ [x]) (rw ++ [r]) := by
  refine ⟨?_, fun m hm z => ?_, h.just.snoc h.len hx, by rw [List.length_append, List.length_append, h.len]; rfl⟩
  · rw [List.nodup_append]
    exact ⟨h.nd, by simp, fun a ha b hb e => by rw [List.mem_singleton] at hb; exact nx (by rw [← hb, ← e]; exact ha)⟩
  · rcases List.mem_append.mp hm with a | a
    · rcases List.mem_append.mp z with b | b
      · exact h.con m a b
      · rw [List.mem_singleton] at b
        exact nx2 (by rw [← b, Int.neg_neg]; exact a)
    · rw [List.mem_singleton] at a
      subst a
      rcases List.mem_append.mp z with b | b
      · exact nx2 b
      · rw [List.mem_singleton] at b
        omega
def somes (l : List Int) : List (Option Int) := l.map some
def spSettle (C : Addr) : Sp := fun vs H Q _ => ∃ (A : FA) (D : Addr → Prop) (qs aq : List Addr) (kvs : List (Key × V)) (cs : List (List Int)) (tr : List Int) (rw : List (Option Int)) (pu : List Int) (ah : List (Int × Int)) (p : Addr) (ws : List Nat),
  vs = [.ref A.f, .ref p] ∧ FolR H C A D qs aq kvs cs (cs.map (offC tr)) (nums cs) tr rw pu ah none ∧ H p = some (.lst (ws.map fun i => V.int (i : Nat))) ∧ (∀ i ∈ ws, i < cs.length) ∧ Okay cs pu tr rw ∧ Good cs ∧
  (∀ i c, cs[i]? = some c → i ∉ ws → Quiet tr c) ∧ ws.length ≤ 100000 ∧ pu.length ≤ 100000 ∧
  ∀ (H' : Hp) (nw mr : List Int) (br : Option Int), FolR H' C A D qs aq kvs cs (cs.map (offC (tr ++ nw))) (nums cs) (tr ++ nw) (rw ++ somes mr) pu ah br → Okay cs pu (tr ++ nw) (rw ++ somes mr) →
    (br = none → Closed cs (tr ++ nw)) → (∀ r, br = some r → ∃ (k : Nat) (c : List Int), r = (k : Int) ∧ cs[k]? = some c ∧ ∀ x ∈ c, -x ∈ tr ++ nw) → Fr D D H H' → Q .non H'
theorem left_filter (tr c : List Int) : ((c.map V.int).filter fun x => match x with | .int m => !decide (-m ∈ tr) | _ => false) = (left tr c).map V.int := by
  unfold left
  rw [List.filter_map]
  rfl
section
variable {P : Program} {w : World} {K : PySem.W.Frag} {mg : Str → Option Value} {base : Heap}
theorem hm_settle {cs : Nat → Addr} (T : Top K mg cs) (h_Follower__is_ready : HasM P w K mg base (cs 0) 1 "_is_ready" ["self", "number"] (spReady (cs 0))) (h_Follower__bring : HasM P w K mg base (cs 0) 2 "_bring" ["self", "mark", "row"] (spBring (cs 0))) :
    HasM P w K mg base (cs 0) 3 "_settle" ["self", "numbers"] (spSettle (cs 0)) := by
  refine has_ofM T.m_Follower__settle sc_Follower__settle bd_Follower__settle (fun vs H Q E h => ?_) (fun f cdv Ar outer s H vs Q E hr h => ?_)
  · obtain ⟨A, D, qs, aq, kvs, ks, tr, rw, pu, ah, p, ws, rfl, _⟩ := h
    rfl
  · have hu := hu_of hr
    have nd := sc_Follower__settle.nd
    obtain ⟨A, D, qs, aq, kvs, ks, tr, rw, pu, ah, p, ws, rfl, F, hp, hws, ok, gd, pend, l1, l2, k⟩ := h
    refine ⟨_, (pss_cons (ps_set (i := 2) nd rfl (.inl rfl) (pe_callTy call_list_of (by rfl) T.b_list (by decide +kernel) (pa_cons (pv 1) pa_nil)))
    (pss_cons (ps_set (i := 3) nd rfl (.inl rfl) pe_int)
    (pss_one (ps_while PassesOwn.never (pt_cmpR op_lt (pv 3) (pe_callB call_len_seq (by rfl) T.b_len (by decide +kernel) (pa_cons (pv 2) pa_nil)) (nomark _)) (pss_cons (ps_set (i := 4) nd rfl (.inl rfl) (pe_ix ix_list (pv 2) (pv 3) (fun _ _ => rfl)))
    (pss_cons (ps_aug (i := 3) nd rfl (.inl rfl) pe_int ip_add)
    (pss_one (ps_if (pt_val (pe_hasM T.cl_Follower h_Follower__is_ready (hr.mono (by omega)) (pv 0) (pa_cons (pv 4) pa_nil))) (pss_cons (ps_setLc (i := 5) (own := [("mark", 6)]) (by rfl) nd rfl rfl (sw_true rfl rfl rfl (by decide +kernel)) (pi_tup (pe_ix ix_list (pe_fld (pv 0) rfl) (pv 4) (fun _ _ => rfl))) (blkOk_by (own := [("mark", 6)]) (N := nm_Follower__settle) (sc := defScope s_Follower__settle) (by decide +kernel)) (fun _ _ _ _ _ => pg_name (i := 6) nd rfl (.inl rfl)) (fun _ _ _ _ _ => pts_one (pt_cmp (pc_dnotin hu (pe_un un_neg (pv 6)) (pe_fldK (K := K) rfl (pv 0) rfl)))) (fun _ _ _ _ _ => (pv 6)))
    (pss_cons (ps_if (pt_not (pt_truth (pv 5) (by intro _; rfl))) (pss_cons (ps_fld (pv 0) (pv 4) rfl)
    (pss_one ps_retN)) pss_nil)
    (pss_one (ps_if (pt_cmp (pc_dnotin hu (pe_ix ix_list (pv 5) pe_int (fun _ _ => rfl)) (pe_fld (pv 0) rfl))) (pss_one (ps_expr (pe_bm PySem.F.plainAttrs_list PySem.F.slot_list_extend PySem.F.type_list_extend mt_extend (pv 2) (pa_cons (pe_hasM T.cl_Follower h_Follower__bring (hr.mono (by omega)) (pv 0) (pa_cons (pe_ix ix_list (pv 5) pe_int (fun _ _ => rfl)) (pa_cons (pv 4) pa_nil))) pa_nil)))) pss_nil)))) pss_nil)))))))), ?_⟩
    have line : 1100000 < sizeLine := by decide
    refine ⟨_, rfl, p, _, rfl, .inl (SqL.of hp), fun wq hwq => ?_⟩
    have s1 : Same H (upd H wq (.lst (ws.map fun i => V.int (i : Nat)))) := same_new hwq
    have nwq := F.not_new hwq
    have lsum := leftSum_le ks tr
    have gfl := gd.fl
    have gn := gd.n
    refine ⟨fun n σ H' => ∃ (at' : Nat) (v4 v5 v6 : Option V) (w' : List Nat) (nw mr : List Int), σ = [some (.ref A.f), some (.ref p), some (.ref wq), some (.int (at' : Nat)), v4, v5, v6] ∧
      FolR H' (cs 0) A D qs aq kvs ks (ks.map (offC (tr ++ nw))) (nums ks) (tr ++ nw) (rw ++ somes mr) pu ah none ∧ Okay ks pu (tr ++ nw) (rw ++ somes mr) ∧ H' wq = some (.lst (w'.map fun i => V.int (i : Nat))) ∧
      at' ≤ w'.length ∧ (∀ i ∈ w', i < ks.length) ∧ (∀ i c, ks[i]? = some c → i ∉ w'.drop at' → Quiet (tr ++ nw) c) ∧ w'.length + leftSum ks (tr ++ nw) ≤ ws.length + leftSum ks tr ∧
      n = leftSum ks (tr ++ nw) + (w'.length - at') ∧ Fr D D H H', ⟨leftSum ks (tr ++ []) + (ws.length - 0), 0, none, none, none, ws, [], [], rfl, ?_, ?_, upd_same, Nat.zero_le _, hws, ?_, ?_, rfl, Fr.same s1⟩, ?_⟩
    · have F1 := F.same s1
      unfold somes
      simp only [List.append_nil, List.map_nil]
      exact F1
    · unfold somes
      simp only [List.append_nil, List.map_nil]
      exact ok
    · intro i c hc hi
      rw [List.append_nil]
      exact pend i c hc hi
    · rw [List.append_nil]
      exact Nat.le_refl _
    rintro n σ H1 ⟨at', v4, v5, v6, w', nw, mr, rfl, F1, ok1, hw1, la, hw'', pend1, ls1, rfl, f1⟩
    have tl := ok1.small
    have rl := ok1.len
    refine ⟨_, rfl, _, rfl, wq, _, rfl, .inl (SqL.of hw1), _, _, rfl, rfl, _, rfl, ?_⟩
    rw [List.length_map]
    refine ite2 (fun hlt => ?_) (fun hlt => ?_)
    · have hlt' : (at' : Int) < (w'.length : Int) := of_decide_eq_true hlt
      have hl : at' < w'.length := by omega
      refine ⟨_, fun σ' H' h => h, ?_⟩
      have ei : w'[at']? = some w'[at'] := List.getElem?_eq_getElem hl
      have hik := hw'' _ (List.getElem_mem hl)
      have hdrop : w'.drop at' = w'[at'] :: w'.drop (at' + 1) := List.drop_eq_getElem_cons hl
      generalize w'[at'] = i at ei hik hdrop
      have evi : (w'.map fun i => V.int (i : Nat))[at']? = some (.int (i : Nat)) := by
        rw [List.getElem?_map, ei]
        rfl
      refine ⟨_, rfl, _, rfl, wq, _, _, _, rfl, rfl, SqL.of hw1, atI_nat evi, _, rfl, _, _, rfl, rfl, ?_⟩
      have hc : ks[i]? = some ks[i] := List.getElem?_eq_getElem hik
      generalize ks[i] = c at hc
      have hcm := List.mem_of_getElem? hc
      have cn := F1.re.cn
      have hqi : qs[i]? = some qs[i] := List.getElem?_eq_getElem (by omega)
      have hct := F1.re.ct i _ _ hqi hc
      generalize qs[i] = q at hqi hct
      have ho : (ks.map (offC (tr ++ nw)))[i]? = some (offC (tr ++ nw) c) := by
        rw [List.getElem?_map, hc]
        rfl
      have ol := off_left (tr ++ nw) c
      refine ⟨_, rfl, A.f, A.dx, _, rfl, F1.ins, rfl, _, rfl, A, none, qs, _, i, _, q, c, rfl, F1.ins, F1.ofs, ho, F1.cl, hqi, hct, _, rfl, ite2 (fun z => ?_) (fun z => ?_)⟩
      · have z' : offC (tr ++ nw) c ≥ (c.length : Int) - 1 := of_decide_eq_true z
        have few : (left (tr ++ nw) c).length ≤ 1 := by omega
        have eq : (qs.map V.ref)[i]? = some (.ref q) := by
          rw [List.getElem?_map, hqi]
          rfl
        have lcc : c.length ≤ 800000 := by
          have a1 : c.length ≤ ks.flatten.length := by
            obtain ⟨a, b, e⟩ := List.append_of_mem hcm
            rw [e, List.flatten_append, List.flatten_cons, List.length_append, List.length_append]
            omega
          omega
        refine ⟨_, rfl, A.f, cs 0, A.dx, _, _, rfl, F1.ins, T.cl_Follower, T.n_Follower__clauses, rfl, _, rfl, A.cl, _, _, _, rfl, rfl, SqL.of F1.cl, atI_nat eq, q, rfl, ⟨_, SqT.of hct⟩, fun L hL => lc_sel_tup (fun x => match x with | .int m => !decide (-m ∈ tr ++ nw) | _ => false) (fun x => x) (SqT.of hct) hL (by rw [List.length_map]; omega) (fun x hm => ?_) fun H2 s2 h2 => ?_⟩
        · obtain ⟨m, _, rfl⟩ := List.mem_map.mp hm
          refine ⟨rfl, fun H' s' R r => ⟨_, rfl, m, rfl, _, rfl, A.f, cs 0, A.dx, _, _, rfl, s' _ _ F1.ins, T.cl_Follower, T.n_Follower__place, rfl, A.pl, _, rfl, DGet.k (k := Sum.inl (-m)) (s' _ _ F1.pld), _, rfl, ?_⟩, fun _ H' s' R r => ⟨_, rfl, r H' (Same.refl _)⟩⟩
          rw [plD_is ok1.nd]
          exact r H' (Same.refl _)
        rw [left_filter, List.map_id'] at h2
        have F2 := F1.same s2
        have f2 : Fr D D H H2 := f1.trans (Fr.same s2) fun _ h => h
        have hw2 := s2 _ _ hw1
        refine ⟨_, rfl, _, .inl ⟨_, SqL.of h2, rfl⟩, ?_⟩
        cases el : left (tr ++ nw) c with
        | nil =>
          refine iteT ⟨_, rfl, _, rfl, A.f, cs 0, A.dx, _, rfl, F2.ins, T.cl_Follower, T.n_Follower__broken_row, by show 10 < 1000; decide, ?_⟩
          have F3 := F2.setBr (some (i : Int))
          refine k _ nw mr (some (i : Int)) F3 ok1 (fun e => by cases e) (fun r e => ?_) (f2.trans (Fr.upd (F.in_ (by simp [fas]))) fun _ h => h)
          cases e
          refine ⟨i, c, rfl, hc, fun x hx => ?_⟩
          by_cases y : -x ∈ tr ++ nw
          · exact y
          · have := mem_left.mpr ⟨hx, y⟩
            rw [el] at this
            cases this
        | cons x rest =>
          have er : rest = [] := by
            rw [el] at few
            cases rest with
            | nil => rfl
            | cons a b => simp at few
          subst er
          rw [el] at h2
          have hxc := mem_left.mp (by rw [el]; exact List.mem_cons_self : x ∈ left (tr ++ nw) c)
          have x0 := gd.nz c hcm x hxc.1
          refine iteF ⟨_, rfl, L, _, _, _, rfl, rfl, SqL.of h2, atI_nat (j := 0) rfl, _, rfl, A.f, cs 0, A.dx, _, _, rfl, F2.ins, T.cl_Follower, T.n_Follower__place, rfl, A.pl, _, rfl, DGet.k (k := Sum.inl x) F2.pld, _, rfl, ?_⟩
          rw [plD_is ok1.nd]
          by_cases hx : x ∈ tr ++ nw
          · rw [decide_eq_true hx]
            refine iteF ⟨leftSum ks (tr ++ nw) + (w'.length - (at' + 1)), by omega, at' + 1, _, _, _, w', nw, mr, rfl, F2, ok1, hw2, hl, hw'', fun i' c' hc' hi' => ?_, ls1, rfl, f2⟩
            by_cases e : i' = i
            · subst e
              rw [hc] at hc'
              cases hc'
              exact ⟨by rw [el]; simp, fun y hy => by rw [el] at hy; cases hy; exact hx⟩
            · exact pend1 i' c' hc' (by rw [hdrop]; exact fun y => (List.mem_cons.mp y).elim e hi')
          · rw [decide_eq_false hx]
            refine iteT ⟨_, rfl, .inl ⟨rfl, _, SqL.of hw2⟩, _, rfl, A.f, A.dx, _, rfl, F2.ins, rfl, _, rfl, L, _, _, _, rfl, rfl, SqL.of h2, atI_nat (j := 0) rfl, _, rfl, A, D, qs, aq, kvs, ks, tr ++ nw, rw ++ somes mr, pu, ah, none, x, some (i : Int), rfl, F2, hx, gd.nd, gn, by omega, by omega, fun H3 p3 rd F3 np3 hp3 erd f3 => ?_⟩
            have hw3 : H3 wq = some (.lst (w'.map fun i => V.int (i : Nat))) := f3.k _ _ hw2 nwq
            have lrd : rd.length ≤ (nums ks (-x)).length := by
              rw [erd]
              exact List.length_filter_le _ _
            have lsn := leftSum_snoc hx ks gd.nd
            have assoc : tr ++ nw ++ [x] = tr ++ (nw ++ [x]) := List.append_assoc _ _ _
            have assoc2 : rw ++ somes mr ++ [some (i : Int)] = rw ++ somes (mr ++ [(i : Int)]) := by
              unfold somes
              rw [List.map_append, List.append_assoc]
              rfl
            have ok3 : Okay ks pu (tr ++ nw ++ [x]) (rw ++ somes mr ++ [some (i : Int)]) := ok1.snoc x0 hx hxc.2 (.inr ⟨i, c, rfl, hc, hxc.1, fun y hy hne => by
              by_cases z : -y ∈ tr ++ nw
              · exact z
              · have m := mem_left.mpr ⟨hy, z⟩
                rw [el, List.mem_singleton] at m
                exact absurd m hne⟩)
            refine ⟨wq, p3, _, _, rfl, rfl, hw3, hp3, by rw [List.length_map, List.length_map]; omega, ?_⟩
            rw [← List.map_append]
            rw [assoc] at F3 ok3 lsn erd
            rw [assoc2] at F3 ok3
            have f23 : Fr D D H H3 := f2.trans f3 fun _ h => h
            refine ⟨leftSum ks (tr ++ (nw ++ [x])) + ((w' ++ rd).length - (at' + 1)), by rw [List.length_append]; omega, at' + 1, _, _, _, w' ++ rd, nw ++ [x], mr ++ [(i : Int)], rfl, ?_, ok3, upd_same, by rw [List.length_append]; omega, fun j hj => ?_, fun i' c' hc' hi' => ?_, by rw [List.length_append]; omega, rfl, ?_⟩
            · refine ⟨F3.co.keep fun a ha o e => ?_, F3.re.keep (fun b xs e => ?_) fun b nb db o e => ?_⟩
              · rw [upd_ne (fun z : a = wq => nwq (by rw [← z]; exact F3.in_ ha))]
                exact e
              · rw [upd_ne (ne_of e hw3 (by intro z; cases z))]
                exact e
              · rw [upd_ne (fun z : b = wq => nwq (by rw [← z]; exact db))]
                exact e
            · rcases List.mem_append.mp hj with a | a
              · exact hw'' j a
              · rw [erd] at a
                obtain ⟨c2, hc2, _⟩ := mem_nums.mp (List.mem_filter.mp a).1
                exact (List.getElem?_eq_some_iff.mp hc2).1
            · rw [List.drop_append_of_le_length (by omega)] at hi'
              have n1 : i' ∉ w'.drop (at' + 1) := fun y => hi' (List.mem_append_left _ y)
              have n2 : i' ∉ rd := fun y => hi' (List.mem_append_right _ y)
              by_cases e : i' = i
              · subst e
                rw [hc] at hc'
                cases hc'
                rw [← assoc]
                have e2 : left (tr ++ nw ++ [x]) c = [x] := by
                  rw [left_snoc, el, List.filter_cons_of_pos (by simp; omega), List.filter_nil]
                exact ⟨by rw [e2]; simp, fun y hy => by rw [e2] at hy; cases hy; exact List.mem_append_right _ List.mem_cons_self⟩
              · have q1 := pend1 i' c' hc' (by rw [hdrop]; exact fun y => (List.mem_cons.mp y).elim e n1)
                rw [← assoc]
                by_cases hm : -x ∈ c'
                · refine quiet_big ?_
                  have mn : i' ∈ nums ks (-x) := mem_nums.mpr ⟨c', hc', hm⟩
                  by_cases g : (left (tr ++ (nw ++ [x])) (ks.getD i' [])).length ≤ 1
                  · exact absurd (by rw [erd]; exact List.mem_filter.mpr ⟨mn, decide_eq_true g⟩) n2
                  · rw [List.getD_eq_getElem?_getD, hc'] at g
                    rw [assoc]
                    have g' : ¬ (left (tr ++ (nw ++ [x])) c').length ≤ 1 := g
                    omega
                · exact quiet_other hm q1
            · refine ⟨fun b o e nb => ?_, fun b hb => .inl hb⟩
              rw [upd_ne (ne_of_none e hwq)]
              exact f23.k b o e nb
      · have z' : ¬ offC (tr ++ nw) c ≥ (c.length : Int) - 1 := fun y => z (decide_eq_true y)
        refine ⟨leftSum ks (tr ++ nw) + (w'.length - (at' + 1)), by omega, at' + 1, _, _, _, w', nw, mr, rfl, F1, ok1, hw1, hl, hw'', fun i' c' hc' hi' => ?_, ls1, rfl, f1⟩
        by_cases e : i' = i
        · subst e
          rw [hc] at hc'
          cases hc'
          exact quiet_big (by omega)
        · exact pend1 i' c' hc' (by rw [hdrop]; exact fun y => (List.mem_cons.mp y).elim e hi')
    · have hlt' : ¬ (at' : Int) < (w'.length : Int) := fun y => hlt (decide_eq_true y)
      refine k H1 nw mr none F1 ok1 (fun _ c hc => ?_) (fun r e => by cases e) f1
      obtain ⟨i, ei⟩ := List.mem_iff_getElem?.mp hc
      exact pend1 i c ei (by rw [List.drop_eq_nil_of_le (by omega)]; simp)
end

structure Puts (pu : List Int) : Prop where
  nd : pu.Nodup
  con : ∀ m ∈ pu, -m ∉ pu
  n : pu.length ≤ 100000
theorem Puts.nz {pu : List Int} (h : Puts pu) {m : Int} (hm : m ∈ pu) : m ≠ 0 := fun z => by
  subst z
  exact h.con 0 hm hm
theorem Puts.snoc {pu : List Int} {m : Int} (h : Puts pu) (m0 : m ≠ 0) (h1 : m ∉ pu) (h2 : -m ∉ pu) (hl : pu.length < 100000) : Puts (pu ++ [m]) := by
  refine ⟨?_, fun x hx z => ?_, by rw [List.length_append]; exact hl⟩
  · rw [List.nodup_append]
    exact ⟨h.nd, by simp, fun a ha b hb e => by rw [List.mem_singleton] at hb; exact h1 (by rw [← hb, ← e]; exact ha)⟩
  · rcases List.mem_append.mp hx with a | a
    · rcases List.mem_append.mp z with b | b
      · exact h.con x a b
      · rw [List.mem_singleton] at b
        exact h2 (by rw [← b, Int.neg_neg]; exact a)
    · rw [List.mem_singleton] at a
      subst a
      rcases List.mem_append.mp z with b | b
      · exact h2 b
      · rw [List.mem_singleton] at b
        omega
structure AhAt (cs : List (List Int)) (pu tr : List Int) (rw : List (Option Int)) (k : Nat) (z : Int × Int) : Prop where
  ex : ∃ a n : Nat, z = ((a : Int), (n : Int)) ∧ a ≤ tr.length ∧ n ≤ cs.length ∧ Closed (cs.take n) (tr.take a) ∧ (∀ m ∈ pu.take k, m ∈ tr.take a) ∧ ∀ i < a, rw[i]? = some none → ∀ m, tr[i]? = some m → m ∈ pu.take k
/-- a broken row: all of it is off on the trail, or it is the row of the mark whose other way round was put last -/
def BrkAt (cs : List (List Int)) (pu tr : List Int) (rw : List (Option Int)) (r : Int) : Prop := ∃ (k : Nat) (c : List Int), r = (k : Int) ∧ cs[k]? = some c ∧
  (((∀ m ∈ pu, m ∈ tr) ∧ ∀ x ∈ c, -x ∈ tr) ∨ ∃ (p : Int) (i : Nat), p ∈ pu ∧ (∀ m ∈ pu, m = p ∨ m ∈ tr) ∧ tr[i]? = some (-p) ∧ rw[i]? = some (some (k : Int)) ∧ -p ∈ c ∧ ∀ x ∈ c, x ≠ -p → -x ∈ tr.take i)
theorem BrkAt.old {cs : List (List Int)} {pu tr : List Int} {rw : List (Option Int)} {r : Int} (h : BrkAt cs pu tr rw r) : ∃ (k : Nat) (c : List Int), r = (k : Int) ∧ cs[k]? = some c ∧ ∀ x ∈ c, -x ∈ tr ∨ -x ∈ pu := by
  obtain ⟨k, c, e, hc, ⟨_, h⟩ | ⟨p, i, hp, _, _, _, _, ho⟩⟩ := h
  · exact ⟨k, c, e, hc, fun x hx => .inl (h x hx)⟩
  · refine ⟨k, c, e, hc, fun x hx => ?_⟩
    by_cases y : x = -p
    · exact .inr (by rw [y, Int.neg_neg]; exact hp)
    · exact .inl (List.mem_of_mem_take (ho x hx y))
structure FolX (H : Hp) (C : Addr) (A : FA) (D : Addr → Prop) (cs : List (List Int)) (pu tr : List Int) (rw : List (Option Int)) (ah : List (Int × Int)) (br : Option Int) (qs aq : List Addr) (kvs : List (Key × V)) : Prop where
  r : FolR H C A D qs aq kvs cs (cs.map (offC tr)) (nums cs) tr rw pu ah br
  ok : Okay cs pu tr rw
  gd : Good cs
  pt : Puts pu
  kl : kvs.length ≤ cs.flatten.length
  cl : br = none → Closed cs tr ∧ ∀ m ∈ pu, m ∈ tr
  bk : ∀ r, br = some r → BrkAt cs pu tr rw r
  al : ah.length = pu.length
  aa : ∀ k z, ah[k]? = some z → AhAt cs pu tr rw k z
  aw : ah.Pairwise fun x y => x.1 ≤ y.1
def Fol (H : Hp) (C : Addr) (A : FA) (D : Addr → Prop) (cs : List (List Int)) (pu tr : List Int) (rw : List (Option Int)) (ah : List (Int × Int)) (br : Option Int) : Prop := ∃ qs aq kvs, FolX H C A D cs pu tr rw ah br qs aq kvs
section
variable {H : Hp} {C : Addr} {A : FA} {D : Addr → Prop} {cs : List (List Int)} {pu tr : List Int} {rw : List (Option Int)} {ah : List (Int × Int)} {br : Option Int}
theorem Fol.ins (h : Fol H C A D cs pu tr rw ah br) : H A.f = some (.ins C A.dx (fl A br)) := by
  obtain ⟨qs, aq, kvs, x⟩ := h
  exact x.r.ins
theorem Fol.der (h : Fol H C A D cs pu tr rw ah none) : (∀ x, x ∈ tr ↔ Der cs pu x) ∧ ¬ Brk cs pu := by
  obtain ⟨qs, aq, kvs, x⟩ := h
  obtain ⟨c1, c2⟩ := x.cl rfl
  exact ⟨fun y => ⟨fun hy => x.ok.just.der hy, fun hy => der_in x.gd.nd c2 c1 hy⟩, not_brk x.gd.nd c2 c1⟩
theorem Fol.brk {r : Int} (h : Fol H C A D cs pu tr rw ah (some r)) : Brk cs pu := by
  obtain ⟨qs, aq, kvs, x⟩ := h
  obtain ⟨k, c, _, hc, ho⟩ := (x.bk r rfl).old
  refine ⟨c, List.mem_of_getElem? hc, fun y hy => ?_⟩
  rcases ho y hy with z | z
  · exact x.ok.just.der z
  · exact .put z
theorem Fol.same {H' : Hp} (h : Fol H C A D cs pu tr rw ah br) (s : Same H H') : Fol H' C A D cs pu tr rw ah br := by
  obtain ⟨qs, aq, kvs, x⟩ := h
  exact ⟨qs, aq, kvs, ⟨x.r.same s, x.ok, x.gd, x.pt, x.kl, x.cl, x.bk, x.al, x.aa, x.aw⟩⟩
theorem Fol.not_new (h : Fol H C A D cs pu tr rw ah br) {b : Addr} (hb : H b = none) : ¬ D b := by
  obtain ⟨qs, aq, kvs, x⟩ := h
  exact x.r.not_new hb
/-- another deed that leaves it alone -/
theorem Fol.keep {H' : Hp} (h : Fol H C A D cs pu tr rw ah br) (k : ∀ b o, H b = some o → (D b ∨ ∃ xs, o = .tup xs) → H' b = some o) : Fol H' C A D cs pu tr rw ah br := by
  obtain ⟨qs, aq, kvs, x⟩ := h
  exact ⟨qs, aq, kvs, ⟨⟨x.r.co.keep fun a ha o e => k a o e (.inl (x.r.in_ ha)), x.r.re.keep (fun b xs e => k b _ e (.inr ⟨xs, rfl⟩)) fun b _ db o e => k b o e (.inl db)⟩, x.ok, x.gd, x.pt, x.kl, x.cl, x.bk, x.al, x.aa, x.aw⟩⟩
theorem Fol.kp {H' : Hp} {t c : Addr} {n : Nat} (h : Fol H C A D cs pu tr rw ah br) (tp : Tape H t c n) (nt : ¬ D t) (k : Kp t H H') : Fol H' C A D cs pu tr rw ah br := h.keep fun b o e z => k b o e fun y => by
  rcases z with z | ⟨xs, rfl⟩
  · exact nt (by rw [← y]; exact z)
  · obtain ⟨ns, spot, left, tc, _⟩ := tp
    exact ne_of e tc.d (by intro z; cases z) y
end
theorem Just.more {cs cs' : List (List Int)} {pu pu' tr : List Int} {rw : List (Option Int)} (h : Just cs pu tr rw) (hc : ∀ (k : Nat) c, cs[k]? = some c → cs'[k]? = some c) (hp : ∀ m ∈ pu, m ∈ pu') : Just cs' pu' tr rw := by
  intro i m hm
  rcases h i m hm with ⟨a, b⟩ | ⟨k, c, a, b, d⟩
  · exact .inl ⟨a, hp m b⟩
  · exact .inr ⟨k, c, a, hc k c b, d⟩
theorem Okay.more {cs cs' : List (List Int)} {pu pu' tr : List Int} {rw : List (Option Int)} (h : Okay cs pu tr rw) (hc : ∀ (k : Nat) c, cs[k]? = some c → cs'[k]? = some c) (hp : ∀ m ∈ pu, m ∈ pu') : Okay cs' pu' tr rw := ⟨h.nd, h.con, h.just.more hc hp, h.len⟩
theorem AhAt.ext {cs : List (List Int)} {pu tr : List Int} {rw : List (Option Int)} {k : Nat} {z : Int × Int} (h : AhAt cs pu tr rw k z) (len : rw.length = tr.length) (nw : List Int) (mr : List (Option Int)) : AhAt cs pu (tr ++ nw) (rw ++ mr) k z := by
  obtain ⟨a, n, e, ha, hn, hc, hp, hr⟩ := h.ex
  have t : (tr ++ nw).take a = tr.take a := List.take_append_of_le_length ha
  refine ⟨a, n, e, by rw [List.length_append]; omega, hn, by rw [t]; exact hc, by rw [t]; exact hp, fun i hi e1 m e2 => ?_⟩
  rw [List.getElem?_append_left (by omega)] at e1 e2
  exact hr i hi e1 m e2
theorem AhAt.puts {cs : List (List Int)} {pu tr : List Int} {rw : List (Option Int)} {k : Nat} {z : Int × Int} (h : AhAt cs pu tr rw k z) (m : Int) (hk : k ≤ pu.length) : AhAt cs (pu ++ [m]) tr rw k z := by
  obtain ⟨a, n, e, ha, hn, hc, hp, hr⟩ := h.ex
  have t : (pu ++ [m]).take k = pu.take k := List.take_append_of_le_length hk
  exact ⟨a, n, e, ha, hn, hc, by rw [t]; exact hp, by rw [t]; exact hr⟩
theorem AhAt.cls {cs : List (List Int)} {pu tr : List Int} {rw : List (Option Int)} {k : Nat} {z : Int × Int} (h : AhAt cs pu tr rw k z) (c : List Int) : AhAt (cs ++ [c]) pu tr rw k z := by
  obtain ⟨a, n, e, ha, hn, hc, hp, hr⟩ := h.ex
  have t : (cs ++ [c]).take n = cs.take n := List.take_append_of_le_length hn
  exact ⟨a, n, e, ha, by rw [List.length_append]; omega, by rw [t]; exact hc, hp, hr⟩
/-- the list of what came -/
structure News (H H' : Hp) (D : Addr → Prop) (p : Addr) (tr tr' : List Int) (m : Option Int) (ys : List Int) : Prop where
  np : H p = none
  hp : H' p = some (.lst ((byAbs ys).map V.int))
  nd : ys.Nodup
  con : ∀ x ∈ ys, -x ∉ ys
  iff : ∀ x, x ∈ ys ↔ x ∈ tr' ∧ x ∉ tr ∧ some x ≠ m
def Told (H H' : Hp) (D : Addr → Prop) (tr tr' : List Int) (m : Option Int) (br : Option Int) (v : V) : Prop :=
  (∃ r, br = some r ∧ v = .non) ∨ (br = none ∧ ∃ p ys, v = .ref p ∧ News H H' D p tr tr' m ys)
def spPut (C : Addr) : Sp := fun vs H Q _ => ∃ (A : FA) (D : Addr → Prop) (cs : List (List Int)) (pu tr : List Int) (rw : List (Option Int)) (ah : List (Int × Int)) (m : Int),
  vs = [.ref A.f, .int m] ∧ Fol H C A D cs pu tr rw ah none ∧ m ≠ 0 ∧ m ∉ pu ∧ -m ∉ pu ∧ pu.length < 100000 ∧
  ∀ (H' : Hp) (tr' : List Int) (rw' : List (Option Int)) (ah' : List (Int × Int)) (br' : Option Int) (v : V), Fol H' C A D cs (pu ++ [m]) tr' rw' ah' br' → Fr D D H H' → Told H H' D tr tr' (some m) br' v → Q v H'
section
variable {P : Program} {w : World} {K : PySem.W.Frag} {mg : Str → Option Value} {base : Heap}
theorem hm_put {cs : Nat → Addr} (T : Top K mg cs) (h_Follower__refuse_broken : HasM P w K mg base (cs 0) 1 "_refuse_broken" ["self"] (spRefuse (cs 0))) (h_Follower__row_of : HasM P w K mg base (cs 0) 1 "_row_of" ["self", "mark"] (spRowOf (cs 0)))
    (h_Follower__bring : HasM P w K mg base (cs 0) 2 "_bring" ["self", "mark", "row"] (spBring (cs 0))) (h_Follower__settle : HasM P w K mg base (cs 0) 3 "_settle" ["self", "numbers"] (spSettle (cs 0)))
    (h_Follower__news : HasM P w K mg base (cs 0) 1 "_news" ["self", "ahead"] (spNews (cs 0))) : HasM P w K mg base (cs 0) 4 "put" ["self", "mark"] (spPut (cs 0)) := by
  refine has_ofM T.m_Follower_put sc_Follower_put bd_Follower_put (fun vs H Q E h => ?_) (fun f cdv Ar outer s H vs Q E hr h => ?_)
  · obtain ⟨A, D, ks, pu, tr, rw, ah, m, rfl, _⟩ := h
    rfl
  · have hu := hu_of hr
    have nd := sc_Follower_put.nd
    obtain ⟨A, D, ks, pu, tr, rw, ah, m, rfl, ⟨qs, aq, kvs, X⟩, m0, m1, m2, pl, k⟩ := h
    have F := X.r
    refine ⟨_, (pss_cons (ps_expr (pe_hasM0 T.cl_Follower h_Follower__refuse_broken (hr.mono (by omega)) (pv 0)))
    (pss_cons (ps_if (PW.pt (pw_or (pt_cmp (pc_din hu (pv 1) (pe_fld (pv 0) rfl))) (pw_or1 (pt_cmp (pc_din hu (pe_un un_neg (pv 1)) (pe_fld (pv 0) rfl)))))) (pss_one ps_never) pss_nil)
    (pss_cons (ps_set (i := 2) nd rfl (.inl rfl) (pe_callB call_len_seq (by rfl) T.b_len (by decide +kernel) (pa_cons (pe_fld (pv 0) rfl) pa_nil)))
    (pss_cons (ps_expr (pe_bm PySem.F.plainAttrs_list PySem.F.slot_list_append PySem.F.type_list_append mt_append (pe_fld (pv 0) rfl) (pa_cons (pv 1) pa_nil)))
    (pss_cons (ps_dput hu (pe_fld (pv 0) rfl) (pv 1) pe_bl rfl)
    (pss_cons (ps_expr (pe_bm PySem.F.plainAttrs_list PySem.F.slot_list_append PySem.F.type_list_append mt_append (pe_fld (pv 0) rfl) (pa_cons (pe_tup (pa_cons (pv 2) (pa_cons (pe_callB call_len_seq (by rfl) T.b_len (by decide +kernel) (pa_cons (pe_fld (pv 0) rfl) pa_nil)) pa_nil))) pa_nil)))
    (C8.pss_cut (ps_if (pt_cmp (pc_din hu (pe_un un_neg (pv 1)) (pe_fld (pv 0) rfl))) (pss_one (ps_fld (pv 0) (pe_hasM T.cl_Follower h_Follower__row_of (hr.mono (by omega)) (pv 0) (pa_cons (pe_un un_neg (pv 1)) pa_nil)) rfl)) (pss_one (ps_if (pt_cmp (pc_dnotin hu (pv 1) (pe_fld (pv 0) rfl))) (pss_one (ps_expr (pe_hasM T.cl_Follower h_Follower__settle (hr.mono (by omega)) (pv 0) (pa_cons (pe_hasM T.cl_Follower h_Follower__bring (hr.mono (by omega)) (pv 0) (pa_cons (pv 1) (pa_cons pe_non pa_nil))) pa_nil)))) pss_nil)))
    (pss_one (ps_ret (pe_hasM T.cl_Follower h_Follower__news (hr.mono (by omega)) (pv 0) (pa_cons (pe_op op_add (pv 2) pe_int) pa_nil))))))))))), ?_⟩
    have line : 1100000 < sizeLine := by decide
    have tl := X.ok.small
    have gfl := X.gd.fl
    obtain ⟨cl1, cl2⟩ := X.cl rfl
    refine ⟨_, rfl, A.f, A.dx, _, rfl, F.ins, rfl, A, rfl, F.ins, ?_⟩
    refine ⟨_, rfl, _, rfl, A.f, cs 0, A.dx, _, _, rfl, F.ins, T.cl_Follower, T.n_Follower__is_put, rfl, A.ip, _, rfl, DGet.k (k := Sum.inl m) F.ipd, _, rfl, ?_⟩
    rw [tru_some, decide_eq_false m1]
    refine iteF ⟨_, rfl, m, rfl, _, rfl, A.f, cs 0, A.dx, _, _, rfl, F.ins, T.cl_Follower, T.n_Follower__is_put, rfl, A.ip, _, rfl, DGet.k (k := Sum.inl (-m)) F.ipd, _, rfl, ?_⟩
    rw [tru_some, decide_eq_false m2]
    refine iteF ⟨_, rfl, A.f, cs 0, A.dx, _, _, rfl, F.ins, T.cl_Follower, T.n_Follower__trail, rfl, A.tr, _, rfl, .inl (SqL.of F.trl), ?_⟩
    -- puts, is_put
    refine ⟨_, rfl, A.f, cs 0, A.dx, _, _, rfl, F.ins, T.cl_Follower, T.n_Follower__puts, rfl, .inl ⟨rfl, _, SqL.of F.pul⟩, _, rfl, A.pu, _, _, rfl, rfl, F.pul, by rw [List.length_map]; omega, ?_⟩
    have c1 := F.co.put 7 rfl (.lst (pu.map V.int ++ [.int m]))
    have r1 := F.re.core (by simp [fas]) F.pul (fun xs z => by cases z) (.lst (pu.map V.int ++ [.int m]))
    have f1 : Fr D D H (upd H A.pu (.lst (pu.map V.int ++ [.int m]))) := Fr.upd (F.in_ (by simp [fas]))
    generalize upd H A.pu (.lst (pu.map V.int ++ [.int m])) = H1 at c1 r1 f1
    rw [ints_snoc] at c1
    have i1 : H1 A.f = some (.ins (cs 0) A.dx (fl A none)) := c1.at_ 0 _ _ rfl rfl
    have t1 : H1 A.ip = some (.dK (tru pu)) := c1.at_ 8 _ _ rfl rfl
    refine ⟨_, rfl, A.f, cs 0, A.dx, _, _, rfl, i1, T.cl_Follower, T.n_Follower__is_put, rfl, _, rfl, A.ip, _, rfl, DPut.k (k := Sum.inl m) t1 (by unfold tru; rw [List.length_map]; omega), ?_⟩
    rw [tru_put, show ins pu m = pu ++ [m] from if_neg m1]
    have c2 := c1.put 8 rfl (.dK (tru (pu ++ [m])))
    have r2 := r1.core (a := A.ip) (by simp [fas]) t1 (fun xs z => by cases z) (.dK (tru (pu ++ [m])))
    have f2 : Fr D D H (upd H1 A.ip (.dK (tru (pu ++ [m])))) := f1.trans (Fr.upd (F.in_ (by simp [fas]))) fun _ h => h
    generalize upd H1 A.ip (.dK (tru (pu ++ [m]))) = H2 at c2 r2 f2
    -- ahead
    have i2 : H2 A.f = some (.ins (cs 0) A.dx (fl A none)) := c2.at_ 0 _ _ rfl rfl
    have l2 : H2 A.cl = some (.lst (qs.map V.ref)) := c2.at_ 1 _ _ rfl rfl
    have a2 : H2 A.ah = some (.lst (aq.map V.ref)) := c2.at_ 9 _ _ rfl rfl
    have an := F.re.an
    have al := X.al
    refine ⟨_, rfl, A.f, cs 0, A.dx, _, _, rfl, i2, T.cl_Follower, T.n_Follower__ahead, rfl, .inl ⟨rfl, _, SqL.of a2⟩, _, rfl, _, rfl, A.f, cs 0, A.dx, _, _, rfl, i2, T.cl_Follower, T.n_Follower__clauses, rfl, A.cl, _, rfl, .inl (SqL.of l2), by show 2 ≤ sizeLine; decide, fun z hz => ?_⟩
    have s3 : Same H2 (upd H2 z (.tup [.int ((tr.map V.int).length : Nat), .int ((qs.map V.ref).length : Nat)])) := same_new hz
    have nz : ¬ D z := fun y => by
      obtain ⟨u, e⟩ := F.known y
      rcases (F.re.dd z).mp y with y | ⟨x, y⟩
      · obtain ⟨u, _, e⟩ := c2.has y
        rw [hz] at e
        cases e
      · rcases r2.hv.at_ x with ⟨e, _⟩ | ⟨l, e, hl, _⟩
        · rw [y] at e
          cases e
        · rw [y] at e
          cases e
          rw [hz] at hl
          cases hl
    refine ⟨A.ah, _, _, rfl, rfl, s3 _ _ a2, by rw [List.length_map]; omega, ?_⟩
    have c3 := (c2.same s3).put 9 rfl (.lst (aq.map V.ref ++ [.ref z]))
    have r3 := (r2.same s3).core (a := A.ah) (by simp [fas]) (s3 _ _ a2) (fun xs z => by cases z) (.lst (aq.map V.ref ++ [.ref z]))
    have f3 : Fr D D H (upd (upd H2 z (.tup [.int ((tr.map V.int).length : Nat), .int ((qs.map V.ref).length : Nat)])) A.ah (.lst (aq.map V.ref ++ [.ref z]))) := (f2.trans (Fr.same s3) fun _ h => h).trans (Fr.upd (F.in_ (by simp [fas]))) fun _ h => h
    have hz3 : (upd (upd H2 z (.tup [.int ((tr.map V.int).length : Nat), .int ((qs.map V.ref).length : Nat)])) A.ah (.lst (aq.map V.ref ++ [.ref z]))) z = some (.tup [.int ((tr.map V.int).length : Nat), .int ((qs.map V.ref).length : Nat)]) := by
      rw [upd_ne (fun y => nz (by rw [y]; exact F.in_ (by simp [fas]))), upd_same]
    generalize upd (upd H2 z (.tup [.int ((tr.map V.int).length : Nat), .int ((qs.map V.ref).length : Nat)])) A.ah (.lst (aq.map V.ref ++ [.ref z])) = H3 at c3 r3 f3 hz3
    rw [refs_snoc] at c3
    have cn := F.re.cn
    rw [List.length_map, List.length_map, cn] at hz3
    have F3 : FolR H3 (cs 0) A D qs (aq ++ [z]) kvs ks (ks.map (offC tr)) (nums ks) tr rw (pu ++ [m]) (ah ++ [((tr.length : Int), (ks.length : Int))]) none := by
      refine ⟨c3, r3.cn, r3.ct, ?_, fun i q y hq hy => ?_, r3.hv, r3.dd⟩
      · rw [List.length_append, List.length_append, an]
        rfl
      · rcases getElem_snoc hq with ⟨_, e⟩ | ⟨e1, rfl⟩
        · rcases getElem_snoc hy with ⟨_, e2⟩ | ⟨e2, _⟩
          · exact r3.at_ i q y e e2
          · omega
        · rcases getElem_snoc hy with ⟨e2, _⟩ | ⟨_, rfl⟩
          · omega
          · exact hz3
    have pt3 := X.pt.snoc m0 m1 m2 pl
    have ok3 : Okay ks (pu ++ [m]) tr rw := X.ok.more (fun _ _ e => e) fun x hx => List.mem_append_left _ hx
    have al3 : (ah ++ [((tr.length : Int), (ks.length : Int))]).length = (pu ++ [m]).length := by
      rw [List.length_append, List.length_append, al]
      rfl
    have aa3 : ∀ k y, (ah ++ [((tr.length : Int), (ks.length : Int))])[k]? = some y → AhAt ks (pu ++ [m]) tr rw k y := fun k y hy => by
      rcases getElem_snoc hy with ⟨hl, e⟩ | ⟨hl, e⟩
      · exact (X.aa k y e).puts m (by omega)
      · subst e
        have t : (pu ++ [m]).take k = pu := by rw [hl, al, List.take_append_of_le_length (Nat.le_refl _), List.take_length]
        refine ⟨tr.length, ks.length, rfl, Nat.le_refl _, Nat.le_refl _, by rw [List.take_length, List.take_length]; exact cl1, by rw [t, List.take_length]; exact cl2, fun i hi e1 x e2 => ?_⟩
        rw [t]
        rcases X.ok.just i x e2 with ⟨_, h⟩ | ⟨k', c, h, _⟩
        · exact h
        · rw [e1] at h
          cases h
    have aw3 : (ah ++ [((tr.length : Int), (ks.length : Int))]).Pairwise fun x y => x.1 ≤ y.1 := by
      rw [List.pairwise_append]
      refine ⟨X.aw, List.pairwise_singleton _ _, fun x hx y hy => ?_⟩
      rw [List.mem_singleton] at hy
      subst hy
      obtain ⟨k', e⟩ := List.mem_iff_getElem?.mp hx
      obtain ⟨a', n', ez, ha', _⟩ := (X.aa k' x e).ex
      subst ez
      show (a' : Int) ≤ (tr.length : Int)
      omega
    -- the three ways
    refine ⟨fun σ' H' => ∃ (ext : List Int) (rw' : List (Option Int)) (br' : Option Int), σ' = [some (.ref A.f), some (.int m), some (.int ((tr.map V.int).length : Nat))] ∧ Fol H' (cs 0) A D ks (pu ++ [m]) (tr ++ ext) rw' (ah ++ [((tr.length : Int), (ks.length : Int))]) br' ∧ Fr D D H H' ∧
      (br' = none → (m ∈ tr ∧ ext = []) ∨ (m ∉ tr ∧ ∃ e', ext = m :: e')), ?_, ?_⟩
    · refine ⟨_, rfl, m, rfl, _, rfl, A.f, cs 0, A.dx, _, _, rfl, F3.ins, T.cl_Follower, T.n_Follower__place, rfl, A.pl, _, rfl, DGet.k (k := Sum.inl (-m)) F3.pld, _, rfl, ?_⟩
      rw [plD_is X.ok.nd]
      by_cases hb : -m ∈ tr
      · rw [decide_eq_true hb]
        obtain ⟨i, ei⟩ := List.mem_iff_getElem?.mp hb
        rcases X.ok.just i (-m) ei with ⟨_, h⟩ | ⟨j, c, hrw, hc, hmc, ho⟩
        · exact absurd h m2
        refine iteT ⟨_, rfl, A.f, A.dx, _, rfl, F3.ins, rfl, _, rfl, m, rfl, A, none, tr, rw, -m, i, some (j : Int), rfl, F3.ins, F3.pld, F3.rwl, X.ok.nd, ei, hrw, ?_⟩
        refine ⟨_, rfl, A.f, cs 0, A.dx, _, rfl, F3.ins, T.cl_Follower, T.n_Follower__broken_row, by show 10 < 1000; decide, ?_⟩
        rw [put_br]
        refine ⟨[], rw, some (j : Int), rfl, ⟨qs, aq ++ [z], kvs, ?_⟩, f3.trans (Fr.upd (F.in_ (by simp [fas]))) fun _ h => h, fun e => by cases e⟩
        rw [List.append_nil]
        refine ⟨F3.setBr (some (j : Int)), ok3, X.gd, pt3, X.kl, (fun e => by cases e), fun r e => ?_, al3, aa3, aw3⟩
        cases e
        refine ⟨j, c, rfl, hc, .inr ⟨m, i, List.mem_append_right _ List.mem_cons_self, fun x hx => ?_, ei, hrw, hmc, ho⟩⟩
        rcases List.mem_append.mp hx with y | y
        · exact .inr (cl2 x y)
        · exact .inl (List.mem_singleton.mp y)
      · rw [decide_eq_false hb]
        refine iteF ⟨_, rfl, _, rfl, A.f, cs 0, A.dx, _, _, rfl, F3.ins, T.cl_Follower, T.n_Follower__place, rfl, A.pl, _, rfl, DGet.k (k := Sum.inl m) F3.pld, _, rfl, ?_⟩
        rw [plD_is X.ok.nd]
        by_cases ht : m ∈ tr
        · rw [decide_eq_true ht]
          refine iteF ⟨[], rw, none, rfl, ⟨qs, aq ++ [z], kvs, ?_⟩, f3, fun _ => .inl ⟨ht, rfl⟩⟩
          rw [List.append_nil]
          refine ⟨F3, ok3, X.gd, pt3, X.kl, fun _ => ⟨cl1, fun x hx => ?_⟩, fun r e => (by cases e), al3, aa3, aw3⟩
          rcases List.mem_append.mp hx with a | a
          · exact cl2 x a
          · rw [List.mem_singleton.mp a]
            exact ht
        · rw [decide_eq_false ht]
          have rl := X.ok.len
          have gn := X.gd.n
          refine iteT ⟨_, rfl, A.f, A.dx, _, rfl, F3.ins, rfl, _, rfl, A.f, A.dx, _, rfl, F3.ins, rfl, _, rfl, A, D, qs, aq ++ [z], kvs, ks, tr, rw, pu ++ [m], _, none, m, none, rfl, F3, ht, X.gd.nd, gn, by omega, by omega, fun H5 p rd F5 np hp erd f5 => ?_⟩
          have ok5 : Okay ks (pu ++ [m]) (tr ++ [m]) (rw ++ [none]) := ok3.snoc m0 ht hb (.inl ⟨rfl, List.mem_append_right _ List.mem_cons_self⟩)
          have lrd : rd.length ≤ ks.length := by
            rw [erd]
            have a1 := List.length_filter_le (fun i => decide ((left (tr ++ [m]) (ks.getD i [])).length ≤ 1)) (nums ks (-m))
            have a2 : (nums ks (-m)).length ≤ ks.length := by
              unfold nums
              have := List.length_filter_le (fun i => decide (-m ∈ ks.getD i [])) (List.range ks.length)
              rw [List.length_range] at this
              exact this
            omega
          refine ⟨A, D, qs, aq ++ [z], kvs, ks, tr ++ [m], rw ++ [none], pu ++ [m], _, p, rd, rfl, F5, hp, fun i hi => ?_, ok5, X.gd, fun i c hc hi => ?_, by omega, by rw [List.length_append]; exact pl, fun H6 nw mr br6 F6 ok6 cl6 bk6 f6 => ?_⟩
          · rw [erd] at hi
            obtain ⟨c, hc, _⟩ := mem_nums.mp (List.mem_filter.mp hi).1
            exact (List.getElem?_eq_some_iff.mp hc).1
          · by_cases hm : -m ∈ c
            · refine quiet_big ?_
              by_cases g : (left (tr ++ [m]) (ks.getD i [])).length ≤ 1
              · exact absurd (by rw [erd]; exact List.mem_filter.mpr ⟨mem_nums.mpr ⟨c, hc, hm⟩, decide_eq_true g⟩) hi
              · rw [List.getD_eq_getElem?_getD, hc] at g
                have g' : ¬ (left (tr ++ [m]) c).length ≤ 1 := g
                omega
            · exact quiet_other hm (cl1 c (List.mem_of_getElem? hc))
          · have assoc : tr ++ [m] ++ nw = tr ++ (m :: nw) := by rw [List.append_assoc]; rfl
            have assoc2 : rw ++ [none] ++ somes mr = rw ++ (none :: somes mr) := by rw [List.append_assoc]; rfl
            rw [assoc] at F6 ok6 cl6 bk6
            rw [assoc2] at F6 ok6
            refine ⟨m :: nw, rw ++ (none :: somes mr), br6, rfl, ⟨qs, aq ++ [z], kvs, ⟨F6, ok6, X.gd, pt3, X.kl, fun e => ⟨cl6 e, fun x hx => ?_⟩, fun r e => ?_, al3, fun k' y hy => (aa3 k' y hy).ext X.ok.len _ _, aw3⟩⟩, (f3.trans f5 fun _ h => h).trans f6 fun _ h => h, fun _ => .inr ⟨ht, nw, rfl⟩⟩
            · rcases List.mem_append.mp hx with a | a
              · exact List.mem_append_left _ (cl2 x a)
              · rw [List.mem_singleton.mp a]
                exact List.mem_append_right _ List.mem_cons_self
            · obtain ⟨k', c, e1, e2, e3⟩ := bk6 r e
              refine ⟨k', c, e1, e2, .inl ⟨fun x hx => ?_, e3⟩⟩
              rcases List.mem_append.mp hx with a | a
              · exact List.mem_append_left _ (cl2 x a)
              · rw [List.mem_singleton.mp a]
                exact List.mem_append_right _ List.mem_cons_self
    · rintro σ' H4 ⟨ext, rw', br', rfl, F4, f4, hext⟩
      obtain ⟨qs', aq', kvs', X4⟩ := id F4
      refine ⟨_, rfl, A.f, A.dx, _, rfl, X4.r.ins, rfl, _, rfl, _, _, rfl, rfl, A, br', tr ++ ext, tr.length + 1, ?_, X4.r.ins, X4.r.trl, fun hbr => ?_, fun hbr H5 p hp s5 hp5 => ?_⟩
      · rw [List.length_map]
        rfl
      · cases br' with
        | none => exact absurd rfl hbr
        | some r => exact k H4 _ _ _ _ .non F4 f4 (.inl ⟨r, rfl, rfl⟩)
      · subst hbr
        have np : H p = none := by
          cases e : H p with
          | none => rfl
          | some u =>
            by_cases dp : D p
            · obtain ⟨u2, e2⟩ := X4.r.known dp
              rw [hp] at e2
              cases e2
            · rw [f4.k p u e dp] at hp
              cases hp
        have nd4 := X4.ok.nd
        have co4 := X4.ok.con
        refine k H5 _ _ _ none (.ref p) (F4.same s5) (f4.trans (Fr.same s5) fun _ h => h) (.inr ⟨rfl, p, (tr ++ ext).drop (tr.length + 1), rfl, ⟨np, hp5, nd4.sublist (List.drop_sublist _ _), fun x hx y => co4 x (List.mem_of_mem_drop hx) (List.mem_of_mem_drop y), fun x => ?_⟩⟩)
        have dis := List.nodup_append.mp nd4
        rcases hext rfl with ⟨hm, rfl⟩ | ⟨hm, e', rfl⟩
        · rw [List.append_nil, List.drop_eq_nil_of_le (by omega)]
          constructor
          · intro h; cases h
          · rintro ⟨h1, h2, _⟩
            exact absurd h1 h2
        · rw [List.drop_append, List.drop_eq_nil_of_le (by omega), List.nil_append, show tr.length + 1 - tr.length = 1 by omega, List.drop_succ_cons, List.drop_zero]
          have dm := List.nodup_cons.mp dis.2.1
          constructor
          · intro h
            exact ⟨List.mem_append_right _ (List.mem_cons_of_mem _ h), fun z => dis.2.2 x z x (List.mem_cons_of_mem _ h) rfl, fun z => dm.1 (by rw [← Option.some.inj z]; exact h)⟩
          · rintro ⟨h1, h2, h3⟩
            rcases List.mem_append.mp h1 with z | z
            · exact absurd z h2
            · exact (List.mem_cons.mp z).resolve_left fun y => h3 (by rw [y])
end

theorem Core.new {H : Hp} {as : List Addr} {obs : List HO} (h : Core H as obs) {p : Addr} (hp : H p = none) (o : HO) : Core (upd H p o) (as ++ [p]) (obs ++ [o]) := by
  refine ⟨?_, by rw [List.length_append, List.length_append, h.le]; rfl, fun i a u ha hu => ?_⟩
  · rw [List.nodup_append]
    refine ⟨h.nd, by simp, fun a ha b hb e => ?_⟩
    rw [List.mem_singleton] at hb
    obtain ⟨u, _, hu⟩ := h.has ha
    rw [e, hb, hp] at hu
    cases hu
  · rcases getElem_snoc ha with ⟨l, e⟩ | ⟨l, e⟩
    · rcases getElem_snoc hu with ⟨l2, e2⟩ | ⟨l2, e2⟩
      · have g := h.at_ i a u e e2
        rw [upd_ne (ne_of_none g hp)]
        exact g
      · have := h.le
        omega
    · rcases getElem_snoc hu with ⟨l2, e2⟩ | ⟨l2, e2⟩
      · have := h.le
        omega
      · rw [← e, ← e2, upd_same]
/-- all stays but the object itself -/
structure Mk1 (f : Addr) (H H' : Hp) : Prop where
  k : ∀ b o, H b = some o → b ≠ f → H' b = some o
theorem Mk1.new {f p : Addr} {H H' : Hp} {o : HO} (h : Mk1 f H H') (hp : H' p = none) : Mk1 f H (upd H' p o) := ⟨fun b u e n => by
  have e' := h.k b u e n
  rw [upd_ne (ne_of_none e' hp)]
  exact e'⟩
theorem Mk1.at {f : Addr} {H H' : Hp} {o : HO} (h : Mk1 f H H') : Mk1 f H (upd H' f o) := ⟨fun b u e n => by
  rw [upd_ne n]
  exact h.k b u e n⟩
theorem tru_nil : tru [] = [] := rfl
/-- one field more, a new object in it -/
theorem fld_new {H Hk : Hp} {f C dx d : Addr} {as : List Addr} {obs : List HO} {fs : List (Str × V)} {nm : Str} {o : HO} (c : Core Hk (f :: as) (.ins C dx fs :: obs)) (mk : Mk1 f H Hk) (hd : Hk d = none) :
    Core (upd (upd Hk d o) f (.ins C dx (putF nm (.ref d) fs))) (f :: (as ++ [d])) (.ins C dx (putF nm (.ref d) fs) :: (obs ++ [o])) ∧ Mk1 f H (upd (upd Hk d o) f (.ins C dx (putF nm (.ref d) fs))) :=
  ⟨(c.new hd o).put 0 rfl _, (mk.new hd).at⟩
theorem fld_put {H Hk : Hp} {f C dx : Addr} {as : List Addr} {obs : List HO} {fs : List (Str × V)} {nm : Str} {v : V} (c : Core Hk (f :: as) (.ins C dx fs :: obs)) (mk : Mk1 f H Hk) :
    Core (upd Hk f (.ins C dx (putF nm v fs))) (f :: as) (.ins C dx (putF nm v fs) :: obs) ∧ Mk1 f H (upd Hk f (.ins C dx (putF nm v fs))) := ⟨c.put 0 rfl _, mk.at⟩
theorem Mk1.fresh {f d : Addr} {H H' : Hp} (m : Mk1 f H H') (h : H' d = none) : d = f ∨ H d = none := by
  by_cases e : d = f
  · exact .inl e
  · refine .inr ?_
    cases z : H d with
    | none => rfl
    | some u =>
      rw [m.k d u z e] at h
      cases h
theorem Mk1.seq {K : PySem.W.Frag} {f a : Addr} {H H' : Hp} {xs : List V} (m : Mk1 f H H') (n : f ≠ a) (h : SqL K H a xs) : SqL K H' a xs := by
  rcases h with (h | ⟨o, h⟩) | h
  · exact .inl (.inl (m.k _ _ h n.symm))
  · exact .inl (.inr ⟨o, m.k _ _ h n.symm⟩)
  · exact .inr h
theorem take_snoc' {α : Type} {xs : List α} {i : Nat} {x : α} (h : xs[i]? = some x) : xs.take (i + 1) = xs.take i ++ [x] := by
  rw [List.take_add_one, h]
  rfl
def spInit (C : Addr) (K : PySem.W.Frag) : Sp := fun vs H Q _ => ∃ (f dx a : Addr) (qs : List Addr) (cs : List (List Int)), vs = [.ref f, .ref a] ∧ H f = some (.ins C dx []) ∧ SqL K H a (qs.map V.ref) ∧ f ≠ a ∧ qs.length = cs.length ∧
  (∀ (i : Nat) q c, qs[i]? = some q → cs[i]? = some c → H q = some (.tup (c.map V.int))) ∧ Good cs ∧ (∀ c ∈ cs, c.length ≤ 1000) ∧
  ∀ (H' : Hp) (A : FA) (D : Addr → Prop) (tr : List Int) (rw : List (Option Int)) (br : Option Int), A.f = f → Fol H' C A D cs [] tr rw [] br → Mk1 f H H' → (∀ b, D b → b = f ∨ H b = none) → Q .non H'
section
variable {P : Program} {w : World} {K : PySem.W.Frag} {mg : Str → Option Value} {base : Heap}
theorem hi_init {cs : Nat → Addr} (T : Top K mg cs) (h_Follower__take_in : HasM P w K mg base (cs 0) 1 "_take_in" ["self", "clause"] (spTake (cs 0))) (h_Follower__settle : HasM P w K mg base (cs 0) 3 "_settle" ["self", "numbers"] (spSettle (cs 0))) :
    HasI P w K mg base (cs 0) 4 "Follower" ["self", "clauses"] (spInit (cs 0) K) := by
  refine has_ofI T.g_Follower T.i_Follower sc_Follower___init__ bd_Follower___init__ (fun vs H Q E h => ?_) (fun f cdv Ar outer s H vs Q E hr h => ?_)
  · obtain ⟨f, dx, a, qs, ks, rfl, _⟩ := h
    rfl
  · have hu := hu_of hr
    have nd := sc_Follower___init__.nd
    obtain ⟨f, dx, a, qs, ks, rfl, hf, ha, nfa, cn, ct, gd, few, k⟩ := h
    refine ⟨_, (pss_cons (ps_fld (pv 0) (pe_lst pa_nil) rfl)
    (pss_cons (ps_fld (pv 0) (pe_lst pa_nil) rfl)
    (pss_cons (ps_fld (pv 0) pe_dnewK rfl)
    (pss_cons (ps_fld (pv 0) (pe_lst pa_nil) rfl)
    (pss_cons (ps_fld (pv 0) pe_dnewK rfl)
    (pss_cons (ps_fld (pv 0) (pe_lst pa_nil) rfl)
    (pss_cons (ps_fld (pv 0) (pe_lst pa_nil) rfl)
    (pss_cons (ps_fld (pv 0) pe_dnewK rfl)
    (pss_cons (ps_fld (pv 0) (pe_lst pa_nil) rfl)
    (pss_cons (ps_fld (pv 0) pe_non rfl)
    (pss_cons (ps_for PassesOwn.never rfl (pi_list (pv 1)) (pg_name (i := 2) nd rfl (.inl rfl))
      (pss_one (ps_expr (pe_hasM T.cl_Follower h_Follower__take_in (hr.mono (by omega)) (pv 0) (pa_cons (pv 2) pa_nil)))))
    (pss_one (ps_expr (pe_hasM T.cl_Follower h_Follower__settle (hr.mono (by omega)) (pv 0) (pa_cons (pe_listRg rfl (by rfl) T.b_list (prg_1 (by rfl) T.b_range (pe_callB call_len_seq (by rfl) T.b_len (by decide +kernel) (pa_cons (pe_fld (pv 0) rfl) pa_nil)))) pa_nil))))))))))))))), ?_⟩
    have m0 : Mk1 f H H := ⟨fun _ _ e _ => e⟩
    have c0 : Core H [f] [.ins (cs 0) dx []] := by
      refine ⟨by simp, rfl, fun i b o hb ho => ?_⟩
      cases i with
      | zero => cases hb; cases ho; exact hf
      | succ i => simp at hb
    refine ⟨by show 0 ≤ sizeLine; decide, fun d1 n1 => ⟨_, rfl, f, cs 0, dx, _, rfl, (c0.new n1 _).at_ 0 _ _ rfl rfl, T.cl_Follower, T.n_Follower__clauses, by show 0 < 1000; decide, ?_⟩⟩
    obtain ⟨c1, m1⟩ := fld_new (nm := "_clauses") (o := .lst []) c0 m0 n1
    generalize upd (upd H d1 (.lst [])) f _ = H1 at c1 m1 ⊢
    refine ⟨by show 0 ≤ sizeLine; decide, fun d2 n2 => ⟨_, rfl, f, cs 0, dx, _, rfl, (c1.new n2 _).at_ 0 _ _ rfl rfl, T.cl_Follower, T.n_Follower__offs, by show 1 < 1000; decide, ?_⟩⟩
    obtain ⟨c2, m2⟩ := fld_new (nm := "_offs") (o := .lst []) c1 m1 n2
    generalize upd (upd H1 d2 (.lst [])) f _ = H2 at c2 m2 ⊢
    intro d3 n3
    refine ⟨_, rfl, f, cs 0, dx, _, rfl, (c2.new n3 _).at_ 0 _ _ rfl rfl, T.cl_Follower, T.n_Follower__having, by show 2 < 1000; decide, ?_⟩
    obtain ⟨c3, m3⟩ := fld_new (nm := "_having") (o := .dK []) c2 m2 n3
    generalize upd (upd H2 d3 (.dK [])) f _ = H3 at c3 m3 ⊢
    refine ⟨by show 0 ≤ sizeLine; decide, fun d4 n4 => ⟨_, rfl, f, cs 0, dx, _, rfl, (c3.new n4 _).at_ 0 _ _ rfl rfl, T.cl_Follower, T.n_Follower__trail, by show 3 < 1000; decide, ?_⟩⟩
    obtain ⟨c4, m4⟩ := fld_new (nm := "_trail") (o := .lst []) c3 m3 n4
    generalize upd (upd H3 d4 (.lst [])) f _ = H4 at c4 m4 ⊢
    intro d5 n5
    refine ⟨_, rfl, f, cs 0, dx, _, rfl, (c4.new n5 _).at_ 0 _ _ rfl rfl, T.cl_Follower, T.n_Follower__place, by show 4 < 1000; decide, ?_⟩
    obtain ⟨c5, m5⟩ := fld_new (nm := "_place") (o := .dK []) c4 m4 n5
    generalize upd (upd H4 d5 (.dK [])) f _ = H5 at c5 m5 ⊢
    refine ⟨by show 0 ≤ sizeLine; decide, fun d6 n6 => ⟨_, rfl, f, cs 0, dx, _, rfl, (c5.new n6 _).at_ 0 _ _ rfl rfl, T.cl_Follower, T.n_Follower__rows, by show 5 < 1000; decide, ?_⟩⟩
    obtain ⟨c6, m6⟩ := fld_new (nm := "_rows") (o := .lst []) c5 m5 n6
    generalize upd (upd H5 d6 (.lst [])) f _ = H6 at c6 m6 ⊢
    refine ⟨by show 0 ≤ sizeLine; decide, fun d7 n7 => ⟨_, rfl, f, cs 0, dx, _, rfl, (c6.new n7 _).at_ 0 _ _ rfl rfl, T.cl_Follower, T.n_Follower__puts, by show 6 < 1000; decide, ?_⟩⟩
    obtain ⟨c7, m7⟩ := fld_new (nm := "_puts") (o := .lst []) c6 m6 n7
    generalize upd (upd H6 d7 (.lst [])) f _ = H7 at c7 m7 ⊢
    intro d8 n8
    refine ⟨_, rfl, f, cs 0, dx, _, rfl, (c7.new n8 _).at_ 0 _ _ rfl rfl, T.cl_Follower, T.n_Follower__is_put, by show 7 < 1000; decide, ?_⟩
    obtain ⟨c8, m8⟩ := fld_new (nm := "_is_put") (o := .dK []) c7 m7 n8
    generalize upd (upd H7 d8 (.dK [])) f _ = H8 at c8 m8 ⊢
    refine ⟨by show 0 ≤ sizeLine; decide, fun d9 n9 => ⟨_, rfl, f, cs 0, dx, _, rfl, (c8.new n9 _).at_ 0 _ _ rfl rfl, T.cl_Follower, T.n_Follower__ahead, by show 8 < 1000; decide, ?_⟩⟩
    obtain ⟨c9, m9⟩ := fld_new (nm := "_ahead") (o := .lst []) c8 m8 n9
    generalize upd (upd H8 d9 (.lst [])) f _ = H9 at c9 m9 ⊢
    refine ⟨_, rfl, f, cs 0, dx, _, rfl, c9.at_ 0 _ _ rfl rfl, T.cl_Follower, T.n_Follower__broken_row, by show 9 < 1000; decide, ?_⟩
    obtain ⟨c10, m10⟩ := fld_put (nm := "_broken_row") (v := .non) c9 m9
    generalize upd H9 f _ = HA at c10 m10 ⊢
    have cA : Core HA (fas ⟨f, dx, d1, d2, d3, d4, d5, d6, d7, d8, d9⟩) [.ins (cs 0) dx (fl ⟨f, dx, d1, d2, d3, d4, d5, d6, d7, d8, d9⟩ none), .lst [], .lst [], .dK [], .lst [], .dK [], .lst [], .lst [], .dK [], .lst []] := c10
    have own : ∀ b ∈ fas ⟨f, dx, d1, d2, d3, d4, d5, d6, d7, d8, d9⟩, b = f ∨ H b = none := by
      intro b hb
      simp only [fas, List.mem_cons, List.not_mem_nil, or_false] at hb
      rcases hb with rfl | rfl | rfl | rfl | rfl | rfl | rfl | rfl | rfl | rfl
      · exact .inl rfl
      · exact m0.fresh n1
      · exact m1.fresh n2
      · exact m2.fresh n3
      · exact m3.fresh n4
      · exact m4.fresh n5
      · exact m5.fresh n6
      · exact m6.fresh n7
      · exact m7.fresh n8
      · exact m8.fresh n9
    have edx : (⟨f, dx, d1, d2, d3, d4, d5, d6, d7, d8, d9⟩ : FA).dx = dx := rfl
    have ef : (⟨f, dx, d1, d2, d3, d4, d5, d6, d7, d8, d9⟩ : FA).f = f := rfl
    generalize (⟨f, dx, d1, d2, d3, d4, d5, d6, d7, d8, d9⟩ : FA) = A at cA own edx ef
    clear c0 c1 c2 c3 c4 c5 c6 c7 c8 c9 c10 n1 n2 n3 n4 n5 n6 n7 n8 n9 m1 m2 m3 m4 m5 m6 m7 m8 m9
    subst edx ef
    have F0 : FolR HA (cs 0) A (fun b => b ∈ fas A) (qs.take 0) [] [] (ks.take 0) ((ks.take 0).map (offC [])) (nums (ks.take 0)) [] [] [] [] none := by
      refine ⟨cA, rfl, fun i q c hq => by simp at hq, rfl, fun i q z hq => by simp at hq, ⟨fun m => .inl ⟨rfl, rfl⟩, fun m m' l e => by cases e⟩, fun b => ⟨fun h => .inl h, fun h => h.elim id fun ⟨m, e⟩ => by cases e⟩⟩
    refine ⟨_, rfl, a, rfl, ⟨_, m10.seq nfa ha⟩, for_list (K := K) (a := a) (xs := qs.map V.ref) (fun i σ H' => ∃ v2 D' kvs', σ = [some (.ref A.f), some (.ref a), v2] ∧
      FolR H' (cs 0) A D' (qs.take i) [] kvs' (ks.take i) ((ks.take i).map (offC [])) (nums (ks.take i)) [] [] [] [] none ∧ kvs'.length ≤ (ks.take i).flatten.length ∧ Mk1 A.f H H' ∧ (∀ b, D' b → b = A.f ∨ H b = none)) ⟨none, _, [], rfl, F0, Nat.zero_le _, m10, own⟩ ?_ ?_ ?_⟩
    · rintro i σ H' _ ⟨_, _, _, _, _, _, m', _⟩
      exact m'.seq nfa ha
    · rintro i x σ H1 hi ⟨v2, D1, kv1, rfl, F1, l1, m1, o1⟩
      rw [List.getElem?_map] at hi
      cases eq : qs[i]? with
      | none => rw [eq] at hi; cases hi
      | some q =>
        rw [eq] at hi
        cases hi
        have hil := (List.getElem?_eq_some_iff.mp eq).1
        have ec : ks[i]? = some ks[i] := List.getElem?_eq_getElem (by omega)
        generalize ks[i] = c at ec
        have hcm := List.mem_of_getElem? ec
        have hq := ct i q c eq ec
        have hq1 := m1.k q _ hq (ne_of hq hf (by intro z; cases z))
        have ltk : (ks.take i).length ≤ 100000 := Nat.le_trans (List.length_take_le' i ks) gd.n
        have efl : (ks.take (i + 1)).flatten.length = (ks.take i).flatten.length + c.length := by
          rw [take_snoc' ec, List.flatten_append, List.length_append, List.flatten_cons, List.flatten_nil, List.append_nil]
        have lfl : (ks.take i).flatten.length ≤ 800000 := by
          have := gd.fl
          have e : ks.flatten = (ks.take i).flatten ++ (ks.drop i).flatten := by rw [← List.flatten_append, List.take_append_drop]
          rw [e, List.length_append] at this
          omega
        refine ⟨_, rfl, A.f, A.dx, _, rfl, F1.ins, rfl, _, rfl, A, D1, qs.take i, [], kv1, ks.take i, [], [], [], [], none, q, c, rfl, F1, hq1, gd.nd c hcm, List.nodup_nil, ltk, few c hcm, by omega, fun H2 D2 kv2 F2 l2 f2 d2 => ⟨_, D2, kv2, rfl, ?_, by omega, ⟨fun b u e n => f2.k b u (m1.k b u e n) fun z => ?_⟩, fun b hb => ?_⟩⟩
        · rw [take_snoc' eq, take_snoc' ec]
          exact F2
        · rcases o1 b z with y | y
          · exact n y
          · rw [y] at e
            cases e
        · rcases f2.d b hb with y | y
          · exact o1 b y
          · exact m1.fresh y
    · rintro σ H1 ⟨v2, D1, kv1, rfl, F1, l1, m1, o1⟩
      rw [List.length_map, List.take_length] at F1
      rw [cn, List.take_length] at F1
      rw [List.length_map, cn, List.take_length] at l1
      have gn := gd.n
      have ll : (qs.map V.ref).length = ks.length := by rw [List.length_map, cn]
      refine ⟨_, rfl, A.f, A.dx, _, rfl, F1.ins, rfl, _, rfl, A.f, cs 0, A.dx, _, _, rfl, F1.ins, T.cl_Follower, T.n_Follower__clauses, rfl, A.cl, _, rfl, .inl (SqL.of F1.cl), _, rfl, RgOk.of_le (by omega) (by omega) (by omega) (by omega), fun p hp => ?_⟩
      rw [ll]
      have erg : rgV 0 (ks.length : Int) = (List.range ks.length).map fun i => V.int (i : Nat) := by
        unfold rgV
        rw [show ((ks.length : Int) - 0).toNat = ks.length by omega]
        refine List.map_congr_left fun i _ => ?_
        rw [Int.zero_add]
      rw [erg]
      have s2 : Same H1 (upd H1 p (.lst ((List.range ks.length).map fun i => V.int (i : Nat)))) := same_new hp
      have ok0 : Okay ks [] [] [] := ⟨List.nodup_nil, (fun m hm => by cases hm), (fun i m hm => by simp at hm), rfl⟩
      refine ⟨A, D1, qs, [], kv1, ks, [], [], [], [], p, List.range ks.length, rfl, F1.same s2, upd_same, fun i hi => List.mem_range.mp hi, ok0, gd, fun i c hc hi => absurd (List.mem_range.mpr (List.getElem?_eq_some_iff.mp hc).1) hi, by rw [List.length_range]; exact gn, by decide, fun H3 nw mr br F3 ok3 cl3 bk3 f3 => ?_⟩
      have f13 : Fr D1 D1 H1 H3 := (Fr.same s2).trans f3 fun _ h => h
      refine k H3 A D1 _ _ br rfl ⟨qs, [], kv1, ⟨F3, ok3, gd, ⟨List.nodup_nil, fun m hm => (by cases hm), by decide⟩, l1, fun e => ⟨cl3 e, fun m hm => (by cases hm)⟩, fun r e => ?_, rfl, (fun k z hz => (by simp at hz)), List.Pairwise.nil⟩⟩ ⟨fun b u e n => f13.k b u (m1.k b u e n) fun z => ?_⟩ o1
      · obtain ⟨k', c, e1, e2, e3⟩ := bk3 r e
        exact ⟨k', c, e1, e2, .inl ⟨fun x hx => (by cases hx), e3⟩⟩
      · rcases o1 b z with y | y
        · exact n y
        · rw [y] at e
          cases e
end

/-! ### offs, told back -/
def oK (cs : List (List Int)) (tr : List Int) (m : Int) (L : List Nat) : List Int := (List.range cs.length).map fun i => if i ∈ L then offC tr (cs.getD i []) else offC (tr ++ [m]) (cs.getD i [])
theorem oK_zero (cs : List (List Int)) (tr : List Int) (m : Int) : oK cs tr m [] = cs.map (offC (tr ++ [m])) := by
  unfold oK
  simp only [List.not_mem_nil, if_false]
  exact range_getD cs (offC (tr ++ [m]))
theorem oK_end (cs : List (List Int)) (tr : List Int) (m : Int) : oK cs tr m (nums cs (-m)) = cs.map (offC tr) := by
  rw [← range_getD cs (offC tr)]
  unfold oK
  refine List.map_congr_left fun i hi => ?_
  have hl := List.mem_range.mp hi
  by_cases h : i ∈ nums cs (-m)
  · rw [if_pos h]
  · rw [if_neg h]
    refine off_other fun z => h (mem_nums.mpr ⟨cs[i], List.getElem?_eq_getElem hl, ?_⟩)
    rw [List.getD_eq_getElem?_getD, List.getElem?_eq_getElem hl] at z
    exact z
theorem oK_len (cs : List (List Int)) (tr : List Int) (m : Int) (L : List Nat) : (oK cs tr m L).length = cs.length := by
  unfold oK
  rw [List.length_map, List.length_range]
theorem oK_at {cs : List (List Int)} {tr : List Int} {m : Int} {L : List Nat} {i : Nat} {c : List Int} (h : cs[i]? = some c) : (oK cs tr m L)[i]? = some (if i ∈ L then offC tr c else offC (tr ++ [m]) c) := by
  have hl := (List.getElem?_eq_some_iff.mp h).1
  unfold oK
  rw [List.getElem?_map, List.getElem?_range hl]
  have e : cs.getD i [] = c := by
    rw [List.getD_eq_getElem?_getD, h]
    rfl
  show some (if i ∈ L then offC tr (cs.getD i []) else offC (tr ++ [m]) (cs.getD i [])) = some _
  rw [e]
theorem oK_set {cs : List (List Int)} {tr : List Int} {m : Int} {L : List Nat} {i : Nat} {c : List Int} (h : cs[i]? = some c) : (oK cs tr m L).set i (offC tr c) = oK cs tr m (L ++ [i]) := by
  have hl := (List.getElem?_eq_some_iff.mp h).1
  refine List.ext_getElem? fun j => ?_
  by_cases e : i = j
  · subst e
    rw [List.getElem?_set_self (by rw [oK_len]; exact hl), oK_at h, if_pos (List.mem_append_right _ List.mem_cons_self)]
  · rw [List.getElem?_set_ne e]
    by_cases hj : j < cs.length
    · rw [oK_at (List.getElem?_eq_getElem hj), oK_at (List.getElem?_eq_getElem hj)]
      by_cases z : j ∈ L
      · rw [if_pos z, if_pos (List.mem_append_left _ z)]
      · rw [if_neg z, if_neg fun y => (List.mem_append.mp y).elim z fun y => e (List.mem_singleton.mp y).symm]
    · rw [List.getElem?_eq_none (by rw [oK_len]; omega), List.getElem?_eq_none (by rw [oK_len]; omega)]

def spPutsM (C : Addr) : Sp := fun vs H Q _ => ∃ (A : FA) (br : Option Int) (pu : List Int), vs = [.ref A.f] ∧ H A.f = some (.ins C A.dx (fl A br)) ∧ H A.pu = some (.lst (pu.map V.int)) ∧
  (∀ H' p, H p = none → Same H H' → H' p = some (.lst (pu.map V.int)) → Q (.ref p) H')
def spClsM (C : Addr) : Sp := fun vs H Q _ => ∃ (A : FA) (br : Option Int) (qs : List Addr), vs = [.ref A.f] ∧ H A.f = some (.ins C A.dx (fl A br)) ∧ H A.cl = some (.lst (qs.map V.ref)) ∧
  (∀ H' p, H p = none → Same H H' → H' p = some (.lst (qs.map V.ref)) → Q (.ref p) H')
/-- the last mark is taken off the trail -/
def spOff (C : Addr) : Sp := fun vs H Q _ => ∃ (A : FA) (D : Addr → Prop) (qs aq : List Addr) (kvs : List (Key × V)) (cs : List (List Int)) (tr : List Int) (rw : List (Option Int)) (pu : List Int) (ah : List (Int × Int)) (br : Option Int) (m : Int) (r : Option Int),
  vs = [.ref A.f] ∧ FolR H C A D qs aq kvs cs (cs.map (offC (tr ++ [m]))) (nums cs) (tr ++ [m]) (rw ++ [r]) pu ah br ∧ m ∉ tr ∧ (∀ c ∈ cs, c.Nodup) ∧ tr.Nodup ∧ cs.length ≤ 100000 ∧
  ∀ (H' : Hp), FolR H' C A D qs aq kvs cs (cs.map (offC tr)) (nums cs) tr rw pu ah br → Fr D D H H' → Q .non H'
section
variable {P : Program} {w : World} {K : PySem.W.Frag} {mg : Str → Option Value} {base : Heap}
theorem hm_puts {cs : Nat → Addr} (T : Top K mg cs) : HasM P w K mg base (cs 0) 1 "puts" ["self"] (spPutsM (cs 0)) := by
  refine has_ofM T.m_Follower_puts sc_Follower_puts bd_Follower_puts (fun vs H Q E h => ?_) (fun f cdv Ar outer s H vs Q E hr h => ?_)
  · obtain ⟨A, br, pu, rfl, _⟩ := h
    rfl
  · have hu := hu_of hr
    have nd := sc_Follower_puts.nd
    obtain ⟨A, br, pu, rfl, hf, hp, k⟩ := h
    refine ⟨_, (pss_one (ps_ret (pe_callTy call_list_of (by rfl) T.b_list (by decide +kernel) (pa_cons (pe_fld (pv 0) rfl) pa_nil)))), ?_⟩
    exact ⟨_, rfl, A.f, cs 0, A.dx, _, _, rfl, hf, T.cl_Follower, T.n_Follower__puts, rfl, A.pu, _, rfl, .inl (SqL.of hp), fun q hq => k _ q hq (same_new hq) upd_same⟩
theorem hm_cls {cs : Nat → Addr} (T : Top K mg cs) : HasM P w K mg base (cs 0) 1 "clauses" ["self"] (spClsM (cs 0)) := by
  refine has_ofM T.m_Follower_clauses sc_Follower_clauses bd_Follower_clauses (fun vs H Q E h => ?_) (fun f cdv Ar outer s H vs Q E hr h => ?_)
  · obtain ⟨A, br, qs, rfl, _⟩ := h
    rfl
  · have hu := hu_of hr
    have nd := sc_Follower_clauses.nd
    obtain ⟨A, br, qs, rfl, hf, hp, k⟩ := h
    refine ⟨_, (pss_one (ps_ret (pe_callTy call_list_of (by rfl) T.b_list (by decide +kernel) (pa_cons (pe_fld (pv 0) rfl) pa_nil)))), ?_⟩
    exact ⟨_, rfl, A.f, cs 0, A.dx, _, _, rfl, hf, T.cl_Follower, T.n_Follower__clauses, rfl, A.cl, _, rfl, .inl (SqL.of hp), fun q hq => k _ q hq (same_new hq) upd_same⟩
theorem hm_off {cs : Nat → Addr} (T : Top K mg cs) : HasM P w K mg base (cs 0) 1 "_take_off_last" ["self"] (spOff (cs 0)) := by
  refine has_ofM T.m_Follower__take_off_last sc_Follower__take_off_last bd_Follower__take_off_last (fun vs H Q E h => ?_) (fun f cdv Ar outer s H vs Q E hr h => ?_)
  · obtain ⟨A, D, qs, aq, kvs, ks, tr, rw, pu, ah, br, m, r, rfl, _⟩ := h
    rfl
  · have hu := hu_of hr
    have nd := sc_Follower__take_off_last.nd
    obtain ⟨A, D, qs, aq, kvs, ks, tr, rw, pu, ah, br, m, r, rfl, F, hm, hn, ht, lc, k⟩ := h
    refine ⟨_, (pss_cons (ps_set (i := 1) nd rfl (.inl rfl) (pe_bm0 PySem.F.plainAttrs_list PySem.F.slot_list_pop PySem.F.type_list_pop mt_pop (pe_fld (pv 0) rfl)))
    (pss_cons (ps_expr (pe_bm0 PySem.F.plainAttrs_list PySem.F.slot_list_pop PySem.F.type_list_pop mt_pop (pe_fld (pv 0) rfl)))
    (pss_cons (ps_ddel (pe_fld (pv 0) rfl) (pv 1))
    (pss_one (ps_for PassesOwn.never rfl (pi_list (pe_dget2 hu (pe_fld (pv 0) rfl) (pe_un un_neg (pv 1)) (pe_lst pa_nil) ⟨rfl, rfl, rfl, rfl⟩)) (pg_name (i := 2) nd rfl (.inl rfl))
      (pss_one (ps_augS (pe_fld (pv 0) rfl) (pv 2) get_list pe_int ip_sub set_list))))))), ?_⟩
    have line : 1100000 < sizeLine := by decide
    -- trail
    have lastM : ((tr ++ [m]).map V.int)[((tr ++ [m]).map V.int).length - 1]? = some (.int m) := by
      rw [List.length_map, List.length_append, List.length_singleton, Nat.add_sub_cancel, List.getElem?_map, List.getElem?_append_right (Nat.le_refl _), Nat.sub_self]
      rfl
    have dropM : ((tr ++ [m]).map V.int).dropLast = tr.map V.int := by
      rw [List.map_append]
      exact List.dropLast_concat
    refine ⟨_, rfl, A.f, cs 0, A.dx, _, _, rfl, F.ins, T.cl_Follower, T.n_Follower__trail, rfl, .inl ⟨rfl, _, SqL.of F.trl⟩, A.tr, _, _, rfl, rfl, F.trl, lastM, ?_⟩
    rw [dropM]
    have c1 := F.co.put 4 rfl (.lst (tr.map V.int))
    have r1 := F.re.core (by simp [fas]) F.trl (fun xs z => by cases z) (.lst (tr.map V.int))
    have f1 : Fr D D H (upd H A.tr (.lst (tr.map V.int))) := Fr.upd (F.in_ (by simp [fas]))
    generalize upd H A.tr (.lst (tr.map V.int)) = H1 at c1 r1 f1
    have i1 : H1 A.f = some (.ins (cs 0) A.dx (fl A br)) := c1.at_ 0 _ _ rfl rfl
    have t1 : H1 A.rw = some (.lst ((rw ++ [r]).map optI)) := c1.at_ 6 _ _ rfl rfl
    have lastR : ((rw ++ [r]).map optI)[((rw ++ [r]).map optI).length - 1]? = some (optI r) := by
      rw [List.length_map, List.length_append, List.length_singleton, Nat.add_sub_cancel, List.getElem?_map, List.getElem?_append_right (Nat.le_refl _), Nat.sub_self]
      rfl
    have dropR : ((rw ++ [r]).map optI).dropLast = rw.map optI := by
      rw [List.map_append]
      exact List.dropLast_concat
    refine ⟨_, rfl, A.f, cs 0, A.dx, _, _, rfl, i1, T.cl_Follower, T.n_Follower__rows, rfl, .inl ⟨rfl, _, SqL.of t1⟩, A.rw, _, _, rfl, rfl, t1, lastR, ?_⟩
    rw [dropR]
    have c2 := c1.put 6 rfl (.lst (rw.map optI))
    have r2 := r1.core (a := A.rw) (by simp [fas]) t1 (fun xs z => by cases z) (.lst (rw.map optI))
    have f2 : Fr D D H (upd H1 A.rw (.lst (rw.map optI))) := f1.trans (Fr.upd (F.in_ (by simp [fas]))) fun _ h => h
    generalize upd H1 A.rw (.lst (rw.map optI)) = H2 at c2 r2 f2
    have i2 : H2 A.f = some (.ins (cs 0) A.dx (fl A br)) := c2.at_ 0 _ _ rfl rfl
    have p2 : H2 A.pl = some (.dK (plD (tr ++ [m]))) := c2.at_ 5 _ _ rfl rfl
    have ndm : (tr ++ [m]).Nodup := by
      rw [List.nodup_append]
      exact ⟨ht, by simp, fun a ha b hb e => by rw [List.mem_singleton] at hb; exact hm (by rw [← hb, ← e]; exact ha)⟩
    refine ⟨_, rfl, A.f, cs 0, A.dx, _, _, rfl, i2, T.cl_Follower, T.n_Follower__place, rfl, _, rfl, A.pl, _, Sum.inl m, rfl, p2, rfl, ?_, ?_⟩
    · rw [plD_is ndm]
      exact decide_eq_true (List.mem_append_right _ List.mem_cons_self)
    have ed : dropK (plD (tr ++ [m])) (Sum.inl m : Key) = plD tr := by
      rw [plD_snoc]
      unfold dropK
      rw [List.filter_append]
      have e1 : (plD tr).filter (fun kv => decide (kv.1 ≠ (Sum.inl m : Key))) = plD tr := by
        refine List.filter_eq_self.mpr fun kv hkv => ?_
        unfold plD at hkv
        obtain ⟨z, hz, rfl⟩ := List.mem_map.mp hkv
        have : z.1 ∈ tr := by
          have := List.mem_zipIdx hz
          obtain ⟨_, _, e⟩ := this
          rw [e]
          exact List.getElem_mem _
        simp
        exact fun e => hm (e ▸ this)
      rw [e1]
      simp
    rw [ed]
    have c3 := c2.put 5 rfl (.dK (plD tr))
    have r3 := r2.core (a := A.pl) (by simp [fas]) p2 (fun xs z => by cases z) (.dK (plD tr))
    have f3 : Fr D D H (upd H2 A.pl (.dK (plD tr))) := f2.trans (Fr.upd (F.in_ (by simp [fas]))) fun _ h => h
    generalize upd H2 A.pl (.dK (plD tr)) = H3 at c3 r3 f3
    have F3 : FolR H3 (cs 0) A D qs aq kvs ks (ks.map (offC (tr ++ [m]))) (nums ks) tr rw pu ah br := ⟨c3, r3⟩
    -- the clauses
    refine ⟨_, rfl, A.f, cs 0, A.dx, _, _, rfl, F3.ins, T.cl_Follower, T.n_Follower__having, rfl, A.hv, rfl, .inl ⟨kvs, .inl F3.hvd⟩, _, rfl, m, rfl, by show 0 ≤ sizeLine; decide, fun E5 hE => ?_⟩
    have s5 : Same H3 (upd H3 E5 (.lst [])) := same_new hE
    have F5 := F3.same s5
    have f5 : Fr D D H (upd H3 E5 (.lst [])) := f3.trans (Fr.same s5) fun _ h => h
    have nE := F3.not_new hE
    have there : ∃ l, ((valV kvs (Sum.inl (-m) : Key)).getD (.ref E5)) = .ref l ∧ (upd H3 E5 (.lst [])) l = some (.lst ((nums ks (-m)).map fun i => V.int (i : Nat))) ∧ l ∉ fas A := by
      rcases F5.re.hv.at_ (-m) with ⟨e, e2⟩ | ⟨l, e, hl, nl⟩
      · rw [e, e2]
        exact ⟨E5, rfl, upd_same, fun z => nE (F3.in_ z)⟩
      · rw [e]
        exact ⟨l, rfl, hl, nl⟩
    generalize upd H3 E5 (.lst []) = H5 at F5 f5 there
    obtain ⟨l, el, hl, nl⟩ := there
    refine ⟨_, DGet.k (k := (Sum.inl (-m) : Key)) F5.hvd, l, el, ⟨_, SqL.of hl⟩, for_list (K := K) (a := l) (xs := (nums ks (-m)).map fun i => V.int (i : Nat)) (fun j σ H' => ∃ v2, σ = [some (.ref A.f), some (.int m), v2] ∧
      FolR H' (cs 0) A D qs aq kvs ks (oK ks tr m ((nums ks (-m)).take j)) (nums ks) tr rw pu ah br ∧ H' l = some (.lst ((nums ks (-m)).map fun i => V.int (i : Nat))) ∧ Fr D D H H') ⟨none, rfl, ?_, hl, f5⟩ ?_ ?_ ?_⟩
    · rw [List.take_zero, oK_zero]
      exact F5
    · rintro j σ H' _ ⟨_, _, _, hl', _⟩
      exact SqL.of hl'
    · rintro j x σ H6 hj ⟨v2, rfl, F6, hl6, f6⟩
      obtain ⟨i, rfl, hi⟩ : ∃ i : Nat, x = .int (i : Nat) ∧ (nums ks (-m))[j]? = some i := by
        rw [List.getElem?_map] at hj
        cases e : (nums ks (-m))[j]? with
        | none => rw [e] at hj; cases hj
        | some i => rw [e] at hj; exact ⟨i, (Option.some.inj hj).symm, rfl⟩
      obtain ⟨c, hc, hmc⟩ := mem_nums.mp (List.mem_of_getElem? hi)
      have hil := (List.getElem?_eq_some_iff.mp hc).1
      have nt : i ∉ (nums ks (-m)).take j := fun z => by
        obtain ⟨i', hi', e⟩ := mem_take z
        obtain ⟨a1, a2⟩ := List.getElem?_eq_some_iff.mp e
        obtain ⟨b1, b2⟩ := List.getElem?_eq_some_iff.mp hi
        have := (List.getElem_inj (nums_nodup ks (-m))).mp (a2.trans b2.symm)
        omega
      have ho := oK_at (tr := tr) (m := m) (L := (nums ks (-m)).take j) hc
      rw [if_neg nt] at ho
      have ho2 : ((oK ks tr m ((nums ks (-m)).take j)).map V.int)[i]? = some (.int (offC (tr ++ [m]) c)) := by
        rw [List.getElem?_map, ho]
        rfl
      refine ⟨_, rfl, A.f, cs 0, A.dx, _, _, rfl, F6.ins, T.cl_Follower, T.n_Follower__offs, rfl, _, rfl, A.ofs, _, _, _, rfl, rfl, SqL.of F6.ofs, atI_nat ho2, _, _, rfl, rfl, A.ofs, _, _, i, rfl, rfl, F6.ofs, ?_, ?_⟩
      · unfold ixN
        rw [if_pos (by omega), if_pos (by rw [List.length_map, oK_len]; omega), Int.toNat_natCast]
      have htk : (nums ks (-m)).take (j + 1) = (nums ks (-m)).take j ++ [i] := by
        rw [List.take_add_one, hi]
        rfl
      have eset : ((oK ks tr m ((nums ks (-m)).take j)).map V.int).set i (V.int (offC (tr ++ [m]) c - 1)) = (oK ks tr m ((nums ks (-m)).take (j + 1))).map V.int := by
        have := off_has (hn c (List.mem_of_getElem? hc)) hm hmc
        rw [show offC (tr ++ [m]) c - 1 = offC tr c by omega, ← List.map_set, oK_set hc, htk]
      dsimp only
      rw [eset]
      refine ⟨_, rfl, F6.setOf _, ?_, f6.trans (Fr.upd (F.in_ (by simp [fas]))) fun _ h => h⟩
      rw [upd_ne (fun z => nl (by rw [z]; simp [fas]))]
      exact hl6
    · rintro σ H6 ⟨v2, rfl, F6, hl6, f6⟩
      rw [List.length_map, List.take_length] at F6
      rw [oK_end] at F6
      exact k H6 F6 f6
end

def spAdd (C : Addr) : Sp := fun vs H Q _ => ∃ (A : FA) (D : Addr → Prop) (cs : List (List Int)) (pu tr : List Int) (rw : List (Option Int)) (ah : List (Int × Int)) (q : Addr) (c : List Int),
  vs = [.ref A.f, .ref q] ∧ Fol H C A D cs pu tr rw ah none ∧ H q = some (.tup (c.map V.int)) ∧ c.length ≤ 1000 ∧ Good (cs ++ [c]) ∧
  ∀ (H' : Hp) (D' : Addr → Prop) (tr' : List Int) (rw' : List (Option Int)) (br' : Option Int) (v : V), Fol H' C A D' (cs ++ [c]) pu tr' rw' ah br' → Fr D D' H H' → (∀ b, D b → D' b) → (∀ p, v = .ref p → ¬ D' p) → Told H H' D tr tr' none br' v → Q v H'
def spBack (C : Addr) : Sp := fun vs H Q _ => ∃ (A : FA) (D : Addr → Prop) (cs : List (List Int)) (pu tr : List Int) (rw : List (Option Int)) (ah : List (Int × Int)) (br : Option Int) (m : Int),
  vs = [.ref A.f] ∧ Fol H C A D cs (pu ++ [m]) tr rw ah br ∧
  ∀ (H' : Hp) (tr' : List Int) (rw' : List (Option Int)) (ah' : List (Int × Int)) (br' : Option Int), Fol H' C A D cs pu tr' rw' ah' br' → Fr D D H H' → Q (.int m) H'
theorem Good.left {cs : List (List Int)} {c : List Int} (h : Good (cs ++ [c])) : Good cs := by
  have f := h.fl
  have n := h.n
  rw [List.flatten_append, List.length_append] at f
  rw [List.length_append] at n
  exact ⟨fun d hd => h.nd d (List.mem_append_left _ hd), fun d hd => h.nz d (List.mem_append_left _ hd), by omega, by omega⟩
section
variable {P : Program} {w : World} {K : PySem.W.Frag} {mg : Str → Option Value} {base : Heap}
theorem hm_add {cs : Nat → Addr} (T : Top K mg cs) (h_Follower__refuse_broken : HasM P w K mg base (cs 0) 1 "_refuse_broken" ["self"] (spRefuse (cs 0))) (h_Follower__take_in : HasM P w K mg base (cs 0) 1 "_take_in" ["self", "clause"] (spTake (cs 0)))
    (h_Follower__settle : HasM P w K mg base (cs 0) 3 "_settle" ["self", "numbers"] (spSettle (cs 0))) (h_Follower__news : HasM P w K mg base (cs 0) 1 "_news" ["self", "ahead"] (spNews (cs 0))) : HasM P w K mg base (cs 0) 4 "add" ["self", "clause"] (spAdd (cs 0)) := by
  refine has_ofM T.m_Follower_add sc_Follower_add bd_Follower_add (fun vs H Q E h => ?_) (fun f cdv Ar outer s H vs Q E hr h => ?_)
  · obtain ⟨A, D, ks, pu, tr, rw, ah, q, c, rfl, _⟩ := h
    rfl
  · have hu := hu_of hr
    have nd := sc_Follower_add.nd
    obtain ⟨A, D, ks, pu, tr, rw, ah, q, c, rfl, ⟨qs, aq, kvs, X⟩, hq, few, gd, k⟩ := h
    have F := X.r
    refine ⟨_, (pss_cons (ps_expr (pe_hasM0 T.cl_Follower h_Follower__refuse_broken (hr.mono (by omega)) (pv 0)))
    (pss_cons (ps_set (i := 2) nd rfl (.inl rfl) (pe_callB call_len_seq (by rfl) T.b_len (by decide +kernel) (pa_cons (pe_fld (pv 0) rfl) pa_nil)))
    (pss_cons (ps_expr (pe_hasM T.cl_Follower h_Follower__take_in (hr.mono (by omega)) (pv 0) (pa_cons (pv 1) pa_nil)))
    (pss_cons (ps_expr (pe_hasM T.cl_Follower h_Follower__settle (hr.mono (by omega)) (pv 0) (pa_cons (pe_lst (pa_cons (pe_op op_sub (pe_callB call_len_seq (by rfl) T.b_len (by decide +kernel) (pa_cons (pe_fld (pv 0) rfl) pa_nil)) pe_int) pa_nil)) pa_nil)))
    (pss_one (ps_ret (pe_hasM T.cl_Follower h_Follower__news (hr.mono (by omega)) (pv 0) (pa_cons (pv 2) pa_nil)))))))), ?_⟩
    have gfl := X.gd.fl
    have gn := X.gd.n
    have kl := X.kl
    obtain ⟨cl1, cl2⟩ := X.cl rfl
    have hcn : c ∈ ks ++ [c] := List.mem_append_right _ List.mem_cons_self
    refine ⟨_, rfl, A.f, A.dx, _, rfl, F.ins, rfl, A, rfl, F.ins, ?_⟩
    refine ⟨_, rfl, A.f, cs 0, A.dx, _, _, rfl, F.ins, T.cl_Follower, T.n_Follower__trail, rfl, A.tr, _, rfl, .inl (SqL.of F.trl), ?_⟩
    refine ⟨_, rfl, A.f, A.dx, _, rfl, F.ins, rfl, _, rfl, A, D, qs, aq, kvs, ks, tr, rw, pu, ah, none, q, c, rfl, F, hq, gd.nd c hcn, X.ok.nd, gn, few, by omega, fun H1 D1 kv1 F1 l1 f1 d1 => ?_⟩
    have cn := F1.re.cn
    refine ⟨_, rfl, A.f, A.dx, _, rfl, F1.ins, rfl, _, rfl, A.f, cs 0, A.dx, _, _, rfl, F1.ins, T.cl_Follower, T.n_Follower__clauses, rfl, A.cl, _, rfl, .inl (SqL.of F1.cl), _, _, rfl, rfl, by show 1 ≤ sizeLine; decide, fun p hp => ?_⟩
    have en : (((qs ++ [q]).map V.ref).length : Int) - 1 = ((ks.length : Nat) : Int) := by
      rw [List.length_map, cn, List.length_append, List.length_singleton]
      omega
    have elst : [V.int ((((qs ++ [q]).map V.ref).length : Int) - 1)] = ([ks.length] : List Nat).map fun i => V.int (i : Nat) := by
      rw [en]
      rfl
    rw [elst]
    have s2 : Same H1 (upd H1 p (.lst (([ks.length] : List Nat).map fun i => V.int (i : Nat)))) := same_new hp
    have okc : Okay (ks ++ [c]) pu tr rw := X.ok.more (fun k c e => by rw [List.getElem?_append_left (List.getElem?_eq_some_iff.mp e).1]; exact e) fun x hx => hx
    have pl := X.pt.n
    refine ⟨A, D1, qs ++ [q], aq, kv1, ks ++ [c], tr, rw, pu, ah, p, [ks.length], rfl, F1.same s2, upd_same, fun i hi => ?_, okc, gd, fun i d hd hi => ?_, by show 1 ≤ 100000; decide, pl, fun H3 nw mr br F3 ok3 cl3 bk3 f3 => ?_⟩
    · rw [List.mem_singleton.mp hi, List.length_append]
      exact Nat.lt_succ_self _
    · rcases getElem_snoc hd with ⟨hl, e⟩ | ⟨hl, e⟩
      · exact cl1 d (List.mem_of_getElem? e)
      · exact absurd (by rw [hl]; exact List.mem_cons_self) hi
    · have f13 : Fr D D1 H H3 := (f1.trans (Fr.same s2) d1).trans f3 d1
      have X3 : FolX H3 (cs 0) A D1 (ks ++ [c]) pu (tr ++ nw) (rw ++ somes mr) ah br (qs ++ [q]) aq kv1 := by
        refine ⟨F3, ok3, gd, X.pt, ?_, fun e => ⟨cl3 e, fun x hx => List.mem_append_left _ (cl2 x hx)⟩, fun r e => ?_, X.al, fun k' z hz => ((X.aa k' z hz).cls c).ext X.ok.len _ _, X.aw⟩
        · rw [List.flatten_append, List.length_append, List.flatten_cons, List.flatten_nil, List.append_nil]
          omega
        · obtain ⟨k', d, e1, e2, e3⟩ := bk3 r e
          exact ⟨k', d, e1, e2, .inl ⟨fun x hx => List.mem_append_left _ (cl2 x hx), e3⟩⟩
      refine ⟨_, rfl, A.f, A.dx, _, rfl, F3.ins, rfl, _, rfl, A, br, tr ++ nw, tr.length, ?_, F3.ins, F3.trl, fun hbr => ?_, fun hbr H5 p5 hp5 s5 h5 => ?_⟩
      · rw [List.length_map]
        rfl
      · cases br with
        | none => exact absurd rfl hbr
        | some r => exact k H3 D1 _ _ _ .non ⟨_, _, _, X3⟩ f13 d1 (fun p e => by cases e) (.inl ⟨r, rfl, rfl⟩)
      · subst hbr
        have np : H p5 = none := by
          cases e : H p5 with
          | none => rfl
          | some u =>
            by_cases dp : D p5
            · obtain ⟨u2, e2⟩ := X3.r.known (d1 _ dp)
              rw [hp5] at e2
              cases e2
            · rw [f13.k p5 u e dp] at hp5
              cases hp5
        have nd4 := ok3.nd
        have co4 := ok3.con
        refine k H5 D1 _ _ none (.ref p5) (Fol.same ⟨_, _, _, X3⟩ s5) (f13.trans (Fr.same s5) d1) d1 (fun p e z => by cases e; obtain ⟨u2, e2⟩ := X3.r.known z; rw [hp5] at e2; cases e2) (.inr ⟨rfl, p5, (tr ++ nw).drop tr.length, rfl, ⟨np, h5, nd4.sublist (List.drop_sublist _ _), fun x hx y => co4 x (List.mem_of_mem_drop hx) (List.mem_of_mem_drop y), fun x => ?_⟩⟩)
        have dis := List.nodup_append.mp nd4
        rw [List.drop_left]
        constructor
        · intro h
          exact ⟨List.mem_append_right _ h, fun z => dis.2.2 x z x h rfl, fun z => by cases z⟩
        · rintro ⟨h1, h2, _⟩
          exact (List.mem_append.mp h1).resolve_left h2
theorem hm_back {cs : Nat → Addr} (T : Top K mg cs) (h_Follower__take_off_last : HasM P w K mg base (cs 0) 1 "_take_off_last" ["self"] (spOff (cs 0))) (h_Follower__settle : HasM P w K mg base (cs 0) 3 "_settle" ["self", "numbers"] (spSettle (cs 0))) :
    HasM P w K mg base (cs 0) 4 "back" ["self"] (spBack (cs 0)) := by
  refine has_ofM T.m_Follower_back sc_Follower_back bd_Follower_back (fun vs H Q E h => ?_) (fun f cdv Ar outer s H vs Q E hr h => ?_)
  · obtain ⟨A, D, ks, pu, tr, rw, ah, br, m, rfl, _⟩ := h
    rfl
  · have hu := hu_of hr
    have nd := sc_Follower_back.nd
    obtain ⟨A, D, ks, pu, tr, rw, ah, br, m, rfl, ⟨qs, aq, kvs, X⟩, k⟩ := h
    have F := X.r
    refine ⟨_, (pss_cons (ps_if (pt_not (pt_truth (pe_fld (pv 0) rfl) (by intro _; rfl))) (pss_one ps_never) pss_nil)
    (pss_cons (ps_set (i := 1) nd rfl (.inl rfl) (pe_bm0 PySem.F.plainAttrs_list PySem.F.slot_list_pop PySem.F.type_list_pop mt_pop (pe_fld (pv 0) rfl)))
    (pss_cons (ps_ddel (pe_fld (pv 0) rfl) (pv 1))
    (pss_cons (ps_asg (pe_bm0 PySem.F.plainAttrs_list PySem.F.slot_list_pop PySem.F.type_list_pop mt_pop (pe_fld (pv 0) rfl)) (pg_tup (by rfl) (pgs_cons (pg_name (i := 2) nd rfl (.inl rfl)) (pgs_cons (pg_name (i := 3) nd rfl (.inl rfl)) pgs_nil))))
    (pss_cons (ps_while PassesOwn.never (pt_cmpR op_gt (pe_callB call_len_seq (by rfl) T.b_len (by decide +kernel) (pa_cons (pe_fld (pv 0) rfl) pa_nil)) (pv 2) (nomark _)) (pss_one (ps_expr (pe_hasM0 T.cl_Follower h_Follower__take_off_last (hr.mono (by omega)) (pv 0)))))
    (pss_cons (ps_fld (pv 0) pe_non rfl)
    (pss_cons (ps_expr (pe_hasM T.cl_Follower h_Follower__settle (hr.mono (by omega)) (pv 0) (pa_cons (pe_listRg rfl (by rfl) T.b_list (prg_2 (by rfl) T.b_range (pv 3) (pe_callB call_len_seq (by rfl) T.b_len (by decide +kernel) (pa_cons (pe_fld (pv 0) rfl) pa_nil)))) pa_nil)))
    (pss_one (ps_ret (pv 1)))))))))), ?_⟩
    have gfl := X.gd.fl
    have gn := X.gd.n
    have al := X.al
    rw [List.length_append, List.length_singleton] at al
    refine ⟨_, rfl, A.f, cs 0, A.dx, _, _, rfl, F.ins, T.cl_Follower, T.n_Follower__puts, rfl, _, .inl ⟨_, SqL.of F.pul, rfl⟩, ?_⟩
    have ne : ((pu ++ [m]).map V.int).isEmpty = false := by
      rw [List.isEmpty_map]
      cases pu <;> rfl
    rw [ne]
    refine iteF ?_
    have lastM : ((pu ++ [m]).map V.int)[((pu ++ [m]).map V.int).length - 1]? = some (.int m) := by
      rw [List.length_map, List.length_append, List.length_singleton, Nat.add_sub_cancel, List.getElem?_map, List.getElem?_append_right (Nat.le_refl _), Nat.sub_self]
      rfl
    have dropM : ((pu ++ [m]).map V.int).dropLast = pu.map V.int := by
      rw [List.map_append]
      exact List.dropLast_concat
    refine ⟨_, rfl, A.f, cs 0, A.dx, _, _, rfl, F.ins, T.cl_Follower, T.n_Follower__puts, rfl, .inl ⟨rfl, _, SqL.of F.pul⟩, A.pu, _, _, rfl, rfl, F.pul, lastM, ?_⟩
    rw [dropM]
    have c1 := F.co.put 7 rfl (.lst (pu.map V.int))
    have r1 := F.re.core (by simp [fas]) F.pul (fun xs z => by cases z) (.lst (pu.map V.int))
    have f1 : Fr D D H (upd H A.pu (.lst (pu.map V.int))) := Fr.upd (F.in_ (by simp [fas]))
    generalize upd H A.pu (.lst (pu.map V.int)) = H1 at c1 r1 f1
    have i1 : H1 A.f = some (.ins (cs 0) A.dx (fl A br)) := c1.at_ 0 _ _ rfl rfl
    have t1 : H1 A.ip = some (.dK (tru (pu ++ [m]))) := c1.at_ 8 _ _ rfl rfl
    have ptn := List.nodup_append.mp X.pt.nd
    have mn : m ∉ pu := fun z => ptn.2.2 m z m List.mem_cons_self rfl
    refine ⟨_, rfl, A.f, cs 0, A.dx, _, _, rfl, i1, T.cl_Follower, T.n_Follower__is_put, rfl, _, rfl, A.ip, _, Sum.inl m, rfl, t1, rfl, ?_, ?_⟩
    · rw [tru_some]
      exact decide_eq_true (List.mem_append_right _ List.mem_cons_self)
    have ed : dropK (tru (pu ++ [m])) (Sum.inl m : Key) = tru pu := by
      unfold dropK tru
      rw [List.map_append, List.filter_append]
      have e1 : ((pu.map fun k => ((Sum.inl k : Key), V.bl true)).filter fun kv => decide (kv.1 ≠ (Sum.inl m : Key))) = pu.map fun k => ((Sum.inl k : Key), V.bl true) := by
        refine List.filter_eq_self.mpr fun kv hkv => ?_
        obtain ⟨z, hz, rfl⟩ := List.mem_map.mp hkv
        simp
        exact fun e => mn (e ▸ hz)
      rw [e1]
      simp
    rw [ed]
    have c2 := c1.put 8 rfl (.dK (tru pu))
    have r2 := r1.core (a := A.ip) (by simp [fas]) t1 (fun xs z => by cases z) (.dK (tru pu))
    have f2 : Fr D D H (upd H1 A.ip (.dK (tru pu))) := f1.trans (Fr.upd (F.in_ (by simp [fas]))) fun _ h => h
    generalize upd H1 A.ip (.dK (tru pu)) = H2 at c2 r2 f2
    -- ahead
    have i2 : H2 A.f = some (.ins (cs 0) A.dx (fl A br)) := c2.at_ 0 _ _ rfl rfl
    have a2 : H2 A.ah = some (.lst (aq.map V.ref)) := c2.at_ 9 _ _ rfl rfl
    have an := F.re.an
    obtain ⟨ah0, z0, rfl⟩ : ∃ ah0 z0, ah = ah0 ++ [z0] := by
      have : ah ≠ [] := fun e => by rw [e] at al; simp at al
      exact ⟨ah.dropLast, ah.getLast this, (List.dropLast_concat_getLast this).symm⟩
    obtain ⟨aq0, q0, rfl⟩ : ∃ aq0 q0, aq = aq0 ++ [q0] := by
      have : aq ≠ [] := fun e => by rw [e, List.length_append] at an; simp at an
      exact ⟨aq.dropLast, aq.getLast this, (List.dropLast_concat_getLast this).symm⟩
    have al0 : ah0.length = pu.length := by
      rw [List.length_append, List.length_singleton] at al
      omega
    have an0 : aq0.length = ah0.length := by
      rw [List.length_append, List.length_append, List.length_singleton, List.length_singleton] at an
      omega
    have hq0 := r2.at_ aq0.length q0 z0 (by rw [List.getElem?_append_right (Nat.le_refl _), Nat.sub_self]; rfl) (by rw [an0, List.getElem?_append_right (Nat.le_refl _), Nat.sub_self]; rfl)
    obtain ⟨a0, n0, ez0, ha0, hn0, hc0, hp0, hr0⟩ := (X.aa ah0.length z0 (by rw [List.getElem?_append_right (Nat.le_refl _), Nat.sub_self]; rfl)).ex
    subst ez0
    have tpu : (pu ++ [m]).take ah0.length = pu := by rw [al0, List.take_append_of_le_length (Nat.le_refl _), List.take_length]
    rw [tpu] at hp0 hr0
    have lastA : ((aq0 ++ [q0]).map V.ref)[((aq0 ++ [q0]).map V.ref).length - 1]? = some (.ref q0) := by
      rw [List.length_map, List.length_append, List.length_singleton, Nat.add_sub_cancel, List.getElem?_map, List.getElem?_append_right (Nat.le_refl _), Nat.sub_self]
      rfl
    have dropA : ((aq0 ++ [q0]).map V.ref).dropLast = aq0.map V.ref := by
      rw [List.map_append]
      exact List.dropLast_concat
    refine ⟨_, rfl, A.f, cs 0, A.dx, _, _, rfl, i2, T.cl_Follower, T.n_Follower__ahead, rfl, .inl ⟨rfl, _, SqL.of a2⟩, A.ah, _, _, rfl, rfl, a2, lastA, ?_⟩
    have c3 := c2.put 9 rfl (.lst (aq0.map V.ref))
    have r3 := r2.core (a := A.ah) (by simp [fas]) a2 (fun xs z => by cases z) (.lst (aq0.map V.ref))
    have f3 : Fr D D H (upd H2 A.ah (.lst (aq0.map V.ref))) := f2.trans (Fr.upd (F.in_ (by simp [fas]))) fun _ h => h
    have hq3 : (upd H2 A.ah (.lst (aq0.map V.ref))) q0 = some (.tup [.int ((a0 : Int), (n0 : Int)).1, .int ((a0 : Int), (n0 : Int)).2]) := by
      rw [upd_ne (ne_of hq0 a2 (by intro z; cases z))]
      exact hq0
    refine ⟨q0, _, rfl, SqT.of (by rw [dropA]; exact hq3), rfl, _, _, rfl, _, _, rfl, rfl, ?_⟩
    rw [dropA]
    have F3 : FolR (upd H2 A.ah (.lst (aq0.map V.ref))) (cs 0) A D qs aq0 kvs ks (ks.map (offC tr)) (nums ks) tr rw pu ah0 br := by
      refine ⟨c3, r3.cn, r3.ct, an0, fun i q y hq hy => ?_, r3.hv, r3.dd⟩
      exact r3.at_ i q y (by rw [List.getElem?_append_left (List.getElem?_eq_some_iff.mp hq).1]; exact hq) (by rw [List.getElem?_append_left (List.getElem?_eq_some_iff.mp hy).1]; exact hy)
    generalize upd H2 A.ah (.lst (aq0.map V.ref)) = H3 at F3 f3
    -- the trail
    have rl := X.ok.len
    refine ⟨fun n σ H' => ∃ l, n = l ∧ a0 ≤ l ∧ l ≤ tr.length ∧ σ = [some (.ref A.f), some (.int m), some (.int (a0 : Nat)), some (.int (n0 : Nat))] ∧ FolR H' (cs 0) A D qs aq0 kvs ks (ks.map (offC (tr.take l))) (nums ks) (tr.take l) (rw.take l) pu ah0 br ∧ Fr D D H H', ⟨tr.length, tr.length, rfl, ha0, Nat.le_refl _, rfl, ?_, f3⟩, ?_⟩
    · rw [List.take_length, ← rl, List.take_length]
      exact F3
    rintro n σ H4 ⟨l, rfl, hl1, hl2, rfl, F4, f4⟩
    refine ⟨_, rfl, A.f, cs 0, A.dx, _, _, rfl, F4.ins, T.cl_Follower, T.n_Follower__trail, rfl, A.tr, _, rfl, .inl (SqL.of F4.trl), _, rfl, _, _, rfl, rfl, _, rfl, ?_⟩
    rw [List.length_map, List.length_take, Nat.min_eq_left hl2]
    refine ite2 (fun c => ?_) (fun c => ?_)
    · have c' : (a0 : Int) < (n : Int) := of_decide_eq_true c
      refine ⟨_, fun σ' H' h => h, ?_⟩
      have el : n = (n - 1) + 1 := by omega
      have et : tr[n - 1]? = some tr[n - 1] := List.getElem?_eq_getElem (by omega)
      have er : rw[n - 1]? = some rw[n - 1] := List.getElem?_eq_getElem (by omega)
      have e1 : tr.take n = tr.take (n - 1) ++ [tr[n - 1]] := by
        conv => lhs; rw [el]
        exact take_snoc' et
      have e2 : rw.take n = rw.take (n - 1) ++ [rw[n - 1]] := by
        conv => lhs; rw [el]
        exact take_snoc' er
      have ndt : (tr.take n).Nodup := X.ok.nd.sublist (List.take_sublist _ _)
      rw [e1] at ndt
      rw [e1, e2] at F4
      have dis := List.nodup_append.mp ndt
      refine ⟨_, rfl, A.f, A.dx, _, rfl, F4.ins, rfl, A, D, qs, aq0, kvs, ks, tr.take (n - 1), rw.take (n - 1), pu, ah0, br, _, _, rfl, F4, fun z => dis.2.2 _ z _ List.mem_cons_self rfl, X.gd.nd, dis.1, gn, fun H5 F5 f5 => ?_⟩
      exact ⟨n - 1, by omega, n - 1, rfl, by omega, by omega, rfl, F5, f4.trans f5 fun _ h => h⟩
    · have c' : ¬ (a0 : Int) < (n : Int) := fun z => c (decide_eq_true z)
      have en : n = a0 := by omega
      subst en
      refine ⟨_, rfl, A.f, cs 0, A.dx, _, rfl, F4.ins, T.cl_Follower, T.n_Follower__broken_row, by show 10 < 1000; decide, ?_⟩
      have F5 := F4.setBr none
      have f5 : Fr D D H (upd H4 A.f (.ins (cs 0) A.dx (fl A none))) := f4.trans (Fr.upd (F.in_ (by simp [fas]))) fun _ h => h
      show _
      rw [show putF "_broken_row" V.non (fl A br) = fl A none from put_br A br none]
      generalize upd H4 A.f (.ins (cs 0) A.dx (fl A none)) = H5 at F5 f5
      have cn := F5.re.cn
      refine ⟨_, rfl, A.f, A.dx, _, rfl, F5.ins, rfl, _, rfl, _, rfl, A.f, cs 0, A.dx, _, _, rfl, F5.ins, T.cl_Follower, T.n_Follower__clauses, rfl, A.cl, _, rfl, .inl (SqL.of F5.cl), _, _, rfl, rfl, RgOk.of_le (by omega) (by rw [List.length_map]; omega) (by omega) (by omega), fun p hp => ?_⟩
      rw [List.length_map, cn]
      have erg : rgV (n0 : Int) (ks.length : Int) = (List.range' n0 (ks.length - n0)).map fun i => V.int (i : Nat) := by
        unfold rgV
        rw [show ((ks.length : Int) - (n0 : Int)).toNat = ks.length - n0 by omega, List.range'_eq_map_range, List.map_map]
        refine List.map_congr_left fun i _ => ?_
        show V.int ((n0 : Int) + (i : Nat)) = V.int ((n0 + i : Nat) : Int)
        rw [Int.natCast_add]
      rw [erg]
      have s6 : Same H5 (upd H5 p (.lst ((List.range' n0 (ks.length - n0)).map fun i => V.int (i : Nat)))) := same_new hp
      have ptn2 : Puts pu := ⟨ptn.1, fun x hx z => X.pt.con x (List.mem_append_left _ hx) (List.mem_append_left _ z), by have := X.pt.n; rw [List.length_append] at this; omega⟩
      have ok5 : Okay ks pu (tr.take n) (rw.take n) := by
        refine ⟨X.ok.nd.sublist (List.take_sublist _ _), fun x hx z => X.ok.con x (List.mem_of_mem_take hx) (List.mem_of_mem_take z), fun i x hx => ?_, by rw [List.length_take, List.length_take, rl]⟩
        rw [List.getElem?_take] at hx
        by_cases hi : i < n
        · rw [if_pos hi] at hx
          rcases X.ok.just i x hx with ⟨g1, g2⟩ | ⟨j, d, g1, g2, g3, g4⟩
          · exact .inl ⟨by rw [List.getElem?_take, if_pos hi]; exact g1, hr0 i hi g1 x hx⟩
          · exact .inr ⟨j, d, by rw [List.getElem?_take, if_pos hi]; exact g1, g2, g3, fun y hy hne => by rw [List.take_take, Nat.min_eq_left (by omega)]; exact g4 y hy hne⟩
        · rw [if_neg hi] at hx
          cases hx
      refine ⟨A, D, qs, aq0, kvs, ks, tr.take n, rw.take n, pu, ah0, p, List.range' n0 (ks.length - n0), rfl, F5.same s6, upd_same, fun i hi => ?_, ok5, X.gd, fun i d hd hi => ?_, by rw [List.length_range']; omega, ptn2.n, fun H7 nw mr br7 F7 ok7 cl7 bk7 f7 => ?_⟩
      · have := List.mem_range'.mp hi
        obtain ⟨j, hj, e⟩ := this
        omega
      · have il := (List.getElem?_eq_some_iff.mp hd).1
        have ilt : i < n0 := by
          by_cases z : i < n0
          · exact z
          · exact absurd (List.mem_range'.mpr ⟨i - n0, by omega, by omega⟩) hi
        exact hc0 d (List.mem_of_getElem? (i := i) (by rw [List.getElem?_take, if_pos ilt]; exact hd))
      · have aw := List.pairwise_append.mp X.aw
        refine ⟨_, rfl, k H7 _ _ _ br7 ⟨qs, aq0, kvs, ⟨F7, ok7, X.gd, ptn2, X.kl, fun e => ⟨cl7 e, fun x hx => List.mem_append_left _ (hp0 x hx)⟩, fun r e => ?_, al0, fun k' z hz => ?_, aw.1⟩⟩ ((f5.trans (Fr.same s6) fun _ h => h).trans f7 fun _ h => h)⟩
        · obtain ⟨k', d, e1, e2, e3⟩ := bk7 r e
          exact ⟨k', d, e1, e2, .inl ⟨fun x hx => List.mem_append_left _ (hp0 x hx), e3⟩⟩
        · have kl := (List.getElem?_eq_some_iff.mp hz).1
          have le := aw.2.2 z (List.mem_of_getElem? hz) _ List.mem_cons_self
          obtain ⟨a', n', ez, ha', hn', hc', hp', hr'⟩ := (X.aa k' z (by rw [List.getElem?_append_left kl]; exact hz)).ex
          subst ez
          have le' : a' ≤ n := by
            have le : (a' : Int) ≤ (n : Int) := le
            omega
          have tk : (pu ++ [m]).take k' = pu.take k' := List.take_append_of_le_length (by omega)
          rw [tk] at hp' hr'
          have t2 : (tr.take n).take a' = tr.take a' := by rw [List.take_take, Nat.min_eq_left le']
          refine AhAt.ext ⟨a', n', rfl, by rw [List.length_take]; omega, hn', by rw [t2]; exact hc', by rw [t2]; exact hp', fun i hi e1 x e2 => ?_⟩ (by rw [List.length_take, List.length_take, rl]) nw (somes mr)
          rw [List.getElem?_take, if_pos (by omega)] at e1 e2
          exact hr' i hi e1 x e2
end

/-! ### rows that show -/
inductive Nd (cs : List (List Int)) (pu tr : List Int) (rw : List (Option Int)) (ms : List Int) : Nat → Prop
  | st {i : Nat} {m : Int} : m ∈ ms → m ∉ pu → tr[i]? = some m → Nd cs pu tr rw ms i
  | cl {i j k : Nat} {c : List Int} {x m : Int} : Nd cs pu tr rw ms i → tr[i]? = some m → rw[i]? = some (some (k : Int)) → cs[k]? = some c → x ∈ c → x ≠ m → -x ∉ pu → tr[j]? = some (-x) → Nd cs pu tr rw ms j
def rowN (rw : List (Option Int)) (i : Nat) : Int := match rw[i]? with
  | some (some k) => k
  | _ => 0
theorem rowN_of {rw : List (Option Int)} {i : Nat} {k : Int} (h : rw[i]? = some (some k)) : rowN rw i = k := by
  unfold rowN
  rw [h]
theorem idx_one {tr : List Int} (nd : tr.Nodup) {i j : Nat} {m : Int} (h1 : tr[i]? = some m) (h2 : tr[j]? = some m) : i = j := by
  obtain ⟨a1, a2⟩ := List.getElem?_eq_some_iff.mp h1
  obtain ⟨b1, b2⟩ := List.getElem?_eq_some_iff.mp h2
  exact (List.getElem_inj nd).mp (a2.trans b2.symm)
section
variable {cs : List (List Int)} {pu tr ms : List Int} {rw : List (Option Int)}
theorem Nd.row (ok : Okay cs pu tr rw) {i : Nat} (h : Nd cs pu tr rw ms i) : ∃ (m : Int) (k : Nat) (c : List Int), tr[i]? = some m ∧ m ∉ pu ∧ rw[i]? = some (some (k : Int)) ∧ cs[k]? = some c ∧ m ∈ c ∧ ∀ x ∈ c, x ≠ m → -x ∈ tr.take i := by
  obtain ⟨m, hm, np⟩ : ∃ m, tr[i]? = some m ∧ m ∉ pu := by
    cases h with
    | st _ h2 h3 => exact ⟨_, h3, h2⟩
    | cl _ _ _ _ _ _ h7 h8 => exact ⟨_, h8, h7⟩
  rcases ok.just i m hm with ⟨_, h⟩ | ⟨k, c, a, b, d, e⟩
  · exact absurd h np
  · exact ⟨m, k, c, hm, np, a, b, d, e⟩
theorem Nd.lt (ok : Okay cs pu tr rw) {B : Nat} (hB : ∀ m ∈ ms, m ∈ pu ∨ m ∈ tr.take B) {i : Nat} (h : Nd cs pu tr rw ms i) : i < B := by
  induction h with
  | @st i m h1 h2 h3 =>
    rcases hB m h1 with z | z
    · exact absurd z h2
    · obtain ⟨j, hj, e⟩ := mem_take z
      rw [idx_one ok.nd h3 e]
      exact hj
  | @cl i j k c x m h1 h2 h3 h4 h5 h6 h7 h8 ih =>
    obtain ⟨m', k', c', a1, _, a3, a4, _, a6⟩ := h1.row ok
    rw [h2] at a1
    cases a1
    rw [h3] at a3
    have ek : k = k' := by
      injection a3 with a3
      injection a3 with a3
      omega
    subst ek
    rw [h4] at a4
    cases a4
    obtain ⟨j', hj, e⟩ := mem_take (a6 x h5 h6)
    rw [idx_one ok.nd h8 e]
    omega
theorem filter_one {p : Int → Bool} {m : Int} : ∀ {c : List Int}, c.Nodup → m ∈ c → p m = true → (∀ x ∈ c, x ≠ m → p x = false) → c.filter p = [m]
  | a :: r, hn, hm, h1, h2 => by
    have hn' := List.nodup_cons.mp hn
    by_cases e : a = m
    · subst e
      rw [List.filter_cons_of_pos h1]
      congr 1
      refine List.filter_eq_nil_iff.mpr fun x hx => ?_
      rw [h2 x (List.mem_cons_of_mem _ hx) fun z => hn'.1 (z ▸ hx)]
      decide
    · rw [List.filter_cons_of_neg (by rw [h2 a List.mem_cons_self e]; decide)]
      exact filter_one hn'.2 ((List.mem_cons.mp hm).resolve_left fun z => e z.symm) h1 fun x hx => h2 x (List.mem_cons_of_mem _ hx)
theorem bring_append (cs : List (List Int)) : ∀ (a b on : List Int), bring cs (a ++ b) on = match bring cs a on with
    | none => none
    | some o => bring cs b o
  | [], b, on => rfl
  | r :: rs, b, on => by
    show (match step cs on r with | none => none | some on' => bring cs (rs ++ b) on') = match (match step cs on r with | none => none | some on' => bring cs rs on') with | none => none | some o => bring cs b o
    cases step cs on r with
    | none => rfl
    | some on' => exact bring_append cs rs b on'
theorem clAt_nat {k : Nat} {c : List Int} (h : cs[k]? = some c) : clAt cs (k : Int) = some c := by
  have l := (List.getElem?_eq_some_iff.mp h).1
  unfold clAt
  rw [if_pos ⟨by omega, by omega⟩]
  exact h
theorem mem_ins {on : List Int} {k x : Int} : x ∈ ins on k ↔ x ∈ on ∨ x = k := by
  unfold ins
  by_cases h : k ∈ on
  · rw [if_pos h]
    exact ⟨.inl, fun z => z.elim id fun e => e ▸ h⟩
  · rw [if_neg h, List.mem_append, List.mem_singleton]
theorem mem_fold0 {x : Int} : ∀ (b a : List Int), x ∈ b.foldl ins a ↔ x ∈ a ∨ x ∈ b
  | [], a => by simp
  | y :: r, a => by
    show x ∈ r.foldl ins (ins a y) ↔ _
    rw [mem_fold0 r, mem_ins, List.mem_cons, or_assoc]
theorem bring_rows (ok : Okay cs pu tr rw) (gn : ∀ c ∈ cs, c.Nodup) (hneg : ∀ i, Nd cs pu tr rw ms i → ∀ m, tr[i]? = some m → -m ∉ pu) : ∀ L : List Nat, L.Pairwise (· < ·) → (∀ i ∈ L, Nd cs pu tr rw ms i) → (∀ i ∈ L, ∀ j, j < i → Nd cs pu tr rw ms j → j ∈ L) →
    ∃ on, bring cs (L.map (rowN rw)) (pu.foldl ins []) = some on ∧ ∀ x, x ∈ on ↔ x ∈ pu ∨ ∃ j ∈ L, tr[j]? = some x := by
  refine rev_ind (fun _ _ _ => ⟨_, rfl, fun x => ?_⟩) fun L i ih hp hN hd => ?_
  · rw [mem_fold0]
    simp
  · have hp' := List.pairwise_append.mp hp
    have lti : ∀ j ∈ L, j < i := fun j hj => hp'.2.2 j hj i List.mem_cons_self
    obtain ⟨on, eb, mo⟩ := ih hp'.1 (fun j hj => hN j (List.mem_append_left _ hj)) fun j hj j' hlt nj => by
      rcases List.mem_append.mp (hd j (List.mem_append_left _ hj) j' hlt nj) with z | z
      · exact z
      · rw [List.mem_singleton] at z
        have := lti j hj
        omega
    have ni := hN i (List.mem_append_right _ List.mem_cons_self)
    obtain ⟨m, k, c, a1, a2, a3, a4, a5, a6⟩ := ni.row ok
    have m1 : m ∉ on := fun z => by
      rcases (mo m).mp z with y | ⟨j, hj, e⟩
      · exact a2 y
      · have := idx_one ok.nd a1 e
        have := lti j hj
        omega
    have m2 : -m ∉ on := fun z => by
      rcases (mo (-m)).mp z with y | ⟨j, hj, e⟩
      · exact hneg i ni m a1 y
      · exact ok.con m (List.mem_of_getElem? a1) (List.mem_of_getElem? e)
    have el : left on c = [m] := by
      unfold left
      refine filter_one (gn c (List.mem_of_getElem? a4)) a5 (by simpa using m2) fun x hx ne => ?_
      have : -x ∈ on := by
        by_cases z : -x ∈ pu
        · exact (mo _).mpr (.inl z)
        · obtain ⟨j, hj, e⟩ := mem_take (a6 x hx ne)
          rcases List.mem_append.mp (hd i (List.mem_append_right _ List.mem_cons_self) j hj (.cl ni a1 a3 a4 hx ne z e)) with y | y
          · exact (mo _).mpr (.inr ⟨j, y, e⟩)
          · rw [List.mem_singleton] at y
            omega
      simp [this]
    refine ⟨ins on m, ?_, fun x => ?_⟩
    · rw [List.map_append, bring_append, eb]
      show (match step cs on (rowN rw i) with | none => none | some on' => some on') = _
      rw [rowN_of a3]
      unfold step
      rw [clAt_nat a4]
      show (match (match left on c with | [x] => if x ∈ on then none else some (ins on x) | _ => none) with | none => none | some on' => some on') = _
      rw [el]
      show (match (if m ∈ on then none else some (ins on m)) with | none => none | some on' => some on') = _
      rw [if_neg m1]
    · rw [mem_ins, mo]
      constructor
      · rintro ((z | ⟨j, hj, e⟩) | rfl)
        · exact .inl z
        · exact .inr ⟨j, List.mem_append_left _ hj, e⟩
        · exact .inr ⟨i, List.mem_append_right _ List.mem_cons_self, a1⟩
      · rintro (z | ⟨j, hj, e⟩)
        · exact .inl (.inl z)
        · rcases List.mem_append.mp hj with y | y
          · exact .inl (.inr ⟨j, y, e⟩)
          · rw [List.mem_singleton.mp y, a1] at e
            exact .inr (Option.some.inj e).symm
/-- one row brings one mark -/
theorem row_one (ok : Okay cs pu tr rw) {i j : Nat} {k : Int} (hi : Nd cs pu tr rw ms i) (hj : Nd cs pu tr rw ms j) (e1 : rowN rw i = k) (e2 : rowN rw j = k) : i = j := by
  obtain ⟨m, k1, c1, a1, _, a3, a4, a5, a6⟩ := hi.row ok
  obtain ⟨m', k2, c2, b1, _, b3, b4, b5, b6⟩ := hj.row ok
  rw [rowN_of a3] at e1
  rw [rowN_of b3] at e2
  have ek : k1 = k2 := by omega
  subst ek
  rw [a4] at b4
  cases b4
  by_cases e : m = m'
  · subst e
    exact idx_one ok.nd a1 b1
  · exact absurd (List.mem_of_mem_take (b6 m a5 e)) (ok.con m (List.mem_of_getElem? a1))
end
/-- what shown tells -/
def ShownIs (cs : List (List Int)) (pu tr : List Int) (rw : List (Option Int)) (br : Option Int) (m : Option Int) (rs : List Int) : Prop :=
  match m with
  | some x => br = none ∧ ∃ L : List Nat, L.Pairwise (· < ·) ∧ (∀ i, i ∈ L ↔ Nd cs pu tr rw [x] i) ∧ rs = L.map (rowN rw)
  | none => ∃ (r : Nat) (c : List Int) (L : List Nat), br = some (r : Int) ∧ cs[r]? = some c ∧ L.Pairwise (· < ·) ∧ (∀ i, i ∈ L ↔ Nd cs pu tr rw (c.map fun x => -x) i) ∧ rs = L.map (rowN rw) ++ [(r : Int)]
theorem asc_one : ∀ {xs ys : List Nat}, xs.Pairwise (· < ·) → ys.Pairwise (· < ·) → (∀ i, i ∈ xs ↔ i ∈ ys) → xs = ys
  | [], [], _, _, _ => rfl
  | [], b :: s, _, _, h => absurd ((h b).mpr List.mem_cons_self) List.not_mem_nil
  | a :: r, [], _, _, h => absurd ((h a).mp List.mem_cons_self) List.not_mem_nil
  | a :: r, b :: s, h1, h2, h => by
    have p1 := List.pairwise_cons.mp h1
    have p2 := List.pairwise_cons.mp h2
    have e : a = b := by
      rcases List.mem_cons.mp ((h a).mp List.mem_cons_self) with z | z
      · exact z
      · rcases List.mem_cons.mp ((h b).mpr List.mem_cons_self) with y | y
        · exact y.symm
        · have := p1.1 b y
          have := p2.1 a z
          omega
    subst e
    rw [asc_one p1.2 p2.2 fun i => ⟨fun hi => ?_, fun hi => ?_⟩]
    · rcases List.mem_cons.mp ((h i).mp (List.mem_cons_of_mem _ hi)) with z | z
      · have := p1.1 i hi
        omega
      · exact z
    · rcases List.mem_cons.mp ((h i).mpr (List.mem_cons_of_mem _ hi)) with z | z
      · have := p2.1 i hi
        omega
      · exact z
theorem ShownIs.det {cs : List (List Int)} {pu tr : List Int} {rw : List (Option Int)} {br m : Option Int} {rs rs' : List Int} (h : ShownIs cs pu tr rw br m rs) (h' : ShownIs cs pu tr rw br m rs') : rs = rs' := by
  cases m with
  | some x =>
    obtain ⟨_, L, a, b, rfl⟩ := h
    obtain ⟨_, L', a', b', rfl⟩ := h'
    rw [asc_one a a' fun i => (b i).trans (b' i).symm]
  | none =>
    obtain ⟨r, c, L, e, hc, a, b, rfl⟩ := h
    obtain ⟨r', c', L', e', hc', a', b', rfl⟩ := h'
    rw [e] at e'
    have er : r = r' := by
      injection e' with e'
      omega
    subst er
    rw [hc] at hc'
    cases hc'
    rw [asc_one a a' fun i => (b i).trans (b' i).symm]
theorem asc_nodup {L : List Nat} (h : L.Pairwise (· < ·)) : L.Nodup := h.imp fun h e => by omega
theorem map_nodup {α β : Type} {f : α → β} : ∀ {l : List α}, l.Nodup → (∀ a ∈ l, ∀ b ∈ l, f a = f b → a = b) → (l.map f).Nodup
  | [], _, _ => List.nodup_nil
  | a :: r, hn, h => by
    have hn' := List.nodup_cons.mp hn
    rw [List.map_cons, List.nodup_cons]
    refine ⟨fun z => ?_, map_nodup hn'.2 fun x hx y hy => h x (List.mem_cons_of_mem _ hx) y (List.mem_cons_of_mem _ hy)⟩
    obtain ⟨b, hb, e⟩ := List.mem_map.mp z
    exact hn'.1 (h b (List.mem_cons_of_mem _ hb) a List.mem_cons_self e ▸ hb)
theorem nd_len {cs : List (List Int)} {pu tr ms : List Int} {rw : List (Option Int)} (ok : Okay cs pu tr rw) {L : List Nat} (h1 : L.Pairwise (· < ·)) (h2 : ∀ i ∈ L, Nd cs pu tr rw ms i) : L.length ≤ tr.length := by
  have := nodup_le (asc_nodup h1) (ys := List.range tr.length) fun i hi => by
    obtain ⟨m, _, _, a1, _⟩ := (h2 i hi).row ok
    exact List.mem_range.mpr (List.getElem?_eq_some_iff.mp a1).1
  rw [List.length_range] at this
  exact this
theorem ShownIs.ok {cs : List (List Int)} {pu tr : List Int} {rw : List (Option Int)} {br m : Option Int} {rs : List Int} (h : ShownIs cs pu tr rw br m rs) (ok : Okay cs pu tr rw) (gn : ∀ c ∈ cs, c.Nodup) (cl : br = none → ∀ m ∈ pu, m ∈ tr) (bk : ∀ r, br = some r → BrkAt cs pu tr rw r) (on : ∀ x, m = some x → x ∈ tr) :
    shownP cs pu rs m = true ∧ rs.Nodup ∧ rs.length ≤ tr.length + 1 := by
  cases m with
  | some x =>
    obtain ⟨eb, L, a, b, rfl⟩ := h
    have hp := cl eb
    obtain ⟨o, e, mo⟩ := bring_rows ok gn (fun i hi m hm z => ok.con m (List.mem_of_getElem? hm) (hp _ z)) L a (fun i hi => (b i).mp hi) fun i _ j _ hj => (b j).mpr hj
    refine ⟨?_, map_nodup (asc_nodup a) fun i hi j hj e => row_one ok ((b i).mp hi) ((b j).mp hj) e rfl, ?_⟩
    · unfold shownP
      simp only
      rw [e]
      refine decide_eq_true ((mo x).mpr ?_)
      by_cases z : x ∈ pu
      · exact .inl z
      · obtain ⟨i, hi⟩ := List.mem_iff_getElem?.mp (on x rfl)
        exact .inr ⟨i, (b i).mpr (.st List.mem_cons_self z hi), hi⟩
    · rw [List.length_map]
      have := nd_len ok a fun i hi => (b i).mp hi
      omega
  | none =>
    obtain ⟨r, c, L, eb, hc, a, b, rfl⟩ := h
    obtain ⟨k, c', ek, hc', alt⟩ := bk _ eb
    have ek' : r = k := by omega
    subst ek'
    rw [hc] at hc'
    cases hc'
    have key : (∀ i, Nd cs pu tr rw (c.map fun x => -x) i → ∀ m, tr[i]? = some m → -m ∉ pu ∧ (m ∈ c → False)) ∧ ∀ x ∈ c, -x ∈ pu ∨ -x ∈ tr := by
      rcases alt with ⟨p1, p2⟩ | ⟨p, i0, q1, q2, q3, q4, q5, q6⟩
      · exact ⟨fun i hi m hm => ⟨fun z => ok.con m (List.mem_of_getElem? hm) (p1 _ z), fun z => ok.con m (List.mem_of_getElem? hm) (p2 m z)⟩, fun x hx => .inr (p2 x hx)⟩
      · have hB : ∀ m ∈ c.map (fun x => -x), m ∈ pu ∨ m ∈ tr.take i0 := fun m hm => by
          obtain ⟨x, hx, rfl⟩ := List.mem_map.mp hm
          by_cases e : x = -p
          · exact .inl (by rw [e, Int.neg_neg]; exact q1)
          · exact .inr (q6 x hx e)
        refine ⟨fun i hi m hm => ?_, fun x hx => (hB _ (List.mem_map.mpr ⟨x, hx, rfl⟩)).imp id List.mem_of_mem_take⟩
        have lt := hi.lt ok hB
        have nm : m ≠ -p := fun e => by
          have := idx_one ok.nd (e ▸ hm) q3
          omega
        refine ⟨fun z => ?_, fun z => ok.con m (List.mem_of_getElem? hm) (List.mem_of_mem_take (q6 m z nm))⟩
        rcases q2 _ z with y | y
        · exact nm (by omega)
        · exact ok.con m (List.mem_of_getElem? hm) y
    obtain ⟨o, e, mo⟩ := bring_rows ok gn (fun i hi m hm => (key.1 i hi m hm).1) L a (fun i hi => (b i).mp hi) fun i _ j _ hj => (b j).mpr hj
    refine ⟨?_, ?_, ?_⟩
    · unfold shownP
      simp only
      rw [List.getLast?_append, List.getLast?_singleton]
      simp only [Option.some_or]
      rw [List.dropLast_concat, e]
      unfold broken
      simp only
      rw [clAt_nat hc]
      simp only
      rw [List.isEmpty_iff]
      unfold left
      refine List.filter_eq_nil_iff.mpr fun x hx => ?_
      have : -x ∈ o := by
        refine (mo _).mpr ?_
        by_cases z : -x ∈ pu
        · exact .inl z
        · rcases key.2 x hx with y | y
          · exact absurd y z
          · obtain ⟨i, hi⟩ := List.mem_iff_getElem?.mp y
            exact .inr ⟨i, (b i).mpr (.st (List.mem_map.mpr ⟨x, hx, rfl⟩) z hi), hi⟩
      simp [this]
    · rw [List.nodup_append]
      refine ⟨map_nodup (asc_nodup a) fun i hi j hj e => row_one ok ((b i).mp hi) ((b j).mp hj) e rfl, by simp, fun x hx y hy e => ?_⟩
      rw [List.mem_singleton.mp hy] at e
      obtain ⟨i, hi, ex⟩ := List.mem_map.mp hx
      obtain ⟨m, k', c2, a1, _, a3, a4, a5, _⟩ := ((b i).mp hi).row ok
      rw [rowN_of a3] at ex
      have ek : k' = r := by omega
      subst ek
      rw [hc] at a4
      cases a4
      exact (key.1 i ((b i).mp hi) m a1).2 a5
    · rw [List.length_append, List.length_map]
      have := nd_len ok a fun i hi => (b i).mp hi
      show L.length + 1 ≤ _
      omega

/-! ### sorted(d), d a dict of whole numbers, as long as it likes -/
theorem ints_of_keys' : ∀ {us : List Value} {ns : List Int}, us.length = ns.length → (∀ (j : Nat) (v : Value), us[j]? = some v → ∃ (x : Int) (t : Tok), ns[j]? = some x ∧ v = Value.int x t) → IntsAre us ns
  | [], [], _, _ => .nil
  | [], _ :: _, hl, _ => absurd hl (by simp)
  | _ :: _, [], hl, _ => absurd hl (by simp)
  | u :: us, n :: ns, hl, h => by
    obtain ⟨x, t, e1, e2⟩ := h 0 u rfl
    obtain rfl : n = x := Option.some.inj e1
    subst e2
    exact .cons _ _ (ints_of_keys' (Nat.succ.inj hl) fun j v e => h (j + 1) v e)
theorem vals_ints : ∀ {us : List Value} {ns : List Int}, IntsAre us ns → Vals (ns.map V.int) us
  | [], [], _ => .nil
  | _ :: _, _ :: _, .cons n t r => .cons ⟨t, rfl⟩ (vals_ints r)
section
variable {X : Cx}
theorem cr_sortedK (hcalm : X.calm = true) : CallR X (.builtin "sorted") (fun xs H Q => ∃ (a : Addr) (kvs : List (Key × V)) (ns : List Int), xs = [.ref a] ∧ H a = some (.dK kvs) ∧ kvs.map (·.1) = ns.map Sum.inl ∧
    ∀ (ns' : List Int) (p : Addr), ns'.Perm ns → ns'.Pairwise (· ≤ ·) → H p = none → Q (.ref p) (upd H p (.lst (ns'.map V.int)))) := by
  intro pins s σ H xs us Q I r h
  obtain ⟨a, kvs, ns, rfl, hd, hkeys, q⟩ := h
  obtain rfl := Vals.ref1 r
  obtain ⟨lo, nsys, ws, rel, dd⟩ := dk_of I.hok hd
  obtain ⟨ep, hat⟩ := dd.dictAt
  have hk2 : ws.map (·.1) = ns.map Sum.inl := rel.keys.symm.trans hkeys
  have lws : ws.length = ns.length := by
    have z := congrArg List.length hk2
    rw [List.length_map, List.length_map] at z
    exact z
  have few : ns.length ≤ sizeLine := by
    have z := congrArg List.length hkeys
    rw [List.length_map, List.length_map] at z
    omega
  refine call_function_entry_kw (kw := []) kind_sorted plain_sorted entry_sorted rfl ?_
  unfold Builtin.«sorted»
  refine wpAny_bind (m := checkCount "sorted" 1 1 _) (wpAny_pure ?_)
  refine wpAny_bind (PySem.W.kdu_collect (A := X.A.in1) (PySem.W.kdl_dict (knd := mixKind X.prog X.w) (kvs := ws) (ep := ep) nsys) (I.ok.hd hcalm) hat (by omega) fun h2 tk2 acc hk hacc => ?_)
  have la : acc.toList.length = ns.length := by rw [Array.length_toList, hacc.1, lws]
  have hS : IntsAre acc.toList ns := ints_of_keys' la fun j v ej => by
    obtain ⟨ky, x, e1, e2⟩ := hacc.2 j v (by rw [← Array.getElem?_toList]; exact ej)
    have e3 : (ws.map (·.1))[j]? = some ky := by
      rw [List.getElem?_map, e1]
      rfl
    rw [hk2, List.getElem?_map] at e3
    cases e4 : ns[j]? with
    | none =>
      rw [e4] at e3
      cases e3
    | some y =>
      rw [e4] at e3
      obtain rfl : Sum.inl y = ky := Option.some.inj e3
      rcases keyIs_shape (show keyIs (Sum.inl y) v = true from e2) with ⟨i, u, ek, eu⟩ | ⟨z, u, ek, eu⟩
      · cases ek
        exact ⟨y, u, rfl, eu⟩
      · cases ek
  have I2 : Inv X pins σ H { s with heap := h2, toks := tk2 } := I.kept hk
  refine wpAny_bind (wpAny_newList ?_ (by omega))
  have hL : (h2.push (seqObj "list" acc.toList.toArray 0)).get? h2.objs.size = some (seqObj "list" acc.toList.toArray 0) := Heap.get?_push_size _ rfl
  show wpAny _ _ _ _ _ { s with heap := h2.push (seqObj "list" acc.toList.toArray 0), toks := tk2 }
  refine wpAny_bind (wpAny_holding (wpAny_call_entry_kw (kw := []) slot_list_sort ⟨_, hL, rfl⟩ entry_list_sort ?body rfl))
  case body =>
    show wpAny _ X.A.in1.in1 (Builtin.«list.sort» ⟨[.ref h2.objs.size], []⟩) _ _ _
    refine SrtO.list_sort_ord (s := { s with heap := h2.push (seqObj "list" acc.toList.toArray 0), toks := tk2 }) (vs := acc.toList) SrtO.swo_int hL (by omega) (fun two => SrtO.ints_sortable hS two) fun out o1 o2 => ⟨_, rfl, wpAny_pure ⟨_, rfl, ?_⟩⟩
    obtain ⟨p1, p2, p3⟩ := SrtO.ints_out hS o1 o2
    obtain ⟨e, hD⟩ := sortedHeap_at (out := out.toArray) hL
    have hlen : ((out.map SrtO.iv).map V.int).length ≤ sizeLine := by
      rw [List.length_map, p2.length_eq]
      exact few
    exact ⟨.ref _, upd H h2.objs.size (.lst ((out.map SrtO.iv).map V.int)), I2.laid (t' := tk2) (fun b u z => by
      have lt := Heap.lt_size z
      rw [sortedHeap_old (Nat.ne_of_lt lt) (Nat.lt_trans lt (by rw [Heap.size_push]; exact Nat.lt_succ_self _))]
      exact Heap.get?_push_of_some _ z) (Nat.le_refl _) ⟨hlen, out, e, vals_ints p1, hD⟩, rfl, q _ _ p2 p3 (I2.hok.fresh (Nat.le_refl _))⟩
end

/-! ### the rows to some marks -/
def negF (x : V) : V := match x with
  | .int m => .int (-m)
  | y => y
def notI (m : Int) (x : V) : Bool := match x with
  | .int y => !decide (y = m)
  | _ => false
theorem map_negF (m : Int) (c : List Int) : ((c.map V.int).filter (notI m)).map negF = ((c.filter fun y => !decide (y = m)).map fun y => -y).map V.int := by
  rw [List.filter_map, List.map_map, List.map_map]
  rfl
theorem map_negF0 (c : List Int) : (((c.map V.int).filter fun _ => true).map negF) = (c.map fun y => -y).map V.int := by
  rw [List.filter_eq_self.mpr fun _ _ => rfl, List.map_map, List.map_map]
  rfl
def nI (N : List Nat) : List Int := N.map fun (i : Nat) => (i : Int)
theorem mem_nI {N : List Nat} {i : Nat} : (i : Int) ∈ nI N ↔ i ∈ N := by
  unfold nI
  rw [List.mem_map]
  exact ⟨fun ⟨j, hj, e⟩ => by
    have : j = i := by omega
    exact this ▸ hj, fun h => ⟨i, h, rfl⟩⟩
theorem nI_keys (ns : List Int) : (tru ns).map (·.1) = ns.map Sum.inl := by
  unfold tru
  rw [List.map_map]
  rfl
theorem asc_of {N : List Nat} (nd : N.Nodup) {ns : List Int} (p : ns.Perm (nI N)) (s : ns.Pairwise (· ≤ ·)) : ∃ L : List Nat, ns = L.map (fun (i : Nat) => (i : Int)) ∧ L.Pairwise (· < ·) ∧ ∀ i, i ∈ L ↔ i ∈ N := by
  have nn : (nI N).Nodup := map_nodup nd fun a _ b _ e => by omega
  have nn' : ns.Nodup := p.nodup_iff.mpr nn
  have e : ns = (ns.map Int.toNat).map fun (i : Nat) => (i : Int) := by
    rw [List.map_map]
    refine (List.map_id ns).symm.trans (List.map_congr_left fun x hx => ?_)
    obtain ⟨j, _, ej⟩ := List.mem_map.mp (p.mem_iff.mp hx)
    show x = ((x.toNat : Nat) : Int)
    omega
  refine ⟨ns.map Int.toNat, e, ?_, fun i => ?_⟩
  · have s2 : ns.Pairwise (· < ·) := (s.and nn').imp fun h => by
      have := h.1
      have := h.2
      omega
    rw [e, List.pairwise_map] at s2
    exact s2.imp fun h => by omega
  · rw [← mem_nI (N := N), ← p.mem_iff, List.mem_map]
    constructor
    · rintro ⟨x, hx, rfl⟩
      obtain ⟨j, _, ej⟩ := List.mem_map.mp (p.mem_iff.mp hx)
      have : ((x.toNat : Nat) : Int) = x := by omega
      rw [this]
      exact hx
    · intro h
      exact ⟨(i : Int), h, rfl⟩
def rowV (rw : List (Option Int)) (x : V) : V := match x with
  | .int i => .int (rowN rw i.toNat)
  | y => y
theorem map_rowV (rw : List (Option Int)) (L : List Nat) : (((L.map fun (i : Nat) => (i : Int)).map V.int).filter fun _ => true).map (rowV rw) = (L.map (rowN rw)).map V.int := by
  rw [List.filter_eq_self.mpr fun _ _ => rfl, List.map_map, List.map_map, List.map_map]
  rfl
def spRowsTo (C : Addr) : Sp := fun vs H Q _ => ∃ (A : FA) (D : Addr → Prop) (qs aq : List Addr) (kvs : List (Key × V)) (cs : List (List Int)) (o : List Int) (g : Int → List Nat) (tr : List Int) (rw : List (Option Int)) (pu : List Int) (ah : List (Int × Int)) (br : Option Int) (p : Addr) (ms : List Int) (W : Nat),
  vs = [.ref A.f, .ref p] ∧ FolR H C A D qs aq kvs cs o g tr rw pu ah br ∧ H p = some (.lst (ms.map V.int)) ∧ Okay cs pu tr rw ∧ (∀ m ∈ ms, m ∈ pu ∨ m ∈ tr) ∧ (∀ c ∈ cs, c.length ≤ W) ∧ ms.length + (tr.length + 1) * W ≤ 1000000 ∧ tr.length ≤ 1000000 ∧
  ∀ (H' : Hp) (q : Addr) (L : List Nat), Same H H' → H q = none → L.Pairwise (· < ·) → (∀ i, i ∈ L ↔ Nd cs pu tr rw ms i) → H' q = some (.lst ((L.map (rowN rw)).map V.int)) → Q (.ref q) H'
/-- what the walk holds -/
structure Rt (cs : List (List Int)) (pu tr : List Int) (rw : List (Option Int)) (ms : List Int) (N : List Nat) (ws : List Int) : Prop where
  nd : N.Nodup
  isN : ∀ i ∈ N, Nd cs pu tr rw ms i
  wt : ∀ m ∈ ws, m ∈ pu ∨ ∃ i, tr[i]? = some m ∧ (m ∉ pu → Nd cs pu tr rw ms i)
  st : ∀ m ∈ ms, m ∈ pu ∨ (∃ i ∈ N, tr[i]? = some m) ∨ m ∈ ws
  cl : ∀ i ∈ N, ∀ (m : Int) (k : Nat) (c : List Int), tr[i]? = some m → rw[i]? = some (some (k : Int)) → cs[k]? = some c → ∀ x ∈ c, x ≠ m → -x ∈ pu ∨ (∃ j ∈ N, tr[j]? = some (-x)) ∨ -x ∈ ws
theorem Rt.start {cs : List (List Int)} {pu tr ms : List Int} {rw : List (Option Int)} (h : ∀ m ∈ ms, m ∈ pu ∨ m ∈ tr) : Rt cs pu tr rw ms [] ms := by
  refine ⟨List.nodup_nil, (fun i hi => by cases hi), fun m hm => ?_, fun m hm => .inr (.inr hm), fun i hi => by cases hi⟩
  rcases h m hm with z | z
  · exact .inl z
  · obtain ⟨i, e⟩ := List.mem_iff_getElem?.mp z
    exact .inr ⟨i, e, fun n => .st hm n e⟩
/-- a mark that is done with -/
theorem Rt.drop {cs : List (List Int)} {pu tr ms ws : List Int} {rw : List (Option Int)} {N : List Nat} {m : Int} (h : Rt cs pu tr rw ms N (ws ++ [m])) (d : m ∈ pu ∨ ∃ i ∈ N, tr[i]? = some m) : Rt cs pu tr rw ms N ws := by
  have out : ∀ y, (y ∈ pu ∨ (∃ i ∈ N, tr[i]? = some y) ∨ y ∈ ws ++ [m]) → y ∈ pu ∨ (∃ i ∈ N, tr[i]? = some y) ∨ y ∈ ws := fun y z => by
    rcases z with z | z | z
    · exact .inl z
    · exact .inr (.inl z)
    · rcases List.mem_append.mp z with z | z
      · exact .inr (.inr z)
      · rw [List.mem_singleton.mp z]
        exact d.imp id .inl
  exact ⟨h.nd, h.isN, fun y hy => h.wt y (List.mem_append_left _ hy), fun y hy => out y (h.st y hy), fun i hi m' k c a b d x hx ne => out (-x) (h.cl i hi m' k c a b d x hx ne)⟩
/-- a mark whose row is needed -/
theorem Rt.more {cs : List (List Int)} {pu tr ms ws : List Int} {rw : List (Option Int)} {N : List Nat} {m : Int} {i k : Nat} {c : List Int} (ok : Okay cs pu tr rw) (h : Rt cs pu tr rw ms N (ws ++ [m])) (hm : tr[i]? = some m) (ni : Nd cs pu tr rw ms i) (nN : i ∉ N) (hk : rw[i]? = some (some (k : Int))) (hc : cs[k]? = some c)
    (ho : ∀ x ∈ c, x ≠ m → -x ∈ tr.take i) : Rt cs pu tr rw ms (N ++ [i]) (ws ++ (c.filter fun y => !decide (y = m)).map fun y => -y) := by
  have out : ∀ y, (y ∈ pu ∨ (∃ i ∈ N, tr[i]? = some y) ∨ y ∈ ws ++ [m]) → y ∈ pu ∨ (∃ j ∈ N ++ [i], tr[j]? = some y) ∨ y ∈ ws ++ (c.filter fun y => !decide (y = m)).map fun y => -y := fun y z => by
    rcases z with z | ⟨j, hj, e⟩ | z
    · exact .inl z
    · exact .inr (.inl ⟨j, List.mem_append_left _ hj, e⟩)
    · rcases List.mem_append.mp z with z | z
      · exact .inr (.inr (List.mem_append_left _ z))
      · rw [List.mem_singleton.mp z]
        exact .inr (.inl ⟨i, List.mem_append_right _ List.mem_cons_self, hm⟩)
  refine ⟨?_, fun j hj => ?_, fun y hy => ?_, fun y hy => out y (h.st y hy), fun j hj m' k' c' e1 e2 e3 x hx ne => ?_⟩
  · rw [List.nodup_append]
    exact ⟨h.nd, by simp, fun a ha b hb e => nN (by rw [← List.mem_singleton.mp hb, ← e]; exact ha)⟩
  · rcases List.mem_append.mp hj with z | z
    · exact h.isN j z
    · rw [List.mem_singleton.mp z]
      exact ni
  · rcases List.mem_append.mp hy with z | z
    · exact h.wt y (List.mem_append_left _ z)
    · obtain ⟨x, hx, rfl⟩ := List.mem_map.mp z
      rw [List.mem_filter] at hx
      have ne : x ≠ m := by simpa using hx.2
      obtain ⟨j, _, e⟩ := mem_take (ho x hx.1 ne)
      exact .inr ⟨j, e, fun n => .cl ni hm hk hc hx.1 ne n e⟩
  · rcases List.mem_append.mp hj with z | z
    · exact out (-x) (h.cl j z m' k' c' e1 e2 e3 x hx ne)
    · rw [List.mem_singleton] at z
      subst z
      rw [hm] at e1
      cases e1
      rw [hk] at e2
      have ek : k = k' := by
        injection e2 with e2
        injection e2 with e2
        omega
      subst ek
      rw [hc] at e3
      cases e3
      exact .inr (.inr (List.mem_append_right _ (List.mem_map.mpr ⟨x, List.mem_filter.mpr ⟨hx, by simpa using ne⟩, rfl⟩)))
/-- all of it -/
theorem Rt.all {cs : List (List Int)} {pu tr ms : List Int} {rw : List (Option Int)} {N : List Nat} (ok : Okay cs pu tr rw) (h : Rt cs pu tr rw ms N []) : ∀ i, i ∈ N ↔ Nd cs pu tr rw ms i := by
  refine fun i => ⟨h.isN i, fun n => ?_⟩
  induction n with
  | @st i m h1 h2 h3 =>
    rcases h.st m h1 with z | ⟨j, hj, e⟩ | z
    · exact absurd z h2
    · rw [idx_one ok.nd h3 e]
      exact hj
    · cases z
  | @cl i j k c x m h1 h2 h3 h4 h5 h6 h7 h8 ih =>
    rcases h.cl i ih m k c h2 h3 h4 x h5 h6 with z | ⟨j', hj, e⟩ | z
    · exact absurd z h7
    · rw [idx_one ok.nd h8 e]
      exact hj
    · cases z
section
variable {P : Program} {w : World} {K : PySem.W.Frag} {mg : Str → Option Value} {base : Heap}
theorem hm_rowsto {cs : Nat → Addr} (T : Top K mg cs) (h_Follower__row_of : HasM P w K mg base (cs 0) 1 "_row_of" ["self", "mark"] (spRowOf (cs 0))) : HasM P w K mg base (cs 0) 2 "_rows_to" ["self", "marks"] (spRowsTo (cs 0)) := by
  refine has_ofM T.m_Follower__rows_to sc_Follower__rows_to bd_Follower__rows_to (fun vs H Q E h => ?_) (fun f cdv Ar outer s H vs Q E hr h => ?_)
  · obtain ⟨A, D, qs, aq, kvs, ks, o, g, tr, rw, pu, ah, br, p, ms, W, rfl, _⟩ := h
    rfl
  · have hu := hu_of hr
    have nd := sc_Follower__rows_to.nd
    obtain ⟨A, D, qs, aq, kvs, ks, o, g, tr, rw, pu, ah, br, p, ms, W, rfl, F, hp, ok, hms, hW, small, lt, k⟩ := h
    refine ⟨_, (pss_cons (ps_set (i := 2) nd rfl (.inl rfl) pe_dnewK)
    (pss_cons (ps_set (i := 3) nd rfl (.inl rfl) (pe_callTy call_list_of (by rfl) T.b_list (by decide +kernel) (pa_cons (pv 1) pa_nil)))
    (pss_cons (ps_while PassesOwn.never (pt_truth (pv 3) (by intro _; rfl)) (pss_cons (ps_set (i := 4) nd rfl (.inr rfl) (pe_bm0 PySem.F.plainAttrs_list PySem.F.slot_list_pop PySem.F.type_list_pop mt_pop (pv 3)))
    (pss_one (ps_if (PW.pt (pw_and (pt_cmp (pc_dnotin hu (pv 4) (pe_fld (pv 0) rfl))) (pw_and1 (pt_cmp (pc_dnotin hu (pe_dget hu (pe_fld (pv 0) rfl) (pv 4) (fun _ _ => rfl)) (pv 2)))))) (pss_cons (ps_dput hu (pv 2) (pe_dget hu (pe_fld (pv 0) rfl) (pv 4) (fun _ _ => rfl)) pe_bl rfl)
    (pss_cons (ps_set (i := 5) nd rfl (.inl rfl) (pe_hasM T.cl_Follower h_Follower__row_of (hr.mono (by omega)) (pv 0) (pa_cons (pv 4) pa_nil)))
    (pss_one (ps_expr (pe_bm PySem.F.plainAttrs_list PySem.F.slot_list_extend PySem.F.type_list_extend mt_extend (pv 3) (pa_cons (pe_lc (own := [("off", 7)]) (by rfl) nd (pi_tup (pe_ix ix_list (pe_fld (pv 0) rfl) (pv 5) (fun _ _ => rfl))) (blkOk_by (own := [("off", 7)]) (N := nm_Follower__rows_to) (sc := defScope s_Follower__rows_to) (by decide +kernel)) (fun _ _ _ _ _ => pg_name (i := 7) nd rfl (.inl rfl)) (fun _ _ _ _ _ => pts_one (pt_cmpR op_ne (pv 7) (pv 4) (nomark _))) (fun _ _ _ _ _ => (pe_un un_neg (pv 7)))) pa_nil)))))) pss_nil))))
    (pss_one (ps_ret (pe_lc (own := [("place", 6)]) (by rfl) nd (pi_list (pe_callB (cr_sortedK rfl) (by rfl) T.b_sorted (by decide +kernel) (pa_cons (pv 2) pa_nil))) (blkOk_by (own := [("place", 6)]) (N := nm_Follower__rows_to) (sc := defScope s_Follower__rows_to) (by decide +kernel)) (fun _ _ _ _ _ => pg_name (i := 6) nd rfl (.inl rfl)) (fun _ _ _ _ _ => pts_nil) (fun _ _ _ _ _ => (pe_ix (ix_listK (K := K) rfl) (pe_fldK (K := K) rfl (pv 0) rfl) (pv 6) (fun _ _ => rfl))))))))), ?_⟩
    have line : 1100000 < sizeLine := by decide
    intro d hd
    have s1 : Same H (upd H d (.dK [])) := same_new hd
    refine ⟨_, rfl, p, _, rfl, .inl (SqL.of (s1 _ _ hp)), fun wq hwq => ?_⟩
    have s2 : Same H (upd (upd H d (.dK [])) wq (.lst (ms.map V.int))) := s1.trans (same_new hwq)
    have ndw : d ≠ wq := fun e => by
      rw [← e, upd_same] at hwq
      cases hwq
    have nwq : H wq = none := by
      rw [← hwq, upd_ne ndw.symm]
    have d2 : (upd (upd H d (.dK [])) wq (.lst (ms.map V.int))) d = some (.dK (tru (nI []))) := by
      rw [upd_ne ndw, upd_same]
      rfl
    have hlW : ∀ n : Nat, n ≤ tr.length → ms.length + n * W + W ≤ 1000000 := fun n hn => by
      have : n * W ≤ tr.length * W := Nat.mul_le_mul_right W hn
      rw [Nat.succ_mul] at small
      omega
    refine ⟨fun n σ H' => ∃ (v4 v5 v6 v7 : Option V) (ws : List Int) (N : List Nat), σ = [some (.ref A.f), some (.ref p), some (.ref d), some (.ref wq), v4, v5, v6, v7] ∧ Same H H' ∧ H' d = some (.dK (tru (nI N))) ∧ H' wq = some (.lst (ws.map V.int)) ∧ Rt ks pu tr rw ms N ws ∧
      ws.length ≤ ms.length + N.length * W ∧ n = ws.length + (tr.length - N.length) * (W + 1), ⟨_, none, none, none, none, ms, [], rfl, s2, d2, upd_same, .start hms, by omega, rfl⟩, ?_⟩
    rintro n σ H1 ⟨v4, v5, v6, v7, ws, N, rfl, sm, hd1, hw1, rt, lw, rfl⟩
    have F1 := F.same sm
    have lN : N.length ≤ tr.length := by
      have := nodup_le rt.nd (ys := List.range tr.length) fun i hi => by
        obtain ⟨m, _, _, a1, _⟩ := (rt.isN i hi).row ok
        exact List.mem_range.mpr (List.getElem?_eq_some_iff.mp a1).1
      rw [List.length_range] at this
      exact this
    refine ⟨_, rfl, _, .inl ⟨_, SqL.of hw1, rfl⟩, ?_⟩
    rw [List.isEmpty_map]
    rcases List.eq_nil_or_concat ws with rfl | ⟨ws0, m, rfl⟩
    · -- the rows, in their order
      refine iteF ⟨_, rfl, d, tru (nI N), nI N, rfl, hd1, nI_keys _, fun ns' q perm pw nq => ?_⟩
      obtain ⟨L, rfl, asc, mL⟩ := asc_of rt.nd perm pw
      have all := fun i => (mL i).trans (rt.all ok i)
      have sq : Same H (upd H1 q (.lst ((L.map fun (i : Nat) => (i : Int)).map V.int))) := sm.trans (same_new nq)
      have hq : (upd H1 q (.lst ((L.map fun (i : Nat) => (i : Int)).map V.int))) q = some (.lst ((L.map fun (i : Nat) => (i : Int)).map V.int)) := upd_same
      generalize upd H1 q (.lst ((L.map fun (i : Nat) => (i : Int)).map V.int)) = H2 at sq hq
      have lL : L.length ≤ tr.length := nd_len ok asc fun i hi => (all i).mp hi
      have F2 := F.same sq
      refine ⟨q, rfl, ⟨_, SqL.of hq⟩, fun Z nZ => lc_sel_list (fun _ => true) (rowV rw) (SqL.of hq) nZ (by rw [List.length_map, List.length_map]; omega) (fun x hx => ?_) fun H3 s3 h3 => ?_⟩
      · obtain ⟨y, hy, rfl⟩ := List.mem_map.mp hx
        obtain ⟨i, hi, rfl⟩ := List.mem_map.mp hy
        refine ⟨rfl, fun H' s' R g => g H' (Same.refl _), fun _ H' s' R g => ?_⟩
        obtain ⟨m, k', c, a1, _, a3, _⟩ := ((all i).mp hi).row ok
        have er : (rw.map optI)[i]? = some (.int (k' : Int)) := by
          rw [List.getElem?_map, a3]
          rfl
        have g' : ∀ H'', Same H' H'' → R (V.int (rowN rw i)) H'' := g
        rw [rowN_of a3] at g'
        have F3 := F2.same s'
        exact ⟨_, rfl, A.f, cs 0, A.dx, _, _, rfl, F3.ins, T.cl_Follower, T.n_Follower__rows, rfl, _, rfl, A.rw, _, _, _, rfl, rfl, SqL.of F3.rwl, atI_nat er, g' H' (Same.refl _)⟩
      · rw [map_rowV] at h3
        exact k H3 Z L (sq.trans s3) (sq.free nZ) asc all h3
    · rw [List.concat_eq_append] at hw1 rt lw ⊢
      have ne : (ws0 ++ [m]).isEmpty = false := by
        cases ws0 <;> rfl
      rw [ne]
      have lastM : ((ws0 ++ [m]).map V.int)[((ws0 ++ [m]).map V.int).length - 1]? = some (.int m) := by
        rw [List.length_map, List.length_append, List.length_singleton, Nat.add_sub_cancel, List.getElem?_map, List.getElem?_append_right (Nat.le_refl _), Nat.sub_self]
        rfl
      have dropM : ((ws0 ++ [m]).map V.int).dropLast = ws0.map V.int := by
        rw [List.map_append]
        exact List.dropLast_concat
      refine iteT ⟨_, fun σ' H' h => h, ?_⟩
      refine ⟨_, rfl, .inl ⟨rfl, _, SqL.of hw1⟩, wq, _, _, rfl, rfl, hw1, lastM, ?_⟩
      rw [dropM]
      have sm2 : Same H (upd H1 wq (.lst (ws0.map V.int))) := same_mut sm nwq
      have hd2 : (upd H1 wq (.lst (ws0.map V.int))) d = some (.dK (tru (nI N))) := by
        rw [upd_ne ndw]
        exact hd1
      have hw2 : (upd H1 wq (.lst (ws0.map V.int))) wq = some (.lst (ws0.map V.int)) := upd_same
      generalize upd H1 wq (.lst (ws0.map V.int)) = H2 at sm2 hd2 hw2
      have F2 := F.same sm2
      rw [List.length_append, List.length_singleton] at lw ⊢
      refine ⟨_, rfl, _, rfl, A.f, cs 0, A.dx, _, _, rfl, F2.ins, T.cl_Follower, T.n_Follower__is_put, rfl, A.ip, _, rfl, DGet.k (k := Sum.inl m) F2.ipd, _, rfl, ?_⟩
      rw [tru_some]
      have hwm := rt.wt m (List.mem_append_right _ List.mem_cons_self)
      by_cases hmp : m ∈ pu
      · rw [decide_eq_true hmp]
        exact iteF (iteF ⟨_, by omega, _, _, _, _, ws0, N, rfl, sm2, hd2, hw2, rt.drop (.inl hmp), by omega, rfl⟩)
      rw [decide_eq_false hmp]
      obtain ⟨i, ei, ni⟩ : ∃ i, tr[i]? = some m ∧ Nd ks pu tr rw ms i := by
        rcases hwm with z | ⟨i, e, z⟩
        · exact absurd z hmp
        · exact ⟨i, e, z hmp⟩
      obtain ⟨m', k', c, a1, _, a3, a4, a5, a6⟩ := ni.row ok
      rw [ei] at a1
      cases a1
      have gp : DGet H2 A.pl (.int m) (some (.int (i : Nat))) := by
        have g := DGet.k (k := (Sum.inl m : Key)) F2.pld
        rw [plD_some ok.nd ei] at g
        exact g
      refine iteT ⟨_, rfl, A.f, cs 0, A.dx, _, _, rfl, F2.ins, T.cl_Follower, T.n_Follower__place, rfl, _, rfl, A.pl, _, rfl, gp, _, rfl, d, _, rfl, DGet.k (k := Sum.inl (i : Int)) hd2, _, rfl, ?_⟩
      rw [tru_some]
      by_cases hN : i ∈ N
      · rw [decide_eq_true (mem_nI.mpr hN)]
        exact iteF ⟨_, by omega, _, _, _, _, ws0, N, rfl, sm2, hd2, hw2, rt.drop (.inr ⟨i, hN, ei⟩), by omega, rfl⟩
      have hN' : (i : Int) ∉ nI N := fun z => hN (mem_nI.mp z)
      rw [decide_eq_false hN']
      have lN' : N.length + 1 ≤ tr.length := by
        have := nodup_le (xs := N ++ [i]) (ys := List.range tr.length) (by rw [List.nodup_append]; exact ⟨rt.nd, by simp, fun a ha b hb e => hN (by rw [← List.mem_singleton.mp hb, ← e]; exact ha)⟩) fun j hj => by
          rcases List.mem_append.mp hj with z | z
          · obtain ⟨m, _, _, a1, _⟩ := (rt.isN j z).row ok
            exact List.mem_range.mpr (List.getElem?_eq_some_iff.mp a1).1
          · rw [List.mem_singleton.mp z]
            exact List.mem_range.mpr (List.getElem?_eq_some_iff.mp ei).1
        rw [List.length_append, List.length_range] at this
        exact this
      refine iteT ⟨_, rfl, _, rfl, A.f, cs 0, A.dx, _, _, rfl, F2.ins, T.cl_Follower, T.n_Follower__place, rfl, _, rfl, A.pl, _, rfl, gp, d, _, rfl, DPut.k (k := Sum.inl (i : Int)) hd2 (by unfold tru nI; rw [List.length_map, List.length_map]; omega), ?_⟩
      rw [tru_put, show ins (nI N) (i : Int) = nI (N ++ [i]) from by unfold nI; rw [List.map_append]; exact if_neg hN']
      have sm3 : Same H (upd H2 d (.dK (tru (nI (N ++ [i]))))) := same_mut sm2 hd
      have hd3 : (upd H2 d (.dK (tru (nI (N ++ [i]))))) d = some (.dK (tru (nI (N ++ [i])))) := upd_same
      have hw3 : (upd H2 d (.dK (tru (nI (N ++ [i]))))) wq = some (.lst (ws0.map V.int)) := by
        rw [upd_ne ndw.symm]
        exact hw2
      generalize upd H2 d (.dK (tru (nI (N ++ [i])))) = H3 at sm3 hd3 hw3
      have F3 := F.same sm3
      have lqk : k' < qs.length := by
        have := F.re.cn
        have := (List.getElem?_eq_some_iff.mp a4).1
        omega
      have hqk : qs[k']? = some qs[k'] := List.getElem?_eq_getElem lqk
      have hct := F3.re.ct k' _ _ hqk a4
      have eq : (qs.map V.ref)[k']? = some (.ref qs[k']) := by
        rw [List.getElem?_map, hqk]
        rfl
      generalize qs[k'] = q at hqk hct eq
      have lc := hW c (List.mem_of_getElem? a4)
      have b1 := hlW N.length lN
      have b2 := hlW (N.length + 1) lN'
      rw [Nat.succ_mul] at b2
      refine ⟨_, rfl, A.f, A.dx, _, rfl, F3.ins, rfl, _, rfl, A, br, tr, rw, m, i, some (k' : Int), rfl, F3.ins, F3.pld, F3.rwl, ok.nd, ei, a3, ?_⟩
      refine ⟨_, rfl, .inl ⟨rfl, _, SqL.of hw3⟩, _, rfl, A.f, cs 0, A.dx, _, _, rfl, F3.ins, T.cl_Follower, T.n_Follower__clauses, rfl, _, rfl, A.cl, _, _, _, rfl, rfl, SqL.of F3.cl, atI_nat eq, q, rfl, ⟨_, SqT.of hct⟩, fun Z nZ => lc_sel_tup (notI m) negF (SqT.of hct) nZ (by rw [List.length_map]; omega) (fun x hx => ?_) fun H4 s4 h4 => ?_⟩
      · obtain ⟨y, _, rfl⟩ := List.mem_map.mp hx
        refine ⟨rfl, fun H' s' R g => ⟨_, rfl, _, rfl, rfl, _, rfl, ?_⟩, fun _ H' s' R g => ⟨_, rfl, y, rfl, g H' (Same.refl _)⟩⟩
        have g' : ∀ H'', Same H' H'' → R (!decide (y = m)) H'' := g
        have e : decide (V.int y = V.int m) = decide (y = m) := by simp
        rw [e]
        exact g' H' (Same.refl _)
      · rw [map_negF] at h4
        have hw4 := s4 _ _ hw3
        have hd4 := s4 _ _ hd3
        have lf : ((c.filter fun y => !decide (y = m)).map fun y => -y).length ≤ W := by
          rw [List.length_map]
          exact Nat.le_trans (List.length_filter_le _ _) lc
        refine ⟨wq, Z, _, _, rfl, rfl, hw4, h4, by rw [List.length_map, List.length_map]; omega, ?_⟩
        rw [← List.map_append]
        have e1 : (N ++ [i]).length = N.length + 1 := by rw [List.length_append]; rfl
        have e2 : tr.length - N.length = (tr.length - (N.length + 1)) + 1 := by omega
        refine ⟨(ws0 ++ (c.filter fun y => !decide (y = m)).map fun y => -y).length + (tr.length - (N ++ [i]).length) * (W + 1), ?_, _, _, _, _, ws0 ++ (c.filter fun y => !decide (y = m)).map fun y => -y, N ++ [i], rfl, same_mut (sm3.trans s4) nwq, ?_, upd_same, rt.more ok ei ni hN a3 a4 a6, ?_, rfl⟩
        · rw [List.length_append, e1, e2, Nat.succ_mul]
          omega
        · rw [upd_ne ndw]
          exact hd4
        · rw [List.length_append, e1, Nat.succ_mul]
          omega
end
def spShownM (C : Addr) : Sp := fun vs H Q _ => ∃ (A : FA) (D : Addr → Prop) (cs : List (List Int)) (pu tr : List Int) (rw : List (Option Int)) (ah : List (Int × Int)) (br m : Option Int) (W : Nat), vs = [.ref A.f, optI m] ∧ Fol H C A D cs pu tr rw ah br ∧
  (∀ x, m = some x → br = none ∧ x ∈ tr) ∧ (m = none → br ≠ none) ∧ (∀ c ∈ cs, c.length ≤ W) ∧ (tr.length + 2) * W + 1 ≤ 1000000 ∧ tr.length ≤ 999999 ∧
  ∀ (H' : Hp) (q : Addr) (rs : List Int), Same H H' → H q = none → H' q = some (.lst (rs.map V.int)) → ShownIs cs pu tr rw br m rs → Q (.ref q) H'
theorem Fol.shows {H : Hp} {C : Addr} {A : FA} {D : Addr → Prop} {cs : List (List Int)} {pu tr rs : List Int} {rw : List (Option Int)} {ah : List (Int × Int)} {br m : Option Int} (h : Fol H C A D cs pu tr rw ah br) (s : ShownIs cs pu tr rw br m rs) (on : ∀ x, m = some x → x ∈ tr) :
    shownP cs pu rs m = true ∧ rs.Nodup ∧ rs.length ≤ tr.length + 1 := by
  obtain ⟨qs, aq, kvs, X⟩ := h
  exact s.ok X.ok X.gd.nd (fun e => (X.cl e).2) X.bk on
section
variable {P : Program} {w : World} {K : PySem.W.Frag} {mg : Str → Option Value} {base : Heap}
theorem hm_shown {cs : Nat → Addr} (T : Top K mg cs) (h_Follower__refuse_broken : HasM P w K mg base (cs 0) 1 "_refuse_broken" ["self"] (spRefuse (cs 0))) (h_Follower__rows_to : HasM P w K mg base (cs 0) 2 "_rows_to" ["self", "marks"] (spRowsTo (cs 0))) : HasM P w K mg base (cs 0) 3 "shown" ["self", "mark"] (spShownM (cs 0)) := by
  refine has_ofM T.m_Follower_shown sc_Follower_shown bd_Follower_shown (fun vs H Q E h => ?_) (fun f cdv Ar outer s H vs Q E hr h => ?_)
  · obtain ⟨A, D, ks, pu, tr, rw, ah, br, m, W, rfl, _⟩ := h
    rfl
  · have hu := hu_of hr
    have nd := sc_Follower_shown.nd
    obtain ⟨A, D, ks, pu, tr, rw, ah, br, m, W, rfl, ⟨qs, aq, kvs, X⟩, on, nb, hW, small, lt, k⟩ := h
    have F := X.r
    refine ⟨_, (pss_cons (ps_if (pt_cmpR op_isN (pv 1) pe_non (nomark _)) (pss_cons (ps_if (pt_cmpR op_isN (pe_fld (pv 0) rfl) pe_non (nomark _)) (pss_one ps_never) pss_nil)
    (pss_cons (ps_set (i := 2) nd rfl (.inl rfl) (pe_ix ix_list (pe_fld (pv 0) rfl) (pe_fld (pv 0) rfl) (fun _ _ => rfl)))
    (pss_one (ps_ret (pe_op op_cat (pe_hasM T.cl_Follower h_Follower__rows_to (hr.mono (by omega)) (pv 0) (pa_cons (pe_lc (own := [("off", 3)]) (by rfl) nd (pi_tup (pv 2)) (blkOk_by (own := [("off", 3)]) (N := nm_Follower_shown) (sc := defScope s_Follower_shown) (by decide +kernel)) (fun _ _ _ _ _ => pg_name (i := 3) nd rfl (.inl rfl)) (fun _ _ _ _ _ => pts_nil) (fun _ _ _ _ _ => (pe_un un_neg (pv 3)))) pa_nil)) (pe_lst (pa_cons (pe_fld (pv 0) rfl) pa_nil))))))) pss_nil)
    (pss_cons (ps_expr (pe_hasM0 T.cl_Follower h_Follower__refuse_broken (hr.mono (by omega)) (pv 0)))
    (pss_cons (ps_if (pt_cmp (pc_dnotin hu (pv 1) (pe_fld (pv 0) rfl))) (pss_one ps_never) pss_nil)
    (pss_one (ps_ret (pe_hasM T.cl_Follower h_Follower__rows_to (hr.mono (by omega)) (pv 0) (pa_cons (pe_lst (pa_cons (pv 1) pa_nil)) pa_nil))))))), ?_⟩
    have line : 1100000 < sizeLine := by decide
    have sW : ∀ n : Nat, n ≤ W + 1 → n + (tr.length + 1) * W ≤ 1000000 := fun n hn => by
      rw [Nat.succ_mul] at small
      rw [Nat.succ_mul] at small ⊢
      omega
    cases m with
    | some x =>
      obtain ⟨rfl, hx⟩ := on x rfl
      refine ⟨_, rfl, rfl, _, rfl, iteF ?_⟩
      refine ⟨_, rfl, A.f, A.dx, _, rfl, F.ins, rfl, A, rfl, F.ins, ?_⟩
      refine ⟨_, rfl, _, rfl, A.f, cs 0, A.dx, _, _, rfl, F.ins, T.cl_Follower, T.n_Follower__place, rfl, A.pl, _, rfl, DGet.k (k := Sum.inl x) F.pld, _, rfl, ?_⟩
      rw [plD_is X.ok.nd, decide_eq_true hx]
      refine iteF ⟨_, rfl, A.f, A.dx, _, rfl, F.ins, rfl, _, rfl, by show 1 ≤ sizeLine; decide, fun e1 n1 => ?_⟩
      have s1 := same_new (o := .lst [.int x]) n1
      refine ⟨A, D, qs, aq, kvs, ks, _, _, tr, rw, pu, ah, none, e1, [x], W, rfl, F.same s1, upd_same, X.ok, fun y hy => .inr (by rw [List.mem_singleton.mp hy]; exact hx), hW, sW 1 (by omega), by omega, fun H2 q L s2 nq asc all hq => ?_⟩
      exact k H2 q _ (s1.trans s2) (s1.free nq) hq ⟨rfl, L, asc, all, rfl⟩
    | none =>
      cases br with
      | none => exact absurd rfl (nb rfl)
      | some r =>
        obtain ⟨k', c, er, hc, alt⟩ := X.bk r rfl
        subst er
        have old : ∀ y ∈ c.map (fun x => -x), y ∈ pu ∨ y ∈ tr := fun y hy => by
          obtain ⟨k2, c2, e2, hc2, ho⟩ := (X.bk _ rfl).old
          have : k' = k2 := by omega
          subst this
          rw [hc] at hc2
          cases hc2
          obtain ⟨x, hx, rfl⟩ := List.mem_map.mp hy
          exact (ho x hx).symm
        have lqk : k' < qs.length := by
          have := F.re.cn
          have := (List.getElem?_eq_some_iff.mp hc).1
          omega
        have hqk : qs[k']? = some qs[k'] := List.getElem?_eq_getElem lqk
        have hct := F.re.ct k' _ _ hqk hc
        have eq : (qs.map V.ref)[k']? = some (.ref qs[k']) := by
          rw [List.getElem?_map, hqk]
          rfl
        generalize qs[k'] = q at hqk hct eq
        have lc := hW c (List.mem_of_getElem? hc)
        have w1 := sW W (by omega)
        refine ⟨_, rfl, rfl, _, rfl, iteT ?_⟩
        refine ⟨_, rfl, A.f, cs 0, A.dx, _, _, rfl, F.ins, T.cl_Follower, T.n_Follower__broken_row, rfl, rfl, _, rfl, iteF ?_⟩
        refine ⟨_, rfl, A.f, cs 0, A.dx, _, _, rfl, F.ins, T.cl_Follower, T.n_Follower__clauses, rfl, _, rfl, A.f, cs 0, A.dx, _, _, rfl, F.ins, T.cl_Follower, T.n_Follower__broken_row, rfl, A.cl, _, _, _, rfl, rfl, SqL.of F.cl, atI_nat eq, ?_⟩
        refine ⟨_, rfl, A.f, A.dx, _, rfl, F.ins, rfl, _, rfl, q, rfl, ⟨_, SqT.of hct⟩, fun Z nZ => lc_sel_tup (fun _ => true) negF (SqT.of hct) nZ (by rw [List.length_map]; omega) (fun x hx => ?_) fun H1 s1 h1 => ?_⟩
        · obtain ⟨y, _, rfl⟩ := List.mem_map.mp hx
          exact ⟨rfl, fun H' s' R g => g H' (Same.refl _), fun _ H' s' R g => ⟨_, rfl, y, rfl, g H' (Same.refl _)⟩⟩
        · rw [map_negF0] at h1
          refine ⟨A, D, qs, aq, kvs, ks, _, _, tr, rw, pu, ah, some (k' : Int), Z, c.map (fun x => -x), W, rfl, F.same s1, h1, X.ok, old, hW, by rw [List.length_map]; exact sW _ (by omega), by omega, fun H2 q2 L s2 nq asc all hq => ?_⟩
          have lL : L.length ≤ tr.length := nd_len X.ok asc fun i hi => (all i).mp hi
          have F2 := (F.same s1).same s2
          refine ⟨_, rfl, A.f, cs 0, A.dx, _, _, rfl, F2.ins, T.cl_Follower, T.n_Follower__broken_row, rfl, by show 1 ≤ sizeLine; decide, fun e3 n3 => ?_⟩
          refine ⟨q2, e3, _, _, rfl, rfl, same_new n3 _ _ hq, upd_same, by rw [List.length_map, List.length_map]; show L.length + 1 ≤ sizeLine; omega, fun q4 n4 => ?_⟩
          exact k _ q4 (L.map (rowN rw) ++ [(k' : Int)]) (((s1.trans s2).trans (same_new n3)).trans (same_new n4)) (((s1.trans s2).trans (same_new n3)).free n4) (by rw [upd_same, List.map_append]; rfl) ⟨k', c, L, rfl, hc, asc, all, rfl⟩
end

/-! ### marks of unlike names -/
def nas (l : List Int) : List Nat := l.map Int.natAbs
structure Un (ms : List Int) : Prop where
  nd : (nas ms).Nodup
  nz : ∀ x ∈ ms, x ≠ 0
  lim : ∀ x ∈ ms, x.natAbs ≤ 10 ^ 12
theorem Un.nodup {ms : List Int} (h : Un ms) : ms.Nodup := by
  have := h.nd
  unfold nas at this
  exact (List.pairwise_map.mp this).imp fun h e => h (by rw [e])
theorem nas_one : ∀ {l : List Int}, (nas l).Nodup → ∀ x ∈ l, ∀ y ∈ l, x.natAbs = y.natAbs → x = y
  | a :: r, h, x, hx, y, hy, e => by
    have h' := List.nodup_cons.mp (show (a.natAbs :: nas r).Nodup from h)
    rcases List.mem_cons.mp hx with rfl | hx'
    · rcases List.mem_cons.mp hy with rfl | hy'
      · rfl
      · exact absurd (show x.natAbs ∈ nas r from List.mem_map.mpr ⟨y, hy', e.symm⟩) h'.1
    · rcases List.mem_cons.mp hy with rfl | hy'
      · exact absurd (show y.natAbs ∈ nas r from List.mem_map.mpr ⟨x, hx', e⟩) h'.1
      · exact nas_one h'.2 x hx' y hy' e
theorem Un.con {ms : List Int} (h : Un ms) {x : Int} (hx : x ∈ ms) : -x ∉ ms := fun z => by
  have e := nas_one h.nd x hx (-x) z (by omega)
  have := h.nz x hx
  omega
theorem Un.of_perm {ms ys : List Int} (h : Un ms) (p : (nas ys).Perm (nas ms)) : Un ys := by
  refine ⟨(p.nodup_iff).mpr h.nd, fun x hx z => ?_, fun x hx => ?_⟩
  · subst z
    have := p.mem_iff.mp (List.mem_map.mpr ⟨0, hx, rfl⟩)
    obtain ⟨y, hy, e⟩ := List.mem_map.mp this
    have := h.nz y hy
    omega
  · obtain ⟨y, hy, e⟩ := List.mem_map.mp (p.mem_iff.mp (List.mem_map.mpr ⟨x, hx, rfl⟩))
    have := h.lim y hy
    omega
/-- a clause of marks of these names -/
structure ClM (ms c : List Int) : Prop where
  nd : (nas c).Nodup
  sub : ∀ x ∈ c, ∃ y ∈ ms, x.natAbs = y.natAbs
theorem ClM.nodup {ms c : List Int} (h : ClM ms c) : c.Nodup := by
  have := h.nd
  unfold nas at this
  exact (List.pairwise_map.mp this).imp fun h e => h (by rw [e])
theorem ClM.nz {ms c : List Int} (h : ClM ms c) (u : Un ms) {x : Int} (hx : x ∈ c) : x ≠ 0 := by
  obtain ⟨y, hy, e⟩ := h.sub x hx
  have := u.nz y hy
  omega
theorem ClM.nil (ms : List Int) : ClM ms [] := ⟨List.nodup_nil, fun x hx => by cases hx⟩
theorem ClM.of_perm {ms ys ss : List Int} (h : Un ms) (p : (nas ys ++ nas ss).Perm (nas ms)) : ClM ms ys := by
  have n := (p.nodup_iff).mpr h.nd
  refine ⟨n.sublist (List.sublist_append_left _ _), fun x hx => ?_⟩
  obtain ⟨y, hy, e⟩ := List.mem_map.mp (p.mem_iff.mp (List.mem_append_left _ (List.mem_map.mpr ⟨x, hx, rfl⟩)))
  exact ⟨y, hy, e.symm⟩
theorem ClM.of_nas {ms c d : List Int} (h : ClM ms c) (e : nas d = nas c) : ClM ms d := by
  refine ⟨by rw [e]; exact h.nd, fun x hx => ?_⟩
  have : x.natAbs ∈ nas d := List.mem_map.mpr ⟨x, hx, rfl⟩
  rw [e] at this
  obtain ⟨y, hy, ey⟩ := List.mem_map.mp this
  obtain ⟨z, hz, ez⟩ := h.sub y hy
  exact ⟨z, hz, by omega⟩
theorem nas_snoc (l : List Int) (y : Int) : nas (l ++ [y]) = nas l ++ [y.natAbs] := by
  unfold nas
  rw [List.map_append]
  rfl
theorem erase_perm : ∀ (l : List Int) (r : Nat) (h : r < l.length), (l[r] :: l.eraseIdx r).Perm l
  | a :: t, 0, _ => List.Perm.refl _
  | a :: t, r + 1, h => (List.Perm.swap a _ _).trans ((List.perm_cons a).mpr (erase_perm t r (by simpa using h)))
theorem perm_move {ys ss : List Int} {r : Nat} (hr : r < ss.length) {y : Int} (e : y.natAbs = ss[r].natAbs) : (nas (ys ++ [y]) ++ nas (ss.eraseIdx r)).Perm (nas ys ++ nas ss) := by
  rw [nas_snoc, e, List.append_assoc]
  refine List.Perm.append_left _ ?_
  have p := (erase_perm ss r hr).map Int.natAbs
  exact p
theorem dec61 : ∀ b : Fin 61, ∀ d : Fin 61, 0 < b.val → 0 < d.val → b.val * d.val % 61 ≠ 0 := by decide +kernel
theorem inj61 {B : Int} {i j : Nat} (h0 : 1 ≤ B) (h1 : B ≤ 60) (hi : i < 61) (hij : j < i) : B * (i : Int) % 61 ≠ B * (j : Int) % 61 := fun e => by
  have d := dec61 ⟨B.toNat, by omega⟩ ⟨i - j, by omega⟩ (by show 0 < B.toNat; omega) (by show 0 < i - j; omega)
  have s : B * (i : Int) = B * (j : Int) + B * ((i - j : Nat) : Int) := by
    rw [← Int.mul_add]
    congr 1
    omega
  have eB : ((B.toNat : Nat) : Int) = B := by omega
  have m : B * ((i - j : Nat) : Int) % 61 = 0 := by
    rw [s] at e
    generalize B * (j : Int) = x at e
    generalize B * ((i - j : Nat) : Int) = y at e ⊢
    omega
  apply d
  have : ((B.toNat * (i - j) % 61 : Nat) : Int) = 0 := by
    rw [Int.natCast_emod, Int.natCast_mul, eB]
    exact m
  exact Int.ofNat.inj this
theorem names_nd {z4 z2 B : Int} {n : Nat} (hz4 : 1 ≤ z4) (hz2 : 1 ≤ z2) (h0 : 1 ≤ B) (h1 : B ≤ 60) (hn : n ≤ 61) : (nas ((List.range n).map fun (i : Nat) => z4 + z2 * (B * (0 + (i : Int)) % 61))).Nodup ∧
    ∀ x ∈ (List.range n).map (fun (i : Nat) => z4 + z2 * (B * (0 + (i : Int)) % 61)), x ≠ 0 := by
  have pos : ∀ i : Nat, 0 ≤ z2 * (B * (0 + (i : Int)) % 61) := fun i => Int.mul_nonneg (by omega) (Int.emod_nonneg _ (by decide))
  refine ⟨?_, fun x hx => ?_⟩
  · unfold nas
    rw [List.map_map]
    refine List.pairwise_map.mpr ((List.pairwise_lt_range (n := n)).imp_of_mem fun {a b} ha hb hab e => ?_)
    have hb' := List.mem_range.mp hb
    have e' : z4 + z2 * (B * (0 + (a : Int)) % 61) = z4 + z2 * (B * (0 + (b : Int)) % 61) := by
      have e : (z4 + z2 * (B * (0 + (a : Int)) % 61)).natAbs = (z4 + z2 * (B * (0 + (b : Int)) % 61)).natAbs := e
      have p1 := pos a
      have p2 := pos b
      omega
    have e2 : B * (0 + (a : Int)) % 61 = B * (0 + (b : Int)) % 61 := by
      have e3 : z2 * (B * (0 + (a : Int)) % 61) = z2 * (B * (0 + (b : Int)) % 61) := by omega
      exact Int.eq_of_mul_eq_mul_left (by omega) e3
    rw [Int.zero_add, Int.zero_add] at e2
    exact inj61 h0 h1 (by omega) hab e2.symm
  · obtain ⟨i, _, rfl⟩ := List.mem_map.mp hx
    have := pos i
    omega
theorem names_lim {z4 z2 B : Int} {n : Nat} (h4 : z4 + z2 * 60 ≤ 10 ^ 12) (hz4 : 1 ≤ z4) (hz2 : 1 ≤ z2) : ∀ x ∈ (List.range n).map (fun (i : Nat) => z4 + z2 * (B * (0 + (i : Int)) % 61)), x.natAbs ≤ 10 ^ 12 := fun x hx => by
  obtain ⟨i, _, rfl⟩ := List.mem_map.mp hx
  have a : 0 ≤ z2 * (B * (0 + (i : Int)) % 61) := Int.mul_nonneg (by omega) (Int.emod_nonneg _ (by decide))
  have b : z2 * (B * (0 + (i : Int)) % 61) ≤ z2 * 60 := Int.mul_le_mul_of_nonneg_left (Int.le_of_lt_add_one (Int.emod_lt_of_pos _ (by decide))) (by omega)
  generalize z2 * (B * (0 + (i : Int)) % 61) = y at a b
  omega
theorem Tape.cs {H H' : Hp} {t c a : Addr} {n : Nat} {qs : List Addr} {cs : List (List Int)} (h : Tape H t c n) (e : Cs H a qs cs) (k : Kp t H H') : Cs H' a qs cs := by
  obtain ⟨ns, spot, left, tc, _⟩ := h
  exact e.kp tc.d k
theorem Cs.snoc {H : Hp} {a q : Addr} {qs : List Addr} {cs : List (List Int)} {c : List Int} (h : Cs H a qs cs) (hq : H q = some (.tup (c.map V.int))) : Cs (upd H a (.lst (qs.map V.ref ++ [.ref q]))) a (qs ++ [q]) (cs ++ [c]) := by
  have hn := h.n
  refine ⟨by rw [upd_same, List.map_append]; rfl, by rw [List.length_append, List.length_append, hn]; rfl, fun i p d hp hd => ?_⟩
  have g : H p = some (.tup (d.map V.int)) := by
    rcases getElem_snoc hp with ⟨_, e⟩ | ⟨e1, rfl⟩
    · rcases getElem_snoc hd with ⟨_, e2⟩ | ⟨e2, _⟩
      · exact h.t i p d e e2
      · omega
    · rcases getElem_snoc hd with ⟨e2, _⟩ | ⟨_, rfl⟩
      · omega
      · exact hq
  rw [upd_ne (ne_of g h.l (by intro z; cases z))]
  exact g
theorem ins_at {α : Type} {xs : List α} {x y : α} {j i : Nat} (hj : j ≤ xs.length) (h : (xs.take j ++ [x] ++ xs.drop j)[i]? = some y) : (i < j ∧ xs[i]? = some y) ∨ (i = j ∧ x = y) ∨ (j < i ∧ xs[i - 1]? = some y) := by
  have lt : (xs.take j).length = j := by
    rw [List.length_take]
    omega
  rcases Nat.lt_trichotomy i j with c | c | c
  · rw [List.append_assoc, List.getElem?_append_left (by omega), List.getElem?_take, if_pos c] at h
    exact .inl ⟨c, h⟩
  · subst c
    rw [List.append_assoc, List.getElem?_append_right (by omega), lt, Nat.sub_self] at h
    exact .inr (.inl ⟨rfl, Option.some.inj h⟩)
  · rw [List.getElem?_append_right (by rw [List.length_append, lt]; exact c), List.length_append, lt, List.getElem?_drop] at h
    refine .inr (.inr ⟨c, ?_⟩)
    rw [← h]
    congr 1
    show i - 1 = j + (i - (j + 1))
    omega
theorem Cs.insert {H : Hp} {a q : Addr} {qs : List Addr} {cs : List (List Int)} {c : List Int} {j : Nat} (h : Cs H a qs cs) (hj : j ≤ cs.length) (hq : H q = some (.tup (c.map V.int))) :
    Cs (upd H a (.lst ((qs.map V.ref).take j ++ [.ref q] ++ (qs.map V.ref).drop j))) a (qs.take j ++ [q] ++ qs.drop j) (cs.take j ++ [c] ++ cs.drop j) := by
  have hn := h.n
  refine ⟨by rw [upd_same, List.map_append, List.map_append, List.map_take, List.map_drop]; rfl, by simp only [List.length_append, List.length_take, List.length_drop, hn]; rfl, fun i p d hp hd => ?_⟩
  have g : H p = some (.tup (d.map V.int)) := by
    rcases ins_at (by omega) hp with ⟨c1, e⟩ | ⟨c1, rfl⟩ | ⟨c1, e⟩
    · rcases ins_at hj hd with ⟨_, e2⟩ | ⟨e2, _⟩ | ⟨e2, _⟩
      · exact h.t i p d e e2
      · omega
      · omega
    · rcases ins_at hj hd with ⟨e2, _⟩ | ⟨_, rfl⟩ | ⟨e2, _⟩
      · omega
      · exact hq
      · omega
    · rcases ins_at hj hd with ⟨e2, _⟩ | ⟨e2, _⟩ | ⟨_, e2⟩
      · omega
      · omega
      · exact h.t (i - 1) p d e e2
  rw [upd_ne (ne_of g h.l (by intro z; cases z))]
  exact g
def spFar : Sp := fun vs H Q _ => ∃ (t c : Addr) (m : Int) (n : Nat), vs = [.ref t, .int m] ∧ Tape H t c n ∧ n < 1000000 ∧ 0 ≤ m ∧ m ≤ 61 ∧
  ∀ (H' : Hp) (p : Addr) (ms : List Int), H p = none → H' p = some (.lst (ms.map V.int)) → ms.length = m.toNat → Un ms → Tape H' t c (n + 110) → Kp t H H' → Q (.ref p) H'
section
variable {P : Program} {w : World} {K : PySem.W.Frag} {mg : Str → Option Value} {base : Heap}
theorem has_far {cs : Nat → Addr} (T : Top K mg cs) (h__law_draw : Has P w K mg base 1 "_law_draw" ["_law_tape", "_law_many"] spDraw) (h__law_pick : Has P w K mg base 2 "_law_pick" ["_law_tape", "_law_some"] (spPick K)) :
    Has P w K mg base 3 "_law_far_marks" ["_law_tape", "_law_many"] spFar := by
  refine has_of T.d__law_far_marks sc__law_far_marks bd__law_far_marks (fun vs H Q E h => ?_) (fun f cdv A outer s H vs Q E hr h => ?_)
  · obtain ⟨t, c, m, n, rfl, _⟩ := h
    rfl
  · have hu := hu_of hr
    have nd := sc__law_far_marks.nd
    obtain ⟨t, c, m, n, rfl, tp, hn, hm0, hm1, k⟩ := h
    refine ⟨_, (pss_cons (ps_asg (pe_tup (pa_cons (pe_op op_add pe_int (pe_has h__law_draw (hr.mono (by omega)) (by rfl) (pa_cons (pv 0) (pa_cons pe_int pa_nil)))) (pa_cons (pe_has h__law_pick (hr.mono (by omega)) (by rfl) (pa_cons (pv 0) (pa_cons (pe_lst (pa_cons pe_int (pa_cons pe_int (pa_cons pe_int (pa_cons pe_int pa_nil))))) pa_nil))) pa_nil))) (pg_tup (by rfl) (pgs_cons (pg_name (i := 2) nd rfl (.inr rfl)) (pgs_cons (pg_name (i := 3) nd rfl (.inr rfl)) pgs_nil))))
    (pss_cons (ps_set (i := 4) nd rfl (.inr rfl) (pe_has h__law_pick (hr.mono (by omega)) (by rfl) (pa_cons (pv 0) (pa_cons (pe_lst (pa_cons pe_int (pa_cons pe_int (pa_cons pe_int (pa_cons (pe_op op_add pe_int (pe_has h__law_draw (hr.mono (by omega)) (by rfl) (pa_cons (pv 0) (pa_cons pe_int pa_nil)))) (pa_cons (pe_op op_sub (pe_op op_pow pe_int pe_int) (pe_op op_mul pe_int (pv 3))) pa_nil)))))) pa_nil))))
    (pss_cons (ps_asg (pe_tup (pa_cons (pe_lc (own := [("_law_k", 8)]) (by rfl) nd (pi_range1 (by rfl) T.b_range (pa_cons (pv 1) pa_nil)) (blkOk_by (own := [("_law_k", 8)]) (N := nm__law_far_marks) (sc := defScope s__law_far_marks) (by decide +kernel)) (fun _ _ _ _ _ => pg_name (i := 8) nd rfl (.inl rfl)) (fun _ _ _ _ _ => pts_nil) (fun _ _ _ _ _ => (pe_op op_add (pv 4) (pe_op op_mul (pv 3) (pe_op op_mod (pe_op op_mul (pv 2) (pv 8)) pe_int))))) (pa_cons (pe_has h__law_pick (hr.mono (by omega)) (by rfl) (pa_cons (pv 0) (pa_cons (pe_lst (pa_cons pe_int (pa_cons pe_int (pa_cons pe_int (pa_cons pe_int pa_nil))))) pa_nil))) pa_nil))) (pg_tup (by rfl) (pgs_cons (pg_name (i := 5) nd rfl (.inl rfl)) (pgs_cons (pg_name (i := 6) nd rfl (.inr rfl)) pgs_nil))))
    (pss_one (ps_ret (pe_lc (own := [("_law_name", 7)]) (by rfl) nd (pi_list (pv 5)) (blkOk_by (own := [("_law_name", 7)]) (N := nm__law_far_marks) (sc := defScope s__law_far_marks) (by decide +kernel)) (fun _ _ _ _ _ => pg_name (i := 7) nd rfl (.inl rfl)) (fun _ _ _ _ _ => pts_nil) (fun _ _ _ _ _ => (pe_ifExp (pt_cmpR op_lt (pe_has h__law_draw (hr.mono (by omega)) (by rfl) (pa_cons (pv 0) (pa_cons (pv 6) pa_nil))) (pe_op op_sub pe_int (pe_op op_fdivW (pv 6) pe_int)) (nomark _)) (pv 7) (pe_op op_sub pe_int (pv 7)))))))))), ?_⟩
    have cp : ∀ z : Int, 0 ≤ z → z ≤ 1000000 → CPow 10 z := fun z h0 h1 => ⟨h0, h1, by decide⟩
    refine ⟨_, rfl, t, c, _, n, rfl, tp, by omega, by decide, by decide +kernel, fun H1 r1 a1 b1 tp1 kp1 => ⟨_, _, rfl, rfl, _, rfl, by show 4 ≤ sizeLine; decide, fun d1 h1 => ?_⟩⟩
    refine ⟨t, c, d1, _, n + 1, rfl, tp1.new h1, by omega, fun H' kp => .inl (SqL.of (kp d1 _ upd_same (tp1.fresh h1))), by show 0 < 4; decide, by show 4 ≤ 1000000; decide, fun H2 i2 v2 g2 tp2 kp2 => ?_⟩
    obtain ⟨z2, rfl, m2⟩ := pick_int (zs := [1, 1, 7, 16000000]) g2
    have z2b : 1 ≤ z2 ∧ z2 ≤ 16000000 := by
      simp only [List.mem_cons, List.not_mem_nil, or_false] at m2
      omega
    refine ⟨by show 2 ≤ sizeLine; decide, fun q2 hq2 => ⟨q2, _, rfl, SqT.of upd_same, rfl, _, _, rfl, _, _, rfl, rfl, ?_⟩⟩
    have t2 := tp2.new (o := .tup [V.int (1 + r1), V.int z2]) hq2
    -- first
    refine ⟨_, rfl, _, rfl, t, c, _, n + 2, rfl, t2, by omega, by decide, by decide +kernel, fun H3 r3 a3 b3 tp3 kp3 => ⟨_, _, rfl, rfl, _, _, rfl, rfl, cp _ (by decide) (by decide), _, rfl, _, _, rfl, rfl, .inl ⟨by decide, by decide⟩, _, _, rfl, rfl, by show 5 ≤ sizeLine; decide, fun d3 h3 => ?_⟩⟩
    refine ⟨t, c, d3, _, n + 3, rfl, tp3.new h3, by omega, fun H' kp => .inl (SqL.of (kp d3 _ upd_same (tp3.fresh h3))), by show 0 < 5; decide, by show 5 ≤ 1000000; decide, fun H4 i4 v4 g4 tp4 kp4 => ?_⟩
    obtain ⟨z4, rfl, m4⟩ := pick_int (zs := [1, 5, 95, 1 + r3, 10 ^ (12 : Int).toNat - 60 * z2]) g4
    -- names
    refine ⟨_, rfl, m, rfl, by omega, by omega, fun D hD => lc_sel_range (lo := 0) (fun _ => true) (fun i => .int (z4 + z2 * ((1 + r1) * (0 + (i : Int)) % 61))) hD (by omega) (fun i hi => ?_) fun H5 s5 h5 => ?_⟩
    · exact ⟨rfl, fun H' s' R g => g H' (Same.refl _), fun _ H' s' R g => ⟨_, rfl, _, rfl, _, rfl, _, rfl, _, _, rfl, rfl, .inl ⟨by omega, by omega⟩, _, _, rfl, rfl, by show (0 : Int) < 61; decide, _, _, rfl, rfl, .inl ⟨by omega, by omega⟩, _, _, rfl, rfl, g H' (Same.refl _)⟩⟩
    rw [filter_all] at h5
    have h5 : H5 D = some (.lst (((List.range m.toNat).map fun (i : Nat) => z4 + z2 * ((1 + r1) * (0 + (i : Int)) % 61)).map V.int)) := by
      rw [h5, List.map_map]
      rfl
    have l5 : ((List.range m.toNat).map fun (i : Nat) => z4 + z2 * ((1 + r1) * (0 + (i : Int)) % 61)).length = m.toNat := by rw [List.length_map, List.length_range]
    have z4b : 1 ≤ z4 := by
      simp only [List.mem_cons, List.not_mem_nil, or_false] at m4
      have p12 : (10 : Int) ^ (12 : Int).toNat = 1000000000000 := by decide
      omega
    have z4c : z4 + z2 * 60 ≤ 10 ^ 12 := by
      simp only [List.mem_cons, List.not_mem_nil, or_false] at m4
      have p12 : (10 : Int) ^ (12 : Int).toNat = 1000000000000 := by decide
      omega
    have nnm := names_nd (z4 := z4) (z2 := z2) (B := 1 + r1) (n := m.toNat) z4b (by omega) (by omega) (by omega) (by omega)
    have nnl := names_lim (z4 := z4) (z2 := z2) (B := 1 + r1) (n := m.toNat) z4c z4b (by omega)
    generalize ((List.range m.toNat).map fun (i : Nat) => z4 + z2 * ((1 + r1) * (0 + (i : Int)) % 61)) = nm at h5 l5 nnm nnl
    have t5 := tp4.same s5
    refine ⟨_, rfl, by show 4 ≤ sizeLine; decide, fun d6 h6 => ?_⟩
    refine ⟨t, c, d6, _, n + 4, rfl, t5.new h6, by omega, fun H' kp => .inl (SqL.of (kp d6 _ upd_same (t5.fresh h6))), by show 0 < 4; decide, by show 4 ≤ 1000000; decide, fun H6 i6 v6 g6 tp6 kp6 => ?_⟩
    obtain ⟨z6, rfl, m6⟩ := pick_int (zs := [1, 2, 2, 3]) g6
    have z6b : 1 ≤ z6 ∧ z6 ≤ 3 := by
      simp only [List.mem_cons, List.not_mem_nil, or_false] at m6
      omega
    have k56 : Kp t H5 H6 := (Kp.new h6).trans kp6
    refine ⟨by show 2 ≤ sizeLine; decide, fun q7 hq7 => ⟨q7, _, rfl, SqT.of upd_same, rfl, _, _, rfl, _, _, rfl, rfl, ?_⟩⟩
    have t7 := tp6.new (o := .tup [V.ref D, V.int z6]) hq7
    have h7 := same_new (o := .tup [V.ref D, V.int z6]) hq7 _ _ (t5.sq h5 k56)
    have k07 : Kp t H (upd H6 q7 (.tup [V.ref D, V.int z6])) := kp1.trans ((Kp.new h1).trans (kp2.trans ((Kp.new hq2).trans (kp3.trans ((Kp.new h3).trans (kp4.trans ((Kp.same s5).trans (k56.trans (Kp.new hq7)))))))))
    generalize upd H6 q7 (.tup [V.ref D, V.int z6]) = H7 at t7 h7 k07
    -- signs
    refine ⟨_, rfl, D, rfl, ⟨_, SqL.of h7⟩, fun Z hZ => lc_list (xs := nm.map V.int) (fun i H' => Kp t H7 H' ∧ Tape H' t c (n + 5 + i) ∧ ∃ is : List Int, is.length = i ∧ nas is = nas (nm.take i) ∧ H' Z = some (.lst (is.map V.int))) ⟨Kp.new hZ, t7.new hZ, [], rfl, rfl, upd_same⟩ ?_ ?_ ?_⟩
    · rintro i H' _ ⟨kp, _, _⟩
      exact SqL.of (t7.sq h7 kp)
    · rintro i x H8 hi ⟨k8, t8, is, el, en, h8⟩
      obtain ⟨y, rfl, hy⟩ := int_at hi
      have li : i < nm.length := (List.getElem?_eq_some_iff.mp hy).1
      have nZt : Z ≠ t := t7.fresh hZ
      have nZc : Z ≠ c := t7.fresh_c hZ
      refine ⟨rfl, yes_go ⟨_, rfl, _, rfl, t, c, z6, n + 5 + i, rfl, t8, by omega, by omega, pow8000 (by omega), fun H9 r9 a9 b9 tp9 kp9 => ⟨_, rfl, _, _, rfl, rfl, ⟨by decide, by decide⟩, _, _, rfl, rfl, _, _, rfl, rfl, _, rfl, ?_⟩⟩⟩
      have h9 := kp9 Z _ h8 nZt
      have fin : ∀ y' : Int, y'.natAbs = y.natAbs → ∃ acc, H9 Z = some (.lst acc) ∧ acc.length < sizeLine ∧ Kp t H7 (upd H9 Z (.lst (acc ++ [V.int y']))) ∧ Tape (upd H9 Z (.lst (acc ++ [V.int y']))) t c (n + 5 + (i + 1)) ∧ ∃ is : List Int, is.length = i + 1 ∧ nas is = nas (nm.take (i + 1)) ∧ (upd H9 Z (.lst (acc ++ [V.int y']))) Z = some (.lst (is.map V.int)) := fun y' ey => by
        refine ⟨is.map V.int, h9, ?_, (k8.trans kp9).mut hZ, tp9.mut nZt nZc, is ++ [y'], by rw [List.length_append, el]; rfl, by rw [nas_snoc, en, take_snoc hy, nas_snoc, ey], ?_⟩
        · have line : 1000000 < sizeLine := by decide
          rw [List.length_map, el]
          omega
        · rw [upd_same, List.map_append]
          rfl
      refine ite2 (fun _ => ?_) (fun _ => ?_)
      · exact ⟨_, rfl, fin y rfl⟩
      · exact ⟨_, rfl, _, _, rfl, rfl, fin (0 - y) (by omega)⟩
    · rintro H8 ⟨k8, t8, is, el, en, h8⟩
      rw [List.length_map] at el t8
      rw [List.length_map, List.take_length] at en
      have un : Un is := Un.of_perm (ms := nm) ⟨nnm.1, nnm.2, nnl⟩ (by rw [en])
      exact k H8 Z is (k07.free hZ (t7.fresh hZ)) h8 (by omega) un (t8.le (by omega)) (k07.trans k8)
end
/-! ### drawn clauses -/
theorem erase_map : ∀ (l : List Int) (k : Nat), (l.map V.int).eraseIdx k = (l.eraseIdx k).map V.int
  | [], k => by simp
  | x :: r, 0 => rfl
  | x :: r, k + 1 => by
    show V.int x :: (r.map V.int).eraseIdx k = V.int x :: (r.eraseIdx k).map V.int
    rw [erase_map r k]
theorem flat_ints (l : List Int) : (l.map V.int).all flatV = true := by
  rw [List.all_map]
  exact List.all_eq_true.mpr fun _ _ => rfl
theorem wide_of {i : Nat} {v : V} (h : ((List.replicate (7 : Int).toNat [V.int 2]).flatten ++ (List.replicate (5 : Int).toNat [V.int 3]).flatten ++ [V.int 4, V.int 5, V.int 1])[i]? = some v) : ∃ z : Int, v = .int z ∧ 1 ≤ z ∧ z ≤ 5 := by
  have e : (List.replicate (7 : Int).toNat [V.int 2]).flatten ++ (List.replicate (5 : Int).toNat [V.int 3]).flatten ++ [V.int 4, V.int 5, V.int 1] = ([2, 2, 2, 2, 2, 2, 2, 3, 3, 3, 3, 3, 4, 5, 1] : List Int).map V.int := rfl
  rw [e] at h
  obtain ⟨z, ez, m⟩ := pick_int h
  refine ⟨z, ez, ?_⟩
  simp only [List.mem_cons, List.not_mem_nil, or_false] at m
  omega
def spSys : Sp := fun vs H Q _ => ∃ (t c p : Addr) (ms : List Int) (m : Int) (n : Nat), vs = [.ref t, .ref p, .int m] ∧ Tape H t c n ∧ n < 1000000 ∧ 0 ≤ m ∧ m ≤ 100 ∧ H p = some (.lst (ms.map V.int)) ∧ 1 ≤ ms.length ∧ ms.length ≤ 100 ∧ Un ms ∧
  ∀ (H' : Hp) (q : Addr) (qs : List Addr) (cs : List (List Int)), H q = none → Cs H' q qs cs → (∀ c ∈ cs, c.length ≤ 5 ∧ ClM ms c) → m.toNat ≤ cs.length ∧ cs.length ≤ m.toNat + 1 → Tape H' t c (n + 1200) → Kp t H H' → Q (.ref q) H'
section
variable {P : Program} {w : World} {K : PySem.W.Frag} {mg : Str → Option Value} {base : Heap}
theorem has_sys {cs : Nat → Addr} (T : Top K mg cs) (h__law_draw : Has P w K mg base 1 "_law_draw" ["_law_tape", "_law_many"] spDraw) (h__law_pick : Has P w K mg base 2 "_law_pick" ["_law_tape", "_law_some"] (spPick K)) :
    Has P w K mg base 3 "_law_system" ["_law_tape", "_law_marks", "_law_many"] spSys := by
  refine has_of T.d__law_system sc__law_system bd__law_system (fun vs H Q E h => ?_) (fun f cdv A outer s H vs Q E hr h => ?_)
  · obtain ⟨t, c, p, ms, m, n, rfl, _⟩ := h
    rfl
  · have hu := hu_of hr
    have nd := sc__law_system.nd
    obtain ⟨t, c, p, ms, m, n, rfl, tp, hn, hm0, hm1, hp, hl0, hl1, un, k⟩ := h
    refine ⟨_, (pss_cons (ps_par (i := 3) (j := 4) (by rfl) nd rfl rfl (by decide) rfl rfl (pa_cons (pe_cmpR op_eq (pe_has h__law_draw (hr.mono (by omega)) (by rfl) (pa_cons (pv 0) (pa_cons pe_int pa_nil))) pe_int (nomark _)) (pa_cons (pe_lst pa_nil) pa_nil)) (by rfl))
    (pss_cons (ps_for PassesOwn.never rfl (pi_range1 (by rfl) T.b_range (pa_cons (pv 2) pa_nil)) (pg_name (i := 5) nd rfl (.inl rfl))
      (pss_cons (ps_par (i := 6) (j := 7) (by rfl) nd rfl rfl (by decide) rfl rfl (pa_cons (pe_callTy call_list_of (by rfl) T.b_list (by decide +kernel) (pa_cons (pv 1) pa_nil)) (pa_cons (pe_lst pa_nil) pa_nil)) (by rfl))
    (pss_cons (ps_for PassesOwn.never rfl (pi_range1 (by rfl) T.b_range (pa_cons (pe_callB (call_min2 rfl) (by rfl) T.b_min (by decide +kernel) (pa_cons (pe_callB call_len_seq (by rfl) T.b_len (by decide +kernel) (pa_cons (pv 1) pa_nil)) (pa_cons (pe_has h__law_pick (hr.mono (by omega)) (by rfl) (pa_cons (pv 0) (pa_cons (pe_op op_cat (pe_op op_cat (pe_op op_rep (pe_lst (pa_cons pe_int pa_nil)) pe_int) (pe_op op_rep (pe_lst (pa_cons pe_int pa_nil)) pe_int)) (pe_lst (pa_cons pe_int (pa_cons pe_int (pa_cons pe_int pa_nil))))) pa_nil))) pa_nil))) pa_nil)) (pg_name (i := 8) nd rfl (.inl rfl))
      (pss_cons (ps_set (i := 9) nd rfl (.inl rfl) (pe_bm PySem.F.plainAttrs_list PySem.F.slot_list_pop PySem.F.type_list_pop mt_popAt (pv 6) (pa_cons (pe_has h__law_draw (hr.mono (by omega)) (by rfl) (pa_cons (pv 0) (pa_cons (pe_callB call_len_seq (by rfl) T.b_len (by decide +kernel) (pa_cons (pv 6) pa_nil)) pa_nil))) pa_nil)))
    (pss_one (ps_expr (pe_bm PySem.F.plainAttrs_list PySem.F.slot_list_append PySem.F.type_list_append mt_append (pv 7) (pa_cons (pe_has h__law_pick (hr.mono (by omega)) (by rfl) (pa_cons (pv 0) (pa_cons (pe_lst (pa_cons (pv 9) (pa_cons (pe_op op_sub pe_int (pv 9)) pa_nil))) pa_nil))) pa_nil))))))
    (C8.pss_cut (ps_if (PW.pt (pw_and (pt_val (pv 3)) (pw_and1 (pt_cmpR (op_eqNil hu) (pe_lc (own := [("_law_mark", 9)]) (by rfl) nd (pi_list (pv 7)) (blkOk_by (own := [("_law_mark", 9)]) (N := nm__law_system) (sc := defScope s__law_system) (by decide +kernel)) (fun _ _ _ _ _ => pg_name (i := 9) nd rfl (.inl rfl)) (fun _ _ _ _ _ => pts_one (pt_cmpR (op_inK (K := K) rfl) (pv 9) (pv 1) (by rfl))) (fun _ _ _ _ _ => (pv 9))) (pe_lst pa_nil) (nomark _))))) (pss_one (ps_asg (pe_op op_sub pe_int (pe_ix ix_list (pv 7) pe_int (fun _ _ => rfl))) (pg_sub (pv 7) pe_int set_list))) pss_nil)
    (pss_one (ps_expr (pe_bm PySem.F.plainAttrs_list PySem.F.slot_list_append PySem.F.type_list_append mt_append (pv 4) (pa_cons (pe_callTy call_tuple_of (by rfl) T.b_tuple (by decide +kernel) (pa_cons (pv 7) pa_nil)) pa_nil))))))))
    (C8.pss_cut (ps_if (pt_cmpR op_eq (pe_has h__law_draw (hr.mono (by omega)) (by rfl) (pa_cons (pv 0) (pa_cons pe_int pa_nil))) pe_int (nomark _)) (pss_one (ps_expr (pe_bm PySem.F.plainAttrs_list PySem.F.slot_list_insert PySem.F.type_list_insert mt_insert (pv 4) (pa_cons (pe_has h__law_draw (hr.mono (by omega)) (by rfl) (pa_cons (pv 0) (pa_cons (pe_op op_add (pv 2) pe_int) pa_nil))) (pa_cons (pe_tup pa_nil) pa_nil))))) pss_nil)
    (pss_one (ps_ret (pv 4)))))), ?_⟩
    have line : 1000000 < sizeLine := by decide
    have npt : p ≠ t := tp.ne_lst' hp
    refine ⟨_, rfl, t, c, _, n, rfl, tp, by omega, by decide, by decide +kernel, fun H1 r1 a1 b1 tp1 kp1 => ⟨rfl, by show 0 ≤ sizeLine; decide, fun F hF => ⟨_, _, rfl, ?_⟩⟩⟩
    have nFt : F ≠ t := tp1.fresh hF
    have nFc : F ≠ c := tp1.fresh_c hF
    have hp1 := tp.sq hp kp1
    have nFp : p ≠ F := ne_of_none hp1 hF
    -- the clauses, one by one
    refine ⟨_, rfl, m, rfl, by omega, by omega, for_range (lo := 0) (fun i σ H' => ∃ b v5 v6 v7 v8 v9 qs cs, σ = [some (.ref t), some (.ref p), some (.int m), some (.bl b), some (.ref F), v5, v6, v7, v8, v9] ∧ Kp t H1 H' ∧ Tape H' t c (n + 1 + 11 * i) ∧ Cs H' F qs cs ∧ cs.length = i ∧ ∀ c ∈ cs, c.length ≤ 5 ∧ ClM ms c)
      ⟨_, none, none, none, none, none, [], [], rfl, Kp.new hF, tp1.new hF, ⟨upd_same, rfl, fun i q c hq => by simp at hq⟩, rfl, fun c hc => by simp at hc⟩ ?_ ?_⟩
    · rintro i σ H2 hi ⟨b, v5, v6, v7, v8, v9, qs, cs, rfl, k2, t2, c2, l2, w2⟩
      have hp2 := tp1.sq hp1 k2
      -- some, clause
      refine ⟨_, rfl, p, _, rfl, .inl (SqL.of hp2), fun S hS => ⟨by show 0 ≤ sizeLine; decide, fun C hC => ⟨_, _, rfl, ?_⟩⟩⟩
      have nSC : S ≠ C := fun e => by
        rw [← e, upd_same] at hC
        cases hC
      have hC2 : H2 C = none := by
        rw [← hC, upd_ne nSC.symm]
      have t3 := (t2.new (o := .lst (ms.map V.int)) hS).new (o := .lst []) hC
      have k3 : Kp t H2 (upd (upd H2 S (.lst (ms.map V.int))) C (.lst [])) := (Kp.new hS).trans (Kp.new hC)
      have nSt : S ≠ t := t2.fresh hS
      have nSc : S ≠ c := t2.fresh_c hS
      have nCt : C ≠ t := t2.fresh hC2
      have nCc : C ≠ c := t2.fresh_c hC2
      have h3S : (upd (upd H2 S (.lst (ms.map V.int))) C (.lst [])) S = some (.lst (ms.map V.int)) := by
        rw [upd_ne nSC, upd_same]
      have h3C : (upd (upd H2 S (.lst (ms.map V.int))) C (.lst [])) C = some (.lst (([] : List Int).map V.int)) := upd_same
      generalize upd (upd H2 S (.lst (ms.map V.int))) C (.lst []) = H3 at t3 k3 h3S h3C
      have hp3 := t2.sq hp2 k3
      -- how many marks it has
      refine ⟨_, rfl, p, _, rfl, .inl (SqL.of hp3), _, rfl, by show 1 ≤ sizeLine; decide, fun e1 g1 => ⟨e1, 7, _, rfl, rfl, upd_same, by decide, by decide, by show 1 * 7 ≤ sizeLine; decide, fun e2 g2 => ⟨by show 1 ≤ sizeLine; decide, fun e3 g3 =>
        ⟨e3, 5, _, rfl, rfl, upd_same, by decide, by decide, by show 1 * 5 ≤ sizeLine; decide, fun e4 g4 => ?_⟩⟩⟩⟩
      have q2 : ∀ o3 o4, (upd (upd (upd (upd H3 e1 (.lst [V.int 2])) e2 (.lst (List.replicate (7 : Int).toNat [V.int 2]).flatten)) e3 o3) e4 o4) e2 = some (.lst (List.replicate (7 : Int).toNat [V.int 2]).flatten) → True := fun _ _ _ => trivial
      have u1 := t3.new (o := .lst [V.int 2]) g1
      have u2 := u1.new (o := .lst (List.replicate (7 : Int).toNat [V.int 2]).flatten) g2
      have u3 := u2.new (o := .lst [V.int 3]) g3
      have u4 := u3.new (o := .lst (List.replicate (5 : Int).toNat [V.int 3]).flatten) g4
      have f2 := same_new (o := .lst (List.replicate (5 : Int).toNat [V.int 3]).flatten) g4 _ _ (same_new (o := .lst [V.int 3]) g3 e2 _ upd_same)
      refine ⟨e2, e4, _, _, rfl, rfl, f2, upd_same, by show 7 + 5 ≤ sizeLine; decide, fun e5 g5 => ⟨by show 3 ≤ sizeLine; decide, fun e6 g6 => ?_⟩⟩
      have u5 := u4.new (o := .lst ((List.replicate (7 : Int).toNat [V.int 2]).flatten ++ (List.replicate (5 : Int).toNat [V.int 3]).flatten)) g5
      have u6 := u5.new (o := .lst [V.int 4, V.int 5, V.int 1]) g6
      have f5 := same_new (o := .lst [V.int 4, V.int 5, V.int 1]) g6 e5 _ upd_same
      refine ⟨e5, e6, _, _, rfl, rfl, f5, upd_same, by show 12 + 3 ≤ sizeLine; decide, fun e7 g7 => ?_⟩
      have u7 := u6.new (o := .lst ((List.replicate (7 : Int).toNat [V.int 2]).flatten ++ (List.replicate (5 : Int).toNat [V.int 3]).flatten ++ [V.int 4, V.int 5, V.int 1])) g7
      refine ⟨t, c, e7, _, n + 1 + 11 * i, rfl, u7, by omega, fun H' kp => .inl (SqL.of (kp e7 _ upd_same (u6.fresh g7))), by show 0 < 15; decide, by show 15 ≤ 1000000; decide, fun H4 i4 v4 g4' tp4 kp4 => ?_⟩
      obtain ⟨z, rfl, za, zb⟩ := wide_of g4'
      have k34 : Kp t H3 H4 := (Kp.new g1).trans ((Kp.new g2).trans ((Kp.new g3).trans ((Kp.new g4).trans ((Kp.new g5).trans ((Kp.new g6).trans ((Kp.new g7).trans kp4))))))
      have k24 := k3.trans k34
      rw [List.length_map]
      refine ⟨_, _, rfl, _, rfl, by split <;> omega, by split <;> omega, for_range (lo := 0) (fun j σ H' => ∃ v8 v9 ss ys, σ = [some (.ref t), some (.ref p), some (.int m), some (.bl b), some (.ref F), some (.int (0 + i)), some (.ref S), some (.ref C), v8, v9] ∧ Kp t H2 H' ∧ Tape H' t c (n + 2 + 11 * i + 2 * j) ∧
        H' S = some (.lst ((ss : List Int).map V.int)) ∧ ss.length + j = ms.length ∧ H' C = some (.lst ((ys : List Int).map V.int)) ∧ ys.length = j ∧ (nas ys ++ nas ss).Perm (nas ms)) ⟨v8, v9, ms, [], rfl, k24, tp4.le (by omega), t3.sq h3S k34, by omega, t3.sq h3C k34, rfl, List.Perm.refl _⟩ ?_ ?_⟩
      · rintro j σ H5 hj ⟨w8, w9, ss, ys, rfl, k5, t5, h5S, l5, h5C, m5, pm⟩
        have hj2 : j < ms.length ∧ j < 5 := by
          split at hj <;> omega
        have ps : 0 < ss.length := by omega
        refine ⟨_, rfl, .inl ⟨rfl, _, SqL.of h5S⟩, _, rfl, _, rfl, S, _, rfl, .inl (SqL.of h5S), t, c, _, _, rfl, t5, by omega, by rw [List.length_map]; omega, pow8000 (by rw [List.length_map]; omega), fun H6 r6 a6 b6 tp6 kp6 => ?_⟩
        rw [List.length_map] at b6
        have l6 : r6.toNat < ss.length := by omega
        refine ⟨S, _, r6, r6.toNat, .int ss[r6.toNat], rfl, rfl, t5.sq h5S kp6, by omega, by omega, seq_in a6 (by rw [List.length_map]; exact b6), by rw [List.getElem?_map, List.getElem?_eq_getElem l6]; rfl, ?_⟩
        rw [erase_map]
        generalize emk : ss[r6.toNat] = mk
        have h6C := t5.sq h5C kp6
        have k6 := (k5.trans kp6).mut (o := .lst ((ss.eraseIdx r6.toNat).map V.int)) hS
        have t6 := tp6.mut (o := .lst ((ss.eraseIdx r6.toNat).map V.int)) nSt nSc
        have h6S : (upd H6 S (.lst ((ss.eraseIdx r6.toNat).map V.int))) S = some (.lst ((ss.eraseIdx r6.toNat).map V.int)) := upd_same
        have h6C : (upd H6 S (.lst ((ss.eraseIdx r6.toNat).map V.int))) C = some (.lst (ys.map V.int)) := by
          rw [upd_ne nSC.symm]
          exact h6C
        generalize upd H6 S (.lst ((ss.eraseIdx r6.toNat).map V.int)) = H7 at k6 t6 h6S h6C
        refine ⟨_, rfl, .inl ⟨rfl, _, SqL.of h6C⟩, _, rfl, _, rfl, _, rfl, _, _, rfl, rfl, by show 2 ≤ sizeLine; decide, fun e8 g8 => ?_⟩
        refine ⟨t, c, e8, _, _, rfl, t6.new g8, by omega, fun H' kp => .inl (SqL.of (kp e8 _ upd_same (t6.fresh g8))), by show 0 < 2; decide, by show 2 ≤ 1000000; decide, fun H8 i8 v8' g8' tp8 kp8 => ?_⟩
        have k78 : Kp t H7 H8 := (Kp.new g8).trans kp8
        obtain ⟨y8, rfl, my8⟩ := pick_int (zs := [mk, 0 - mk]) g8'
        have ey8 : y8.natAbs = ss[r6.toNat].natAbs := by
          simp only [List.mem_cons, List.not_mem_nil, or_false] at my8
          rw [emk]
          omega
        have h8C := t6.sq h6C k78
        refine ⟨C, _, _, rfl, rfl, h8C, by rw [List.length_map]; omega, _, _, ss.eraseIdx r6.toNat, ys ++ [y8], rfl, (k6.trans k78).mut hC2, (tp8.mut nCt nCc).le (by omega), ?_, ?_, ?_, ?_, (perm_move l6 ey8).trans pm⟩
        · rw [upd_ne nSC]
          exact t6.sq h6S k78
        · rw [List.length_eraseIdx, if_pos l6]
          omega
        · rw [upd_same, List.map_append]
          rfl
        · rw [List.length_append, m5]
          rfl
      · rintro σ H5 ⟨w8, w9, ss, ys, rfl, k5, t5, h5S, l5, h5C, m5, pm⟩
        have m6 : 1 ≤ ys.length ∧ ys.length ≤ 5 := by
          rw [m5]
          split <;> omega
        have t5 : Tape H5 t c (n + 12 + 11 * i) := t5.le (by omega)
        have cm := ClM.of_perm un pm
        -- the kept ones
        refine ⟨fun σ' H' => ∃ ys : List Int, σ' = [some (.ref t), some (.ref p), some (.int m), some (.bl b), some (.ref F), some (.int (0 + i)), some (.ref S), some (.ref C), w8, w9] ∧ Kp t H2 H' ∧ Tape H' t c (n + 12 + 11 * i) ∧ H' C = some (.lst (ys.map V.int)) ∧ (ys.length ≤ 5 ∧ ClM ms ys), ?_, ?_⟩
        · refine ⟨_, rfl, b, rfl, ?_⟩
          cases b with
          | false => exact iteF ⟨ys, rfl, k5, t5, h5C, m6.2, cm⟩
          | true =>
            have hp5 := t2.sq hp2 k5
            refine iteT ⟨_, rfl, C, rfl, ⟨_, SqL.of h5C⟩, fun D hD => lc_sel_list (fun x => inV x (ms.map V.int)) (fun x => x) (SqL.of h5C) hD (by rw [List.length_map]; omega) (fun x hm => ?_) fun H6 s6 h6 => ?_⟩
            · obtain ⟨y, _, rfl⟩ := List.mem_map.mp hm
              exact ⟨rfl, fun H' s' R g => ⟨_, rfl, _, rfl, p, _, rfl, .inl (SqL.of (s' _ _ hp5)), rfl, flat_ints ms, _, rfl, g H' (Same.refl _)⟩, fun _ H' s' R g => ⟨_, rfl, g H' (Same.refl _)⟩⟩
            refine ⟨by show 0 ≤ sizeLine; decide, fun N hN => ⟨D, N, _, rfl, rfl, SqL.of (same_new hN _ _ h6), SqL.of upd_same, _, rfl, ?_⟩⟩
            have s7 : Same H5 (upd H6 N (.lst [])) := s6.trans (same_new hN)
            refine ite2 (fun _ => ?_) (fun _ => ⟨ys, rfl, k5.trans (Kp.same s7), t5.same s7, s7 _ _ h5C, m6.2, cm⟩)
            have h7C := s7 _ _ h5C
            have l7 : 0 < ys.length := m6.1
            have g0 : (ys.map V.int)[0]? = some (.int ys[0]) := by
              rw [List.getElem?_map, List.getElem?_eq_getElem l7]
              rfl
            refine ⟨_, rfl, C, _, _, _, rfl, rfl, SqL.of h7C, atI_nat (j := 0) g0, _, _, rfl, rfl, _, rfl, C, _, 0, 0, rfl, rfl, h7C, ?_, ?_⟩
            · unfold ixN
              rw [if_pos (by decide), if_pos (by rw [List.length_map]; omega)]
              rfl
            · refine ⟨ys.set 0 (0 - ys[0]), rfl, (k5.trans (Kp.same s7)).mut hC2, (t5.same s7).mut nCt nCc, ?_, by rw [List.length_set]; exact m6.2, cm.of_nas ?_⟩
              · rw [upd_same, List.map_set]
                rfl
              · unfold nas
                rw [List.map_set, show (0 - ys[0]).natAbs = ys[0].natAbs by omega, ← List.map_set, List.set_getElem_self]
        · rintro σ' H6 ⟨ys, rfl, k6, t6, h6C, m6⟩
          have c6 := t2.cs c2 k6
          refine ⟨_, rfl, .inl ⟨rfl, _, SqL.of c6.l⟩, _, rfl, C, _, rfl, .inl ⟨SqL.of h6C, fun e9 g9 => ?_⟩⟩
          have c9 := c6.same (same_new (o := .tup (ys.map V.int)) g9)
          have ln := c2.n
          refine ⟨F, _, _, rfl, rfl, c9.l, by rw [List.length_map]; omega, b, _, _, _, _, _, qs ++ [e9], cs ++ [ys], rfl, ?_, ?_, c9.snoc upd_same, by rw [List.length_append, l2]; rfl, fun d hd => ?_⟩
          · exact ((k2.trans k6).trans (Kp.new g9)).mut hF
          · exact ((t6.new g9).mut nFt nFc).le (by omega)
          · rcases List.mem_append.mp hd with z | z
            · exact w2 d z
            · rw [List.mem_singleton.mp z]
              exact m6
    · rintro σ H2 ⟨b, v5, v6, v7, v8, v9, qs, cs, rfl, k2, t2, c2, l2, w2⟩
      have k02 := kp1.trans k2
      have nF : H F = none := kp1.free hF (tp1.fresh hF)
      refine ⟨fun σ' H' => ∃ qs cs, σ' = [some (.ref t), some (.ref p), some (.int m), some (.bl b), some (.ref F), v5, v6, v7, v8, v9] ∧ Kp t H H' ∧ Tape H' t c (n + 1200) ∧ Cs H' F qs cs ∧ (m.toNat ≤ cs.length ∧ cs.length ≤ m.toNat + 1) ∧ ∀ c ∈ cs, c.length ≤ 5 ∧ ClM ms c, ?_, ?_⟩
      · refine ⟨_, rfl, t, c, _, _, rfl, t2, by omega, by decide, by decide +kernel, fun H3 r3 a3 b3 tp3 kp3 => ⟨rfl, _, rfl, ite2 (fun _ => ?_) (fun _ => ⟨qs, cs, rfl, k02.trans kp3, tp3.le (by omega), t2.cs c2 kp3, by omega, w2⟩)⟩⟩
        have c3 := t2.cs c2 kp3
        refine ⟨_, rfl, .inl ⟨rfl, _, SqL.of c3.l⟩, _, rfl, _, rfl, _, _, rfl, rfl, t, c, _, _, rfl, tp3, by omega, by omega, pow8000 (by omega), fun H4 r4 a4 b4 tp4 kp4 => ⟨by show 0 ≤ sizeLine; decide, fun e g => ?_⟩⟩
        have c4 := (tp3.cs c3 kp4).same (same_new (o := .tup []) g)
        have ln := c2.n
        refine ⟨F, _, r4, _, rfl, rfl, c4.l, by rw [List.length_map]; omega, a4, by omega, qs.take r4.toNat ++ [e] ++ qs.drop r4.toNat, cs.take r4.toNat ++ [[]] ++ cs.drop r4.toNat, rfl, ?_, ?_, c4.insert (by omega) upd_same, ?_, fun d hd => ?_⟩
        · exact (((k02.trans kp3).trans kp4).trans (Kp.new g)).mut nF
        · exact ((tp4.new g).mut nFt nFc).le (by omega)
        · simp only [List.length_append, List.length_take, List.length_drop, List.length_cons, List.length_nil]
          omega
        · rcases List.mem_append.mp hd with z | z
          · rcases List.mem_append.mp z with z | z
            · exact w2 d (List.mem_of_mem_take z)
            · rw [List.mem_singleton.mp z]
              exact ⟨Nat.zero_le _, ClM.nil ms⟩
          · exact w2 d (List.mem_of_mem_drop z)
      · rintro σ' H3 ⟨qs, cs, rfl, k3, t3, c3, l3, w3⟩
        exact ⟨_, rfl, k H3 F qs cs nF c3 w3 l3 t3 k3⟩
end

/-! ### drawn puts -/
def spPuts : Sp := fun vs H Q _ => ∃ (t c p : Addr) (ms : List Int) (n : Nat), vs = [.ref t, .ref p] ∧ Tape H t c n ∧ n < 1000000 ∧ H p = some (.lst (ms.map V.int)) ∧ ms.length ≤ 100 ∧ Un ms ∧
  ∀ (H' : Hp) (q : Addr) (ys : List Int), H q = none → H' q = some (.lst (ys.map V.int)) → (nas ys).Perm (nas ms) → Tape H' t c (n + 200) → Kp t H H' → Q (.ref q) H'
section
variable {P : Program} {w : World} {K : PySem.W.Frag} {mg : Str → Option Value} {base : Heap}
theorem has_puts {cs : Nat → Addr} (T : Top K mg cs) (h__law_draw : Has P w K mg base 1 "_law_draw" ["_law_tape", "_law_many"] spDraw) (h__law_pick : Has P w K mg base 2 "_law_pick" ["_law_tape", "_law_some"] (spPick K)) :
    Has P w K mg base 3 "_law_puts" ["_law_tape", "_law_marks"] spPuts := by
  refine has_of T.d__law_puts sc__law_puts bd__law_puts (fun vs H Q E h => ?_) (fun f cdv A outer s H vs Q E hr h => ?_)
  · obtain ⟨t, c, p, ms, n, rfl, _⟩ := h
    rfl
  · have hu := hu_of hr
    have nd := sc__law_puts.nd
    obtain ⟨t, c, p, ms, n, rfl, tp, hn, hp, hl, un, k⟩ := h
    refine ⟨_, (pss_cons (ps_par (i := 2) (j := 3) (by rfl) nd rfl rfl (by decide) rfl rfl (pa_cons (pe_callTy call_list_of (by rfl) T.b_list (by decide +kernel) (pa_cons (pv 1) pa_nil)) (pa_cons (pe_lst pa_nil) pa_nil)) (by rfl))
    (pss_cons (ps_for PassesOwn.never rfl (pi_range1 (by rfl) T.b_range (pa_cons (pe_callB call_len_seq (by rfl) T.b_len (by decide +kernel) (pa_cons (pv 1) pa_nil)) pa_nil)) (pg_name (i := 4) nd rfl (.inl rfl))
      (pss_cons (ps_set (i := 5) nd rfl (.inl rfl) (pe_bm PySem.F.plainAttrs_list PySem.F.slot_list_pop PySem.F.type_list_pop mt_popAt (pv 2) (pa_cons (pe_has h__law_draw (hr.mono (by omega)) (by rfl) (pa_cons (pv 0) (pa_cons (pe_callB call_len_seq (by rfl) T.b_len (by decide +kernel) (pa_cons (pv 2) pa_nil)) pa_nil))) pa_nil)))
    (pss_one (ps_expr (pe_bm PySem.F.plainAttrs_list PySem.F.slot_list_append PySem.F.type_list_append mt_append (pv 3) (pa_cons (pe_has h__law_pick (hr.mono (by omega)) (by rfl) (pa_cons (pv 0) (pa_cons (pe_lst (pa_cons (pv 5) (pa_cons (pv 5) (pa_cons (pv 5) (pa_cons (pe_op op_sub pe_int (pv 5)) pa_nil))))) pa_nil))) pa_nil))))))
    (pss_one (ps_ret (pv 3))))), ?_⟩
    have line : 1000000 < sizeLine := by decide
    refine ⟨_, rfl, p, _, rfl, .inl (SqL.of hp), fun S hS => ⟨by show 0 ≤ sizeLine; decide, fun C hC => ⟨_, _, rfl, ?_⟩⟩⟩
    have nSC : S ≠ C := fun e => by
      rw [← e, upd_same] at hC
      cases hC
    have hC2 : H C = none := by
      rw [← hC, upd_ne nSC.symm]
    have t3 := (tp.new (o := .lst (ms.map V.int)) hS).new (o := .lst []) hC
    have k3 : Kp t H (upd (upd H S (.lst (ms.map V.int))) C (.lst [])) := (Kp.new hS).trans (Kp.new hC)
    have nSt : S ≠ t := tp.fresh hS
    have nSc : S ≠ c := tp.fresh_c hS
    have nCt : C ≠ t := tp.fresh hC2
    have nCc : C ≠ c := tp.fresh_c hC2
    have h3S : (upd (upd H S (.lst (ms.map V.int))) C (.lst [])) S = some (.lst (ms.map V.int)) := by
      rw [upd_ne nSC, upd_same]
    have h3C : (upd (upd H S (.lst (ms.map V.int))) C (.lst [])) C = some (.lst (([] : List Int).map V.int)) := upd_same
    generalize upd (upd H S (.lst (ms.map V.int))) C (.lst []) = H3 at t3 k3 h3S h3C
    have hp3 := tp.sq hp k3
    have lm : (ms.map V.int).length = ms.length := List.length_map _
    refine ⟨_, rfl, p, _, rfl, .inl (SqL.of hp3), _, rfl, by omega, by omega, for_range (lo := 0) (fun j σ H' => ∃ v4 v5 ss ys, σ = [some (.ref t), some (.ref p), some (.ref S), some (.ref C), v4, v5] ∧ Kp t H H' ∧ Tape H' t c (n + 2 * j) ∧
        H' S = some (.lst ((ss : List Int).map V.int)) ∧ ss.length + j = ms.length ∧ H' C = some (.lst ((ys : List Int).map V.int)) ∧ ys.length = j ∧ (nas ys ++ nas ss).Perm (nas ms)) ⟨none, none, ms, [], rfl, k3, t3, h3S, by omega, h3C, rfl, List.Perm.refl _⟩ ?_ ?_⟩
    · rintro j σ H5 hj ⟨w8, w9, ss, ys, rfl, k5, t5, h5S, l5, h5C, m5, pm⟩
      have ps : 0 < ss.length := by omega
      refine ⟨_, rfl, .inl ⟨rfl, _, SqL.of h5S⟩, _, rfl, _, rfl, S, _, rfl, .inl (SqL.of h5S), t, c, _, _, rfl, t5, by omega, by rw [List.length_map]; omega, pow8000 (by rw [List.length_map]; omega), fun H6 r6 a6 b6 tp6 kp6 => ?_⟩
      rw [List.length_map] at b6
      have l6 : r6.toNat < ss.length := by omega
      refine ⟨S, _, r6, r6.toNat, .int ss[r6.toNat], rfl, rfl, t5.sq h5S kp6, by omega, by omega, seq_in a6 (by rw [List.length_map]; exact b6), by rw [List.getElem?_map, List.getElem?_eq_getElem l6]; rfl, ?_⟩
      rw [erase_map]
      generalize emk : ss[r6.toNat] = mk
      have h6C := t5.sq h5C kp6
      have k6 := (k5.trans kp6).mut (o := .lst ((ss.eraseIdx r6.toNat).map V.int)) hS
      have t6 := tp6.mut (o := .lst ((ss.eraseIdx r6.toNat).map V.int)) nSt nSc
      have h6S : (upd H6 S (.lst ((ss.eraseIdx r6.toNat).map V.int))) S = some (.lst ((ss.eraseIdx r6.toNat).map V.int)) := upd_same
      have h6C : (upd H6 S (.lst ((ss.eraseIdx r6.toNat).map V.int))) C = some (.lst (ys.map V.int)) := by
        rw [upd_ne nSC.symm]
        exact h6C
      generalize upd H6 S (.lst ((ss.eraseIdx r6.toNat).map V.int)) = H7 at k6 t6 h6S h6C
      refine ⟨_, rfl, .inl ⟨rfl, _, SqL.of h6C⟩, _, rfl, _, rfl, _, rfl, _, rfl, _, rfl, _, _, rfl, rfl, by show 4 ≤ sizeLine; decide, fun e8 g8 => ?_⟩
      refine ⟨t, c, e8, _, _, rfl, t6.new g8, by omega, fun H' kp => .inl (SqL.of (kp e8 _ upd_same (t6.fresh g8))), by show 0 < 4; decide, by show 4 ≤ 1000000; decide, fun H8 i8 v8' g8' tp8 kp8 => ?_⟩
      have k78 : Kp t H7 H8 := (Kp.new g8).trans kp8
      obtain ⟨y8, rfl, my8⟩ := pick_int (zs := [mk, mk, mk, 0 - mk]) g8'
      have ey8 : y8.natAbs = ss[r6.toNat].natAbs := by
        simp only [List.mem_cons, List.not_mem_nil, or_false] at my8
        rw [emk]
        omega
      have h8C := t6.sq h6C k78
      refine ⟨C, _, _, rfl, rfl, h8C, by rw [List.length_map]; omega, _, _, ss.eraseIdx r6.toNat, ys ++ [y8], rfl, (k6.trans k78).mut hC2, (tp8.mut nCt nCc).le (by omega), ?_, ?_, ?_, ?_, (perm_move l6 ey8).trans pm⟩
      · rw [upd_ne nSC]
        exact t6.sq h6S k78
      · rw [List.length_eraseIdx, if_pos l6]
        omega
      · rw [upd_same, List.map_append]
        rfl
      · rw [List.length_append, m5]
        rfl
    · rintro σ H5 ⟨w8, w9, ss, ys, rfl, k5, t5, h5S, l5, h5C, m5, pm⟩
      have es : ss = [] := List.eq_nil_of_length_eq_zero (by omega)
      rw [es] at pm
      exact ⟨_, rfl, k H5 C ys hC2 h5C (by rw [show nas ys = nas ys ++ nas [] from (List.append_nil _).symm]; exact pm) (t5.le (by omega)) k5⟩
end

/-! ### what the data are -/
theorem lay_ints : ∀ l : List Int, PyData.canLayAll0 (l.map PyData.int) = true
  | [] => rfl
  | x :: r => by
    rw [List.map_cons, PyData.canLayAll0, lay_ints r]
    rfl
theorem dep_ints : ∀ l : List Int, PyData.depthAll (l.map PyData.int) ≤ 0
  | [] => Nat.le_refl _
  | x :: r => by
    rw [List.map_cons, PyData.depthAll]
    exact Nat.max_le.mpr ⟨Nat.le_refl _, dep_ints r⟩
def tupD (c : List Int) : PyData := .tuple (c.map PyData.int)
def lstD (c : List Int) : PyData := .list (c.map PyData.int)
theorem lay_tup (c : List Int) : (tupD c).canLay0 = true := by
  unfold tupD
  rw [PyData.canLay0]
  exact lay_ints c
theorem lay_lst (c : List Int) : (lstD c).canLay0 = true := by
  unfold lstD
  rw [PyData.canLay0]
  exact lay_ints c
theorem dep_tup (c : List Int) : (tupD c).depth ≤ 1 := by
  unfold tupD
  rw [PyData.depth]
  exact Nat.succ_le_succ (dep_ints c)
theorem dep_lst (c : List Int) : (lstD c).depth ≤ 1 := by
  unfold lstD
  rw [PyData.depth]
  exact Nat.succ_le_succ (dep_ints c)
theorem lay_tups : ∀ cs : List (List Int), PyData.canLayAll0 (cs.map tupD) = true
  | [] => rfl
  | x :: r => by
    rw [List.map_cons, PyData.canLayAll0, lay_tups r, lay_tup]
    rfl
theorem dep_tups : ∀ cs : List (List Int), PyData.depthAll (cs.map tupD) ≤ 1
  | [] => Nat.zero_le _
  | x :: r => by
    rw [List.map_cons, PyData.depthAll]
    exact Nat.max_le.mpr ⟨dep_tup x, dep_tups r⟩
section
variable {K : PySem.W.Frag} {H : Hp}
theorem dp_ints : ∀ l : List Int, DpAll K H (l.map V.int) (l.map PyData.int)
  | [] => .nil
  | x :: r => .cons (.int x) (dp_ints r)
theorem dp_lst {a : Addr} {l : List Int} (h : H a = some (.lst (l.map V.int))) : Dp K H (.ref a) (lstD l) := .lst (SqL.of h) (dp_ints l)
theorem dp_tups : ∀ {qs : List Addr} {cs : List (List Int)}, qs.length = cs.length → (∀ (i : Nat) q c, qs[i]? = some q → cs[i]? = some c → H q = some (.tup (c.map V.int))) → DpAll K H (qs.map V.ref) (cs.map tupD)
  | [], [], _, _ => .nil
  | [], _ :: _, n, _ => absurd n (by simp)
  | _ :: _, [], n, _ => absurd n (by simp)
  | q :: qs, c :: cs, n, t => .cons (.tup (SqT.of (t 0 q c rfl rfl)) (dp_ints c)) (dp_tups (Nat.succ.inj n) fun i q c hq hc => t (i + 1) q c hq hc)
end
theorem shape_lst (l : List Int) : SeqAt.shaped (lstD l) = true := by
  unfold SeqAt.shaped
  rw [lay_lst, decide_eq_true (Nat.le_trans (dep_lst l) (by decide))]
  rfl

/-! ### for laws over followers -/
theorem inV_ints (m : Int) : ∀ S : List Int, inV (V.int m) (S.map V.int) = decide (m ∈ S)
  | [] => rfl
  | a :: r => by
    have ih := inV_ints m r
    unfold inV at ih ⊢
    rw [List.map_cons, List.any_cons, ih]
    show ((a == m) || _) = _
    by_cases e : a = m
    · subst e
      simp
    · have e' : m ≠ a := fun z => e z.symm
      simp [e, e']
theorem flat_le {k : Nat} : ∀ cs : List (List Int), (∀ c ∈ cs, c.length ≤ k) → cs.flatten.length ≤ k * cs.length
  | [], _ => Nat.zero_le _
  | c :: r, h => by
    have ih := flat_le r fun d hd => h d (List.mem_cons_of_mem _ hd)
    have hc := h c List.mem_cons_self
    rw [List.flatten_cons, List.length_append, List.length_cons, Nat.mul_succ]
    omega
theorem Good.of_sys {ms : List Int} {cs : List (List Int)} (un : Un ms) (w : ∀ c ∈ cs, c.length ≤ 5 ∧ ClM ms c) (l : cs.length ≤ 1000) : Good cs := by
  have f := flat_le cs fun c hc => (w c hc).1
  exact ⟨fun c hc => (w c hc).2.nodup, fun c hc m hm => (w c hc).2.nz un hm, by omega, by omega⟩
/-- a new follower's making leaves all that is known -/
theorem made_same {H H2 : Hp} {x dx : Addr} {u o : HO} (nx : H x = none) (ndx : H dx = none) (ne : dx ≠ x) (mk : Mk1 x (upd (upd H dx u) x o) H2) : Same H H2 := fun b v e => by
  have n1 := ne_of_none e nx
  have n2 := ne_of_none e ndx
  exact mk.k b v (by rw [upd_ne n1, upd_ne n2]; exact e) n1
theorem made_new {H : Hp} {x dx b : Addr} {u o : HO} (nx : H x = none) (ndx : H dx = none) (h : b = x ∨ (upd (upd H dx u) x o) b = none) : H b = none := by
  rcases h with rfl | h
  · exact nx
  · by_cases e1 : b = x
    · rw [e1]
      exact nx
    · rw [upd_ne e1] at h
      by_cases e2 : b = dx
      · rw [e2]
        exact ndx
      · rw [upd_ne e2] at h
        exact h
theorem Tape.fr {H H' : Hp} {t c : Addr} {n : Nat} {D D' : Addr → Prop} (h : Tape H t c n) (f : Fr D D' H H') (nt : ¬ D t) (nc : ¬ D c) : Tape H' t c n := h.stay fun b o e z => f.k b o e (by
  rcases z with rfl | rfl
  · exact nt
  · exact nc)

/-! ### followers beside one another -/
theorem FolR.ntup {H : Hp} {C : Addr} {A : FA} {D : Addr → Prop} {qs aq : List Addr} {kvs : List (Key × V)} {cs : List (List Int)} {o : List Int} {g : Int → List Nat} {tr : List Int} {rw : List (Option Int)} {pu : List Int} {ah : List (Int × Int)} {br : Option Int}
    (h : FolR H C A D qs aq kvs cs o g tr rw pu ah br) {b : Addr} (hb : D b) (xs : List V) : H b ≠ some (.tup xs) := fun z => by
  rcases (h.re.dd b).mp hb with y | ⟨m, y⟩
  · obtain ⟨u, hu, e⟩ := h.co.has y
    rw [e] at z
    cases z
    simp at hu
  · rcases h.re.hv.at_ m with ⟨e, _⟩ | ⟨l, e, hl, _⟩
    · rw [y] at e
      cases e
    · rw [y] at e
      cases e
      rw [hl] at z
      cases z
theorem Fol.beside {H H' : Hp} {C : Addr} {A B : FA} {D D' E : Addr → Prop} {cs ds : List (List Int)} {pu tr pv tv : List Int} {rw rv : List (Option Int)} {ah av : List (Int × Int)} {br bv : Option Int}
    (h : Fol H C B E ds pv tv rv av bv) (f : Fol H C A D cs pu tr rw ah br) (k : Fr D D' H H') (dis : ∀ b, D b → ¬ E b) : Fol H' C B E ds pv tv rv av bv := h.keep fun b o e z => k.k b o e fun y => by
  rcases z with z | ⟨xs, rfl⟩
  · exact dis b y z
  · obtain ⟨qs, aq, kvs, x⟩ := f
    exact x.r.ntup y xs e
theorem Fol.facts {H : Hp} {C : Addr} {A : FA} {D : Addr → Prop} {cs : List (List Int)} {pu tr : List Int} {rw : List (Option Int)} {ah : List (Int × Int)} {br : Option Int} (h : Fol H C A D cs pu tr rw ah br) :
    tr.Nodup ∧ (∀ m ∈ tr, -m ∉ tr) ∧ tr.length ≤ 900000 ∧ H A.tr = some (.lst (tr.map V.int)) ∧ H A.pu = some (.lst (pu.map V.int)) := by
  obtain ⟨qs, aq, kvs, X⟩ := h
  have lt := X.ok.small
  have lf := X.gd.fl
  have lp := X.pt.n
  exact ⟨X.ok.nd, X.ok.con, by omega, X.r.trl, X.r.pul⟩
theorem Fol.is {H : Hp} {C : Addr} {A : FA} {D : Addr → Prop} {cs : List (List Int)} {pu tr : List Int} {rw : List (Option Int)} {ah : List (Int × Int)} {br : Option Int} (h : Fol H C A D cs pu tr rw ah br) : br.isSome = true ↔ Brk cs pu := by
  cases br with
  | none => exact ⟨fun z => (by cases z), fun z => absurd z h.der.2⟩
  | some r => exact ⟨fun _ => h.brk, fun _ => rfl⟩
theorem Der.cut {cs : List (List Int)} {ps qs : List Int} (h : ∀ m ∈ qs, Der cs ps m) {x : Int} (d : Der cs qs x) : Der cs ps x := by
  induction d with
  | put hp => exact h _ hp
  | cl h1 h2 _ ih => exact .cl h1 h2 ih
theorem Brk.cut {cs : List (List Int)} {ps qs : List Int} (h : ∀ m ∈ qs, Der cs ps m) (b : Brk cs qs) : Brk cs ps := by
  obtain ⟨c, hc, z⟩ := b
  exact ⟨c, hc, fun x hx => (z x hx).cut h⟩
theorem Brk.more {cs ds : List (List Int)} {ps qs : List Int} (hc : ∀ c ∈ cs, c ∈ ds) (hp : ∀ m ∈ ps, m ∈ qs) (b : Brk cs ps) : Brk ds qs := by
  obtain ⟨c, h, z⟩ := b
  exact ⟨c, hc c h, fun x hx => (z x hx).more hc hp⟩
/-- a new follower of a list of clauses -/
theorem made_fol {C : Addr} {K : PySem.W.Frag} {H : Hp} {L x dx : Addr} {qs : List Addr} {ks : List (List Int)} {Q : VK} {E : XK} (nx : H x = none) (ndx : H dx = none) (nex : dx ≠ x) (hL : H L = some (.lst (qs.map V.ref))) (cn : qs.length = ks.length)
    (ct : ∀ (i : Nat) q c, qs[i]? = some q → ks[i]? = some c → H q = some (.tup (c.map V.int))) (gd : Good ks) (few : ∀ c ∈ ks, c.length ≤ 1000)
    (k : ∀ (H' : Hp) (A : FA) (D : Addr → Prop) (tr : List Int) (rw : List (Option Int)) (br : Option Int), A.f = x → Fol H' C A D ks [] tr rw [] br → Same H H' → (∀ b, D b → H b = none) → Q .non H') :
    spInit C K (.ref x :: ([.ref L] ++ [])) (upd (upd H dx (.own x)) x (.ins C dx [])) Q E := by
  have s1 : Same H (upd (upd H dx (.own x)) x (.ins C dx [])) := (same_new ndx).trans (same_new (by rw [upd_ne nex.symm]; exact nx))
  refine ⟨x, dx, L, qs, ks, rfl, upd_same, SqL.of (s1 _ _ hL), (ne_of_none hL nx).symm, cn, fun i q c hq hc => s1 _ _ (ct i q c hq hc), gd, few, fun H7 A D tr7 rw7 br7 eA F7 mk7 dn7 => ?_⟩
  exact k H7 A D tr7 rw7 br7 eA F7 (made_same nx ndx nex mk7) fun b hb => made_new nx ndx (dn7 b hb)
/-- sorted(..) of the same numbers -/
theorem same_sorted : ∀ {xs ys : List Int}, xs.Perm ys → xs.Pairwise (· ≤ ·) → ys.Pairwise (· ≤ ·) → xs = ys
  | [], ys, h, _, _ => (List.nil_perm.mp h).symm
  | a :: r, [], h, _, _ => absurd h.length_eq (by simp)
  | a :: r, b :: s, h, h1, h2 => by
    have p1 := List.pairwise_cons.mp h1
    have p2 := List.pairwise_cons.mp h2
    have ma : a ∈ b :: s := h.mem_iff.mp List.mem_cons_self
    have mb : b ∈ a :: r := h.mem_iff.mpr List.mem_cons_self
    have le1 : b ≤ a := by
      rcases List.mem_cons.mp ma with e | m
      · rw [e]; exact Int.le_refl _
      · exact p2.1 a m
    have le2 : a ≤ b := by
      rcases List.mem_cons.mp mb with e | m
      · rw [e]; exact Int.le_refl _
      · exact p1.1 b m
    have e : a = b := by omega
    subst e
    rw [same_sorted ((List.perm_cons a).mp h) p1.2 p2.2]
theorem ints_inj : ∀ {a b : List Int}, a.map V.int = b.map V.int → a = b
  | [], [], _ => rfl
  | [], _ :: _, h => by cases h
  | _ :: _, [], h => by cases h
  | x :: a, y :: b, h => by
    injection h with h1 h2
    injection h1 with h1
    rw [h1, ints_inj h2]
theorem eqv_lst (l : List Int) : PyData.eqv (lstD l) (lstD l) = true := SeqAt.eqv_refl _ (lay_lst l)
theorem due_perm {tr tr' ws zs : List Int} {m : Int} (n1 : tr.Nodup) (n2 : tr'.Nodup) (hw : ws.Perm tr) (hz : zs.Nodup) (iff : ∀ x, x ∈ zs ↔ x ∈ tr' ∧ x ∉ tr ∧ x ≠ m) (sub : ∀ x ∈ tr, x ∈ tr') (hm : m ∈ tr') :
    (ws ++ zs ++ (if m ∈ ws then [] else [m])).Perm tr' := by
  refine perm_of ?_ n2 fun x => ?_
  · rw [List.nodup_append, List.nodup_append]
    refine ⟨⟨(hw.nodup_iff).mpr n1, hz, fun a ha b hb e => ?_⟩, ?_, fun a ha b hb e => ?_⟩
    · subst e
      exact ((iff a).mp hb).2.1 (hw.mem_iff.mp ha)
    · split <;> simp
    · subst e
      by_cases c : m ∈ ws
      · rw [if_pos c] at hb
        cases hb
      · rw [if_neg c, List.mem_singleton] at hb
        subst hb
        rcases List.mem_append.mp ha with z | z
        · exact c z
        · exact ((iff a).mp z).2.2 rfl
  · rw [List.mem_append, List.mem_append, hw.mem_iff, iff]
    constructor
    · rintro ((z | z) | z)
      · exact sub x z
      · exact z.1
      · by_cases c : m ∈ ws
        · rw [if_pos c] at z
          cases z
        · rw [if_neg c, List.mem_singleton] at z
          rw [z]
          exact hm
    · intro z
      by_cases c1 : x ∈ tr
      · exact .inl (.inl c1)
      · by_cases c2 : x = m
        · refine .inr ?_
          rw [if_neg fun y => c1 (by rw [c2]; exact hw.mem_iff.mp y), c2]
          exact List.mem_cons_self
        · exact .inl (.inr ⟨z, c1, c2⟩)
/-- told or [] -/
def tOrL (i : Nat) : TE := fun σ H Q => ∃ v, σ[i]? = some (some v) ∧ (v = .non ∨ ∃ p zs, v = .ref p ∧ H p = some (.lst zs)) ∧
  ∀ H' N zs, Same H H' → H' N = some (.lst zs) → (v = .non ∧ zs = [] ∨ ∃ p, v = .ref p ∧ H p = some (.lst zs)) → Q (.ref N) H'
theorem pe_orL {X : Cx} {e : Expr} {i : Nat} {p2 pos : Pos} (h : PE X e (tVar i)) : PE X (.BoolOp .Or [e, .List [] p2] pos) (tOrL i) := by
  refine ⟨fun pins s σ H Q I hw => (pe_orT h (pe_one (pe_lst pa_nil))).run pins s σ H Q I ?_⟩
  obtain ⟨v, ev, hv, hQ⟩ := hw
  refine ⟨v, ev, ?_⟩
  rcases hv with rfl | ⟨p, zs, rfl, hp⟩
  · exact ⟨false, rfl, iteF ⟨by show 0 ≤ sizeLine; decide, fun N nN => hQ _ N [] (same_new nN) upd_same (.inl ⟨rfl, rfl⟩)⟩⟩
  · cases zs with
    | nil => exact ⟨false, .inl ⟨_, SqL.of hp, rfl⟩, iteF ⟨by show 0 ≤ sizeLine; decide, fun N nN => hQ _ N [] (same_new nN) upd_same (.inr ⟨p, rfl, hp⟩)⟩⟩
    | cons z r => exact ⟨true, .inl ⟨_, SqL.of hp, rfl⟩, iteT (hQ _ p (z :: r) (Same.refl _) hp (.inr ⟨p, rfl, hp⟩))⟩

theorem mem_fold {x : Int} : ∀ (b a : List Int), x ∈ b.foldl ins a ↔ x ∈ a ∨ x ∈ b
  | [], a => by simp
  | y :: r, a => by
    show x ∈ r.foldl ins (ins a y) ↔ _
    rw [mem_fold r]
    have : x ∈ ins a y ↔ x ∈ a ∨ x = y := by
      unfold ins
      by_cases h : y ∈ a
      · rw [if_pos h]
        exact ⟨.inl, fun z => z.elim id fun e => e ▸ h⟩
      · rw [if_neg h, List.mem_append, List.mem_singleton]
    rw [this, List.mem_cons, or_assoc]

/-! ### the law's own def, run where the law is asked: nothing is being shown there -/
def RunAt (P : Program) (w : World) (K : PySem.W.Frag) (mg : Str → Option Value) (base : Heap) (f : Addr) (fd : FuncData) (ps : List Str) (sp : Sp) : Prop :=
  ∀ (s : Shared) (H : Hp) (us : List Value) (vs : List V) (Q : VK) (E : XK), Env0 P w K mg base callerA [] s H → BindsTo s fd ⟨us, []⟩ (ps.zip us) → Vals vs us → sp vs H Q E → codeAny (model P w) callerA (.call (.ref f) ⟨us, []⟩) (CR CX0 [] P w H s Q E) s
section
variable {P : Program} {w : World} {K : PySem.W.Frag} {mg : Str → Option Value} {base : Heap}
theorem run_at {x qual : Str} {st : Stmt} {f : Addr} {fd : FuncData} {N ps : List Str} {k : Nat} {sp : Sp} (F : Fun K x qual st f fd) (S : FnScope N ps (defScope st)) (room : Room (k + 1) callerA) (len : ∀ vs H Q E, sp vs H Q E → vs.length = ps.length)
    (body : ∀ (cdv : Value) (s : Shared) (H : Hp) (vs : List V) (Q : VK) (E : XK), Room k (callerA.deeper (envOfC qual (defScope st) s.heap.objs.size f cdv)) → sp vs H Q E →
      ∃ t, PSs (cxOf CX0 P w K mg base N qual (defScope st) f cdv callerA [] s H E).nox (defBody st) t ∧ t { nx := fun _ H' => Q .non H', rt := Q } (start N vs) H) : RunAt P w K mg base f fd ps sp := by
  obtain ⟨oc, od, kV, doc, pm, an, cdv, ct, osl, rfl, lk, hcd⟩ := F.ex
  intro s H us vs Q E e0 hb r hsp
  have few := len _ _ _ _ hsp
  have kin : K.In s.heap := e0.mod.kin.keeps fun b o z => (e0.bs b o z).1
  have lim : s.heap.NoLimit := e0.mod.nolimit.keeps fun b o z => (e0.bs b o z).1
  have kinds : ∀ z ∈ ps.zip us, (defScope st).names.lookup z.1 = some .local ∨ ((defScope st).names.lookup z.1 = some .cell ∧ ((cellsFrom (s.heap.objs.size + 1) (defScope st).names []).lookup z.1).isSome = true) := by
    rintro ⟨n, v⟩ hz
    rcases S.par n (List.of_mem_zip hz).1 with z | z
    · exact .inl z
    · exact .inr ⟨z, PySem.W.cellsFrom_some _ _ _ (.inl z)⟩
  refine codeAny_call_function room.depth (kin _ _ lk) rfl S.co S.gen rfl (PySem.W.codeRec_of kin hcd) (hb _ _ _ _ ?_)
  refine wpAny_newFunctionEnv_cells S.kind kinds fun env he s1 z => ?_
  subst he
  refine ⟨lim.keeps z.toInCall.keep, codeAny_func ?_⟩
  obtain ⟨t, ht, hq⟩ := body cdv s H vs Q E (room.deeper _) hsp
  have I : Inv (cxOf CX0 P w K mg base N qual (defScope st) f cdv callerA [] s H E) [] (start N vs) H s1 := inv_start S room.hd e0 few r z
  refine wpAny_mono (ht.nox.run [] s1 (start N vs) H _ I hq) (fun fl s2 hs => ?_) fun e s2 hs => hs
  cases fl with
  | ret u =>
    obtain ⟨v, σ2, H2, J, rv, q⟩ := hs
    exact ⟨v, H2, J.os, J.bare, J.base, J.hok, rv, q⟩
  | next =>
    obtain ⟨σ2, H2, J, q⟩ := hs
    exact ⟨.non, H2, J.os, J.bare, J.base, J.hok, rfl, q⟩
  | brk =>
    obtain ⟨_, _, _, q⟩ := hs
    exact q.elim
  | cont =>
    obtain ⟨_, _, _, q⟩ := hs
    exact q.elim
theorem law_at {mb : Str → Option Value} {fa p : Addr} {fd : FuncData} {x : Str} {sp : Sp} {s1 : Shared} {vs : List Value} {ns : List Int}
    (kin : K.In s1.heap) (hns : s1.heap.Ns mainGlobals mg) (hb : s1.heap.Ns builtinsNs mb) (hbb : ∀ y : Str, y ≠ "__name__" → mb y = bootBuiltins y) (hlim : s1.heap.NoLimit) (hg : s1.gens = #[])
    (hp : s1.heap.get? p = some { cls := .type "list", data := .seq vs.toArray }) (hi : IntsAre vs ns) (few : ns.length ≤ sizeLine)
    (F : ∀ base : Heap, K.In base → base.Ns mainGlobals mg → RunAt P w K mg base fa fd [x] sp) (binds : ∀ (s : Shared) (u : Value), BindsTo s fd ⟨[u], []⟩ [(x, u)])
    (hsp : ∀ H : Hp, Only H → SqL K H p (ns.map V.int) → sp [.ref p] H (fun v _ => v = .bl true) fun _ _ _ => False) :
    codeAny (model P w) callerA (.call (.ref fa) ⟨[.ref p], []⟩) (fun r s2 => r = .ok (.ret (.bool true)) ∧ OldK s1.heap s2.heap ∧ s2.os = s1.os ∧ AllBare s2.gens) s1 := by
  have rv := vals_ints hi
  have core : ∀ H : Hp, Only H → SqL K H p (ns.map V.int) → HOk P w H s1.heap → (∀ b, H b ≠ none → b = p) → (H p ≠ none → K.lookup p = none) →
      codeAny (model P w) callerA (.call (.ref fa) ⟨[.ref p], []⟩) (fun r s2 => r = .ok (.ret (.bool true)) ∧ OldK s1.heap s2.heap ∧ s2.os = s1.os ∧ AllBare s2.gens) s1 := by
    intro H only seq hok one hK
    have below : ∀ {b : Addr} {o : Obj}, s1.heap.get? b = some o → H b = none → (hidT s1.heap H).get? b = some o := fun e n => hidT_get e n
    have dicts : ∀ {b : Addr} {o : Obj} {es : Array DictEntry} {ep : Nat}, s1.heap.get? b = some o → o.data = .dict es ep → H b = none := by
      intro b o es ep e d
      cases q : H b with
      | none => rfl
      | some u =>
        obtain rfl : b = p := one b (by rw [q]; simp)
        rw [hp] at e
        cases e
        cases (show Data.seq vs.toArray _ = Data.dict es ep from d)
    have spaces : ∀ {b : Addr} {m : Str → Option Value}, s1.heap.Ns b m → (hidT s1.heap H).Ns b m := by
      rintro b m ⟨o, es, ep, e, d, r⟩
      exact ⟨o, es, ep, below e (dicts e d), d, r⟩
    have kin2 : K.In (hidT s1.heap H) := fun b o e => by
      refine below (kin b o e) ?_
      cases q : H b with
      | none => rfl
      | some u =>
        obtain rfl : b = p := one b (by rw [q]; simp)
        rw [hK (by rw [q]; simp)] at e
        cases e
    have mod : Mod K mg (hidT s1.heap H) := by
      obtain ⟨mc, c1, c2⟩ := hlim
      exact ⟨kin2, spaces hns, ⟨mb, spaces hb, hbb⟩, ⟨mc, spaces c1, c2⟩⟩
    have e0 : Env0 P w K mg (hidT s1.heap H) callerA [] s1 H :=
      ⟨rfl, mod, fun b o e => of_hidT e, Nat.le_of_eq (hidT_size _ _), trivial, fun b z => absurd (show b ∈ ([] : List Addr) from z) (by simp), hok, .of_eq hg⟩
    refine codeAny_mono (F _ kin2 (spaces hns) s1 H [.ref p] [.ref p] _ _ e0 (binds s1 (.ref p)) (.cons rfl .nil) (hsp H only seq)) fun r s2 h => ?_
    cases r with
    | error e => exact h.elim
    | ok fl =>
      cases fl with
      | next => exact h.elim
      | brk => exact h.elim
      | cont => exact h.elim
      | ret u =>
        obtain ⟨v, H2, os, bare, un, hok2, rel, q⟩ := h
        obtain rfl : v = .bl true := q
        obtain rfl : u = Value.bool true := rel
        refine ⟨rfl, OldK.of_keep fun b o e => ?_, os, bare⟩
        cases q : H b with
        | none => exact un.keep b o e q (fun z => absurd (show b ∈ ([] : List Addr) from z) (by simp)) (by simp)
        | some u =>
          rcases only b with z | ⟨ob, xs, z⟩
          · rw [q] at z
            cases z
          · obtain ⟨a1, _⟩ := hok b _ z
            obtain ⟨a2, _⟩ := hok2 b _ (un.frzs b ob _ z)
            rw [e] at a1
            cases a1
            exact a2
  cases hk : K.lookup p with
  | some o =>
    have e := kin p o hk
    rw [hp] at e
    cases e
    have lv := hi.length
    refine core (fun _ => none) (fun _ => .inl rfl) (.inr ⟨_, vs.toArray, _, hk, rfl, rfl, rfl, ?_, by simpa using rv⟩) (fun b u z => ?_) (fun b z => absurd rfl z) fun z => absurd rfl z
    · rw [List.size_toArray, lv]
      exact few
    · cases (show (none : Option HO) = some u from z)
  | none =>
    refine core (fun b => if b = p then some (.frz { cls := .type "list", data := .seq vs.toArray } (.lst (ns.map V.int))) else none) (fun b => ?_) (.inl (.inr ⟨{ cls := .type "list", data := .seq vs.toArray }, if_pos rfl⟩)) (fun b u z => ?_) (fun b z => ?_) fun _ => hk
    · by_cases hb : b = p
      · exact .inr ⟨_, _, if_pos hb⟩
      · exact .inl (if_neg hb)
    · by_cases hb : b = p
      · subst hb
        cases (if_pos rfl).symm.trans z
        refine ⟨hp, ?_, vs, _, rv, hp⟩
        rw [List.length_map]
        exact few
      · cases (if_neg hb).symm.trans z
    · by_cases hb : b = p
      · exact hb
      · exact absurd (if_neg hb) z
end
theorem walk_at {l : PySem.W.OpenLaw} {n : Nat} {q : Program} {loose : List Str} {XP : (Str → Option Value) → Heap → Prop} {YP : World → Heap → Prop} {d : DefRec} {K : Params → PySem.W.Frag} {sp : World → Sp} {x : Str}
    (hn : l.most = some n) (hn2 : n ≤ sizeLine) (hdf : d.params.defaults = []) (hY : ∀ (w : World) (h : Heap), YP w h → (K w.params).In h)
    (F : ∀ (w : World) (mg : Str → Option Value) (fa : Addr) (h : Heap), (K w.params).In h → h.Ns mainGlobals mg → mg d.name = some (.ref fa) →
      ∃ fd : FuncData, (∀ (s : Shared) (u : Value), BindsTo s fd ⟨[u], []⟩ [(x, u)]) ∧ ∀ base : Heap, (K w.params).In base → base.Ns mainGlobals mg → RunAt l.prog w (K w.params) mg base fa fd [x] (sp w))
    (hsp : ∀ (w : World) (H : Hp) (a : Addr) (ns : List Int), ns.length ≤ n → Only H → SqL (K w.params) H a (ns.map V.int) → sp w [.ref a] H (fun v _ => v = .bl true) fun _ _ _ => False) :
    PySem.W.WalkO q loose XP YP l.row.toRowW d [] (fun f vs => PySem.call f vs) := by
  refine Att.attach_call hn hdf fun w s0 s1 mg mb fa o pm cd doc a vs ns G Y ho hd hcd hmg hobj hints hlen hg => ?_
  obtain ⟨fd, hb, hF⟩ := F w mg fa _ (hY w _ Y) G.T.g hmg
  exact law_at (hY w _ Y) G.T.g G.T.b G.T.builtins G.T.nolimit hg hobj hints (Nat.le_trans hlen hn2) hF hb fun H only seq => hsp w H a ns hlen only seq

/-! ### sorted(d, key=abs), d a dict of whole numbers -/
def tSortAbsD (t : TA) : TE := fun σ H Q => t σ H fun vs H1 => ∃ (a : Addr) (kvs : List (Key × V)) (ns : List Int), vs = [.ref a] ∧ H1 a = some (.dK kvs) ∧ kvs.map (·.1) = ns.map Sum.inl ∧ ∀ p, H1 p = none → Q (.ref p) (upd H1 p (.lst ((byAbs ns).map V.int)))
theorem ints_of_keys : ∀ {us : List Value} {ns : List Int}, us.length = ns.length → (∀ (j : Nat) (v : Value), us[j]? = some v → ∃ (x : Int) (t : Tok), ns[j]? = some x ∧ v = Value.int x t) → IntsAre us ns
  | [], [], _, _ => .nil
  | [], _ :: _, hl, _ => absurd hl (by simp)
  | _ :: _, [], hl, _ => absurd hl (by simp)
  | u :: us, n :: ns, hl, h => by
    obtain ⟨x, t, e1, e2⟩ := h 0 u rfl
    obtain rfl : n = x := Option.some.inj e1
    subst e2
    exact .cons _ _ (ints_of_keys (Nat.succ.inj hl) fun j v e => h (j + 1) v e)
section
variable {X : Cx}
theorem pe_sortAbsD {e : Expr} {t : TA} {p p2 kpos pos : Pos} (hcalm : X.calm = true) (hu : X.A.units + 64 < cLine) (hg : Gl X "sorted") (hm : X.mg "sorted" = none) (ha : Gl X "abs") (hma : X.mg "abs" = none) (he : PA X [e] t)
    (h1 : backTo pos (starEach [e] X.env) = (false, eval e X.env) :: backTo pos (starEach [] X.env) := by rfl) (hpl : (backTo pos (starEach [e] X.env)).any (·.1) = false := by rfl)
    (hall : (backToKw pos (keywordEach [⟨some "key", .Name "abs" p2, kpos⟩] X.env)).all (·.1.isSome) = true := by rfl) (hnone : (backToKw pos (keywordEach [⟨some "key", .Name "abs" p2, kpos⟩] X.env)).any (·.1.isNone) = false := by rfl)
    (hks : (backToKw pos (keywordEach [⟨some "key", .Name "abs" p2, kpos⟩] X.env)).filterMap (·.1) = [Str.ofString "key"] := by rfl) :
    PE X (.Call (.Name "sorted" p) [e] [⟨some "key", .Name "abs" p2, kpos⟩] pos) (tSortAbsD t) := by
  refine ⟨fun pins s σ H Q I h => ?_⟩
  refine wpAny_Call_Name_kw (ld_blt I hg hm (u := .builtin "sorted") (by decide +kernel) ?_ (by decide) (by decide))
  refine PyProof.Rows.callWith_kw (thn (he.run pos pins s σ H _ I h) fun us s1 ⟨vs, H1, I1, r1, q1⟩ => ?_) h1 hpl hall hnone
  obtain ⟨a, kvs, ns, ev, hd, hkeys, q⟩ := q1
  rw [hks]
  show wpAny _ _ (evalAll ((do let v ← eval (.Name "abs" p2) X.env; standAt pos; pure v) :: [])) _ _ s1
  refine wpAny_evalAll_cons (wpAny_bind (ld_blt I1 ha hma (u := .builtin "abs") (by decide +kernel) (wpAny_bind (wpAny_standAt (wpAny_pure ?_))) (by decide) (by decide)))
  refine wpAny_evalAll_nil ?_
  subst ev
  obtain rfl := Vals.ref1 r1
  obtain ⟨lo, nsys, ws, rel, dd⟩ := dk_of I1.hok hd
  obtain ⟨ep, hat⟩ := dd.dictAt
  have hk2 : ws.map (·.1) = ns.map Sum.inl := rel.keys.symm.trans hkeys
  have lws : ws.length = ns.length := by
    have z := congrArg List.length hk2
    rw [List.length_map, List.length_map] at z
    exact z
  have few : ns.length ≤ sizeLine := by
    have z := congrArg List.length hkeys
    rw [List.length_map, List.length_map] at z
    omega
  refine call_function_entry_kw kind_sorted plain_sorted entry_sorted (ksk_s1 _ _) ?_
  unfold Builtin.«sorted»
  refine wpAny_bind (m := checkCount "sorted" 1 1 _) (wpAny_pure ?_)
  refine wpAny_bind (PySem.W.kdu_collect (A := X.A.in1) (PySem.W.kdl_dict (knd := mixKind X.prog X.w) (kvs := ws) (ep := ep) nsys) (I1.ok.hd hcalm) hat (by omega) fun h2 tk2 acc hk hacc => ?_)
  have la : acc.toList.length = ns.length := by rw [Array.length_toList, hacc.1, lws]
  have hS : IntsAre acc.toList ns := ints_of_keys la fun j v ej => by
    obtain ⟨ky, x, e1, e2⟩ := hacc.2 j v (by rw [← Array.getElem?_toList]; exact ej)
    have e3 : (ws.map (·.1))[j]? = some ky := by
      rw [List.getElem?_map, e1]
      rfl
    rw [hk2, List.getElem?_map] at e3
    cases e4 : ns[j]? with
    | none =>
      rw [e4] at e3
      cases e3
    | some y =>
      rw [e4] at e3
      obtain rfl : Sum.inl y = ky := Option.some.inj e3
      rcases keyIs_shape (show keyIs (Sum.inl y) v = true from e2) with ⟨i, u, ek, eu⟩ | ⟨z, u, ek, eu⟩
      · cases ek
        exact ⟨y, u, rfl, eu⟩
      · cases ek
  have I2 : Inv X pins σ H1 { s1 with heap := h2, toks := tk2 } := I1.kept hk
  refine wpAny_bind (wpAny_newList ?_ (by omega))
  have hL : (h2.push (seqObj "list" acc.toList.toArray 0)).get? h2.objs.size = some (seqObj "list" acc.toList.toArray 0) := Heap.get?_push_size _ rfl
  show wpAny _ _ _ _ _ { s1 with heap := h2.push (seqObj "list" acc.toList.toArray 0), toks := tk2 }
  refine wpAny_bind (wpAny_holding (wpAny_call_entry_kw slot_list_sort ⟨_, hL, rfl⟩ entry_list_sort ?body (ksk_l1 _ _)))
  case body =>
    show wpAny _ X.A.in1.in1 (Builtin.«list.sort» ⟨[.ref h2.objs.size], _⟩) _ _ _
    have e0 := each_ints hS
    have tree : Builtin.«list.sort» ⟨[.ref h2.objs.size], [Str.ofString "key"].zip [Value.builtin "abs"]⟩ = ksk_tree h2.objs.size (.builtin "abs") false := ksk_t4 "abs" h2.objs.size
    refine Eq.mpr (congrArg (fun m => wpAny _ X.A.in1.in1 m _ _ _) tree) ?_
    refine PySem.W.keyH_tree (kz := ns.map fun z => PyData.int (if z < 0 then -z else z)) (s := { s1 with heap := h2.push (seqObj "list" acc.toList.toArray 0), toks := tk2 }) hL (by rw [List.length_map, la]) (by omega) (PySem.W.AllAlike.of fun _ _ => by simp [PySem.W.alike]) (PySem.W.Sortable.others fun _ => ⟨by simp, by simp⟩) (fun d hd => ?_)
      (PySem.W.keyH_turns (s := { s1 with heap := h2.push (seqObj "list" acc.toList.toArray 0), toks := tk2 }) e0 fun v x hv hx h3 tk3 k3 => ?_) fun h3 tk3 out c k3 hD ko => ⟨_, rfl, wpAny_pure ⟨_, rfl, ?_⟩⟩
    · obtain ⟨x', _, rfl⟩ := List.mem_map.mp hd
      have z : (PyData.int (if x' < 0 then -x' else x')).depth = 0 := rfl
      rw [z]
      show X.A.units + 1 + 1 + 0 < cLine
      omega
    · obtain ⟨t', rfl⟩ := hv
      exact call_abs_int fun u tk' => ⟨h3, tk', rfl, fun _ _ z => z, .int _ _⟩
    · have eo := PySem.W.keyedOut_each _ ko e0
      rw [PySem.W.dataLe_int] at eo
      have rv2 : Vals ((byAbs ns).map V.int) out := vals_each eo
      have hlen : ((byAbs ns).map V.int).length ≤ sizeLine := by
        rw [List.length_map]
        unfold byAbs
        rw [List.length_mergeSort]
        exact few
      exact ⟨.ref _, upd H1 h2.objs.size (.lst ((byAbs ns).map V.int)), I2.laid (t' := tk3) (fun b u z => k3 b u (Nat.ne_of_lt (Heap.lt_size z)) (Heap.get?_push_of_some _ z)) (Nat.le_refl _) ⟨hlen, out, c, rv2, hD⟩, rfl, q _ (I2.hok.fresh (Nat.le_refl _))⟩
end

/-! ### promises that hold where nothing is being shown -/
structure FnG (P : Program) (w : World) (K : PySem.W.Frag) (mg : Str → Option Value) (base : Heap) (k : Nat) (f : Addr) (fd : FuncData) (ps : List Str) (sp : Sp) : Prop where
  len : ∀ vs H Q E, sp vs H Q E → vs.length = ps.length
  run : ∀ (A : Around) (out : List Env) (s : Shared) (H : Hp) (us : List Value) (vs : List V) (Q : VK) (E : XK), Room k A → A.guards = some [] → Env0 P w K mg base A out s H → BindsTo s fd ⟨us, []⟩ (ps.zip us) → Vals vs us → sp vs H Q E →
    codeAny (model P w) A (.call (.ref f) ⟨us, []⟩) (CR CX0 out P w H s Q E) s
structure HasG (P : Program) (w : World) (K : PySem.W.Frag) (mg : Str → Option Value) (base : Heap) (k : Nat) (x : Str) (ps : List Str) (sp : Sp) : Prop where
  ex : ∃ f fd, mg x = some (.ref f) ∧ PySem.W.keepIn K (.ref f) = true ∧ Binds K fd ps [] ∧ FnG P w K mg base k f fd ps sp
section
variable {P : Program} {w : World} {K : PySem.W.Frag} {mg : Str → Option Value} {base : Heap}
theorem fnG {x qual : Str} {st : Stmt} {f : Addr} {fd : FuncData} {N ps : List Str} {k : Nat} {sp : Sp} (F : Fun K x qual st f fd) (S : FnScope N ps (defScope st)) (len : ∀ vs H Q E, sp vs H Q E → vs.length = ps.length)
    (body : ∀ (cdv : Value) (A : Around) (out : List Env) (s : Shared) (H : Hp) (vs : List V) (Q : VK) (E : XK), Room k (A.deeper (envOfC qual (defScope st) s.heap.objs.size f cdv)) → (A.deeper (envOfC qual (defScope st) s.heap.objs.size f cdv)).guards = some [] → sp vs H Q E →
      ∃ t, PSs (cxOf CX0 P w K mg base N qual (defScope st) f cdv A out s H E).nox (defBody st) t ∧ t { nx := fun _ H' => Q .non H', rt := Q } (start N vs) H) : FnG P w K mg base (k + 1) f fd ps sp := by
  obtain ⟨oc, od, kV, doc, pm, an, cdv, ct, osl, rfl, lk, hcd⟩ := F.ex
  refine ⟨len, fun A out s H us vs Q E room calm e0 hb r hsp => ?_⟩
  have few := len _ _ _ _ hsp
  have kin : K.In s.heap := e0.mod.kin.keeps fun b o z => (e0.bs b o z).1
  have lim : s.heap.NoLimit := e0.mod.nolimit.keeps fun b o z => (e0.bs b o z).1
  have kinds : ∀ z ∈ ps.zip us, (defScope st).names.lookup z.1 = some .local ∨ ((defScope st).names.lookup z.1 = some .cell ∧ ((cellsFrom (s.heap.objs.size + 1) (defScope st).names []).lookup z.1).isSome = true) := by
    rintro ⟨n, v⟩ hz
    rcases S.par n (List.of_mem_zip hz).1 with z | z
    · exact .inl z
    · exact .inr ⟨z, PySem.W.cellsFrom_some _ _ _ (.inl z)⟩
  refine codeAny_call_function room.depth (kin _ _ lk) rfl S.co S.gen rfl (PySem.W.codeRec_of kin hcd) (hb _ _ _ _ ?_)
  refine wpAny_newFunctionEnv_cells S.kind kinds fun env he s1 z => ?_
  subst he
  refine ⟨lim.keeps z.toInCall.keep, codeAny_func ?_⟩
  obtain ⟨t, ht, hq⟩ := body cdv A out s H vs Q E (room.deeper _) calm hsp
  have I : Inv (cxOf CX0 P w K mg base N qual (defScope st) f cdv A out s H E) [] (start N vs) H s1 := inv_start S room.hd e0 few r z
  refine wpAny_mono (ht.nox.run [] s1 (start N vs) H _ I hq) (fun fl s2 hs => ?_) fun e s2 hs => hs
  cases fl with
  | ret u =>
    obtain ⟨v, σ2, H2, J, rv, q⟩ := hs
    exact ⟨v, H2, J.os, J.bare, J.base, J.hok, rv, q⟩
  | next =>
    obtain ⟨σ2, H2, J, q⟩ := hs
    exact ⟨.non, H2, J.os, J.bare, J.base, J.hok, rfl, q⟩
  | brk =>
    obtain ⟨_, _, _, q⟩ := hs
    exact q.elim
  | cont =>
    obtain ⟨_, _, _, q⟩ := hs
    exact q.elim
theorem has_ofG {x : Str} {st : Stmt} {N ps : List Str} {k : Nat} {sp : Sp} (A : At K mg x st) (S : FnScope N ps (defScope st)) (B : BindsAll x st ps) (len : ∀ vs H Q E, sp vs H Q E → vs.length = ps.length)
    (body : ∀ (f : Addr) (cdv : Value) (A : Around) (out : List Env) (s : Shared) (H : Hp) (vs : List V) (Q : VK) (E : XK), Room k (A.deeper (envOfC x (defScope st) s.heap.objs.size f cdv)) → (A.deeper (envOfC x (defScope st) s.heap.objs.size f cdv)).guards = some [] → sp vs H Q E →
      ∃ t, PSs (cxOf CX0 P w K mg base N x (defScope st) f cdv A out s H E).nox (defBody st) t ∧ t { nx := fun _ H' => Q .non H', rt := Q } (start N vs) H) : HasG P w K mg base (k + 1) x ps sp := by
  obtain ⟨f, fd, hm, F⟩ := A.ex
  exact ⟨f, fd, hm, F.kp, F.binds B, fnG F S len fun cdv A out s H vs Q E hr hg h => body f cdv A out s H vs Q E hr hg h⟩
theorem FnG.at_ {f : Addr} {fd : FuncData} {ps : List Str} {k : Nat} {sp : Sp} (G : FnG P w K mg base k f fd ps sp) (room : Room k callerA) : RunAt P w K mg base f fd ps sp :=
  fun s H us vs Q E e0 hb r hsp => G.run callerA [] s H us vs Q E room rfl e0 hb r hsp
end
section
variable {X : Cx} {k : Nat} {x : Str} {ps : List Str} {sp : Sp} {e : Expr} {es : List Expr} {t : TA} {p pos : Pos}
theorem pe_hasG (h : HasG X.prog X.w X.K X.mg X.base k x ps sp) (hr : Room k X.A) (hgd : X.A.guards = some []) (hg : Gl X x) (ha : PA X (e :: es) t)
    (hdb : (x == ("__debug__" : Str)) = false := by decide) (he : starEach (e :: es) X.env = (false, eval e X.env) :: starEach es X.env := by rfl) (hpl : (backTo pos (starEach es X.env)).any (·.1) = false := by rfl) :
    PE X (.Call (.Name x p) (e :: es) [] pos) (tCall sp [] E0 t) := by
  obtain ⟨f, fd, hm, hk, hb, F⟩ := h.ex
  refine ⟨fun pins s σ H Q I hw => ?_⟩
  refine wpAny_Call_Name_kw (ld_glob I hg hm ?_ hdb)
  refine PySem.W.callWith_K (h₀ := X.base) I.ok.mod.kin hk (thn (ha.run pos pins s σ H _ I hw) fun us s1 ⟨vs, H1, I1, r1, q⟩ => ⟨I1.kIn, ?_⟩) he hpl
  have q : sp vs H1 Q E0 := by
    have z : sp (vs ++ []) H1 Q E0 := q
    rwa [List.append_nil] at z
  have bd := hb s1 us I1.kIn (by rw [List.append_nil, ← r1.length]; exact F.len _ _ _ _ q)
  rw [List.append_nil] at bd
  refine wpAny_call (codeAny_mono (F.run X.A X.stack s1 H1 us vs Q E0 hr hgd I1.env0 bd r1 q) fun r s2 hq => ?_)
  cases r with
  | error e => exact pass0 pins σ H1 s1 e s2 I1 hq
  | ok fl =>
    cases fl with
    | ret u => exact I1.after hq
    | next => exact hq.elim
    | brk => exact hq.elim
    | cont => exact hq.elim
end
/-! ### repr of None, of a whole number, of a list -/
structure Showy (x : PyData) : Prop where
  s : x.showable = true
  n : x.hasDict = false
  d : x.depth ≤ 60
  l : x.shown.length ≤ sizeLine
theorem call_reprV {X : Cx} (hgd : X.A.guards = some []) (hu : X.A.units + 64 < cLine) : CallR X (.builtin "repr") (fun xs H Q => (xs = [.non] ∧ Q (.str "None") H) ∨ (∃ i, xs = [.int i] ∧ i.natAbs.log2 < 1920 ∧ Q (.str (toString i)) H) ∨
    ∃ a d, xs = [.ref a] ∧ Dp X.K H (.ref a) d ∧ Showy d ∧ Q (.str d.shown) H) := by
  intro pins s σ H xs us Q I r h
  rcases h with ⟨rfl, q⟩ | ⟨i, rfl, hi, q⟩ | ⟨a, d, rfl, hd, sh, q⟩
  · obtain ⟨u, rfl, ru⟩ := vals1 r
    cases ru
    exact PySem.P.repr_of_none ⟨.str "None", H, I.tok _, ⟨_, rfl⟩, q⟩
  · obtain ⟨u, rfl, t, rfl⟩ := vals1 r
    exact PySem.P.repr_of_int hi ⟨.str (toString i), H, I.tok _, ⟨_, rfl⟩, q⟩
  · obtain ⟨u, rfl, ru⟩ := vals1 r
    cases ru
    obtain ⟨as, rd⟩ := Dp.reads I d (.ref a) (.ref a) hd rfl
    have h3 := sh.d
    exact repr_of_reads' (s := s) rd sh.s (fun z => by rw [sh.n] at z; cases z) hgd (by omega) (fun _ _ z => z) (fun h2 u tk k => ⟨.str d.shown, H, I.kept (t' := tk) k, ⟨_, rfl⟩, q⟩) sh.l
theorem show_all : ∀ l : List Int, (∀ x ∈ l, x.natAbs < 10 ^ 13) → PyData.showableAll (l.map PyData.int) = true ∧ PyData.hasDictAll (l.map PyData.int) = false ∧ PyData.leavesShortAll 14 (l.map PyData.int) = true ∧ PyData.weightAll (l.map PyData.int) ≤ 45 * l.length
  | [], _ => ⟨rfl, rfl, rfl, Nat.le_refl _⟩
  | x :: r, h => by
    obtain ⟨a, b, c, d⟩ := show_all r fun y hy => h y (List.mem_cons_of_mem _ hy)
    have hx := h x List.mem_cons_self
    have lg : x.natAbs.log2 < 44 := PySem.Flt.log2_lt_of (by decide) (Nat.lt_trans hx (by decide))
    have sx : PyData.showable (.int x) = true := by
      rw [PyData.showable]
      exact decide_eq_true (by omega)
    have lx : PyData.leavesShort 14 (.int x) = true := by
      rw [PyData.leavesShort]
      refine decide_eq_true ?_
      show (Str.ofString (toString x)).length ≤ 14
      rw [PySem.ofString_length]
      exact int_text_length_le10 (k := 13) (by decide) hx
    refine ⟨?_, ?_, ?_, ?_⟩
    · rw [List.map_cons, PyData.showableAll, a, sx]
      rfl
    · rw [List.map_cons, PyData.hasDictAll, b, PyData.hasDict]
      rfl
    · rw [List.map_cons, PyData.leavesShortAll, c, lx]
      rfl
    · rw [List.map_cons, PyData.weightAll, PyData.weight, List.length_cons]
      split <;> omega
theorem show_lst {l : List Int} (h : ∀ x ∈ l, x.natAbs < 10 ^ 13) (few : l.length ≤ 20000) : Showy (lstD l) := by
  obtain ⟨a, b, c, d⟩ := show_all l h
  refine ⟨?_, ?_, Nat.le_trans (dep_lst l) (by decide), ?_⟩
  · unfold lstD
    rw [PyData.showable]
    exact a
  · unfold lstD
    rw [PyData.hasDict]
    exact b
  · have z := PyData.shown_le 14 (by decide) (lstD l) (by unfold lstD; rw [PyData.leavesShort]; exact c)
    have w : (lstD l).weight ≤ 45 * l.length := by
      unfold lstD
      rw [PyData.weight]
      exact d
    have e : sizeLine = 16777216 := sizeLine_eq
    omega

/-! ### a reading told more shortly -/
theorem pt_wk {X : Cx} {e : Expr} {t : TT} (u : TT) (h : PT X e t) (hw : ∀ σ H R, u σ H R → t σ H R) : PT X e u := ⟨fun pins s σ H Q I hq => h.run pins s σ H Q I (hw σ H Q hq)⟩
theorem ps_or2 {X : Cx} {st : Stmt} {t u : TS} (h : PS X st t) (h2 : PS X st u) : PS X st (fun D σ H => t D σ H ∨ u D σ H) := ⟨fun pins s σ H D I rd => rd.elim (fun z => h.run pins s σ H D I z) fun z => h2.run pins s σ H D I z⟩
/-- a or b, a a dict, frozen or not -/
def tOrD (ta tb : TE) : TE := fun σ H Q => ta σ H fun x H1 => ∃ (a : Addr) (kvs : List (Key × V)), x = .ref a ∧ Rd H1 a (.dK kvs) ∧ if kvs.isEmpty = true then tb σ H1 Q else Q x H1
theorem pe_orD {X : Cx} {a b : Expr} {ta tb : TE} {rest : List Expr} {pos : Pos} (ha : PE X a ta) (hb : PE X (.BoolOp .Or (b :: rest) pos) tb) : PE X (.BoolOp .Or (a :: b :: rest) pos) (tOrD ta tb) := by
  refine ⟨fun pins s σ H Q I h => BoolOp_or (thn (ha.run pins s σ H _ I h) fun v s1 z => ?_)⟩
  obtain ⟨x, H1, I1, rx, d, kvs, rfl, rd, q⟩ := z
  cases rx
  refine d_truth I1 rd fun s' I' => ?_
  cases e : kvs.isEmpty with
  | true =>
    rw [e, if_pos rfl] at q
    rw [Bool.not_true, if_neg Bool.false_ne_true]
    exact hb.run pins s' σ H1 Q I' q
  | false =>
    rw [e, if_neg Bool.false_ne_true] at q
    rw [Bool.not_false, if_pos rfl]
    exact ⟨.ref d, H1, I', rfl, q⟩

/-! ### repr of a list of clauses -/
def lstT (cs : List (List Int)) : PyData := .list (cs.map tupD)
theorem dp_lstT {K : PySem.W.Frag} {H : Hp} {a : Addr} {qs : List Addr} {cs : List (List Int)} (h : H a = some (.lst (qs.map V.ref))) (n : qs.length = cs.length) (t : ∀ (i : Nat) q c, qs[i]? = some q → cs[i]? = some c → H q = some (.tup (c.map V.int))) : Dp K H (.ref a) (lstT cs) := .lst (SqL.of h) (dp_tups n t)
theorem show_tups : ∀ cs : List (List Int), (∀ c ∈ cs, c.length ≤ 64 ∧ ∀ x ∈ c, x.natAbs < 10 ^ 13) → PyData.showableAll (cs.map tupD) = true ∧ PyData.hasDictAll (cs.map tupD) = false ∧ PyData.leavesShortAll 14 (cs.map tupD) = true ∧ PyData.weightAll (cs.map tupD) ≤ 2881 * cs.length
  | [], _ => ⟨rfl, rfl, rfl, Nat.le_refl _⟩
  | c :: r, h => by
    obtain ⟨a, b, e, d⟩ := show_tups r fun y hy => h y (List.mem_cons_of_mem _ hy)
    obtain ⟨hc, hx⟩ := h c List.mem_cons_self
    obtain ⟨a1, b1, e1, d1⟩ := show_all c hx
    refine ⟨?_, ?_, ?_, ?_⟩
    · rw [List.map_cons, PyData.showableAll, a]
      unfold tupD
      rw [PyData.showable, a1]
      rfl
    · rw [List.map_cons, PyData.hasDictAll, b]
      unfold tupD
      rw [PyData.hasDict, b1]
      rfl
    · rw [List.map_cons, PyData.leavesShortAll, e]
      unfold tupD
      rw [PyData.leavesShort, e1]
      rfl
    · rw [List.map_cons, PyData.weightAll]
      have w : (tupD c).weight ≤ 45 * c.length := by
        unfold tupD
        rw [PyData.weight]
        exact d1
      rw [List.length_cons]
      omega
theorem show_lstT {cs : List (List Int)} (h : ∀ c ∈ cs, c.length ≤ 64 ∧ ∀ x ∈ c, x.natAbs < 10 ^ 13) (few : cs.length ≤ 300) : Showy (lstT cs) := by
  obtain ⟨a, b, c, d⟩ := show_tups cs h
  have dd := dep_tups cs
  refine ⟨?_, ?_, ?_, ?_⟩
  · unfold lstT
    rw [PyData.showable]
    exact a
  · unfold lstT
    rw [PyData.hasDict]
    exact b
  · unfold lstT
    rw [PyData.depth]
    omega
  · have z := PyData.shown_le 14 (by decide) (lstT cs) (by unfold lstT; rw [PyData.leavesShort]; exact c)
    have w : (lstT cs).weight ≤ 2881 * cs.length := by
      unfold lstT
      rw [PyData.weight]
      exact d
    have e : sizeLine = 16777216 := sizeLine_eq
    omega

/-! ### lists of clauses as data -/
theorem lay_lstT (cs : List (List Int)) : (lstT cs).canLay0 = true := by
  unfold lstT
  rw [PyData.canLay0]
  exact lay_tups cs
theorem dep_lstT (cs : List (List Int)) : (lstT cs).depth ≤ 2 := by
  have := dep_tups cs
  unfold lstT
  rw [PyData.depth]
  omega
theorem shape_lstT (cs : List (List Int)) : SeqAt.shaped (lstT cs) = true := by
  unfold SeqAt.shaped
  rw [lay_lstT, decide_eq_true (Nat.le_trans (dep_lstT cs) (by decide))]
  rfl
theorem eqv_lstT (cs : List (List Int)) : PyData.eqv (lstT cs) (lstT cs) = true := SeqAt.eqv_refl _ (lay_lstT cs)

/-! ### what the law's own steps tell, beside a follower -/
theorem Fol.len {H : Hp} {C : Addr} {A : FA} {D : Addr → Prop} {cs : List (List Int)} {pu tr : List Int} {rw : List (Option Int)} {ah : List (Int × Int)} {br : Option Int} (h : Fol H C A D cs pu tr rw ah br) : tr.length ≤ pu.length + cs.flatten.length := by
  obtain ⟨qs, aq, kvs, X⟩ := h
  exact X.ok.small
theorem Fol.justD {H : Hp} {C : Addr} {A : FA} {D : Addr → Prop} {cs : List (List Int)} {pu tr : List Int} {rw : List (Option Int)} {ah : List (Int × Int)} {br : Option Int} (h : Fol H C A D cs pu tr rw ah br) : ∀ x ∈ tr, Der cs pu x := by
  obtain ⟨qs, aq, kvs, X⟩ := h
  exact fun x hx => X.ok.just.der hx
theorem Fol.ntup {H : Hp} {C : Addr} {A : FA} {D : Addr → Prop} {cs : List (List Int)} {pu tr : List Int} {rw : List (Option Int)} {ah : List (Int × Int)} {br : Option Int} (h : Fol H C A D cs pu tr rw ah br) {b : Addr} (hb : D b) (xs : List V) : H b ≠ some (.tup xs) := by
  obtain ⟨qs, aq, kvs, X⟩ := h
  exact X.r.ntup hb xs
theorem Cs.fr {H H' : Hp} {C a : Addr} {A : FA} {D D' : Addr → Prop} {cs ks : List (List Int)} {qs : List Addr} {pu tr : List Int} {rw : List (Option Int)} {ah : List (Int × Int)} {br : Option Int}
    (h : Cs H a qs ks) (F : Fol H C A D cs pu tr rw ah br) (f : Fr D D' H H') (na : ¬ D a) : Cs H' a qs ks :=
  ⟨f.k _ _ h.l na, h.n, fun i q c hq hc => f.k _ _ (h.t i q c hq hc) fun z => F.ntup z _ (h.t i q c hq hc)⟩
theorem Der.lim {cs : List (List Int)} {ps : List Int} {B : Nat} (hp : ∀ y ∈ ps, y.natAbs ≤ B) (hc : ∀ c ∈ cs, ∀ y ∈ c, y.natAbs ≤ B) {x : Int} (h : Der cs ps x) : x.natAbs ≤ B := by
  cases h with
  | put z => exact hp _ z
  | cl h1 h2 _ => exact hc _ h1 _ h2
theorem ClM.lim {ms c : List Int} (h : ClM ms c) (u : Un ms) {x : Int} (hx : x ∈ c) : x.natAbs ≤ 10 ^ 12 := by
  obtain ⟨y, hy, e⟩ := h.sub x hx
  have := u.lim y hy
  omega

/-! ### two followers of the same clauses, told the same -/
def abV : V → V
  | .int m => .int (ab m)
  | x => x
def newV (pu : List Int) : V → Bool
  | .int m => !decide (m.natAbs ∈ nas pu)
  | _ => false
theorem ab_nat (m : Int) : ab m = (m.natAbs : Int) := by
  unfold ab
  split <;> omega
theorem ab_mem {y : Int} {pu : List Int} : ab y ∈ pu.map ab ↔ y.natAbs ∈ nas pu := by
  unfold nas
  rw [List.mem_map, List.mem_map]
  constructor
  · rintro ⟨x, hx, e⟩
    rw [ab_nat, ab_nat] at e
    exact ⟨x, hx, by omega⟩
  · rintro ⟨x, hx, e⟩
    exact ⟨x, hx, by rw [ab_nat, ab_nat, e]⟩
theorem map_abV (pu : List Int) : (pu.map V.int).map abV = (pu.map ab).map V.int := by
  rw [List.map_map, List.map_map]
  rfl
theorem Fol.known {H : Hp} {C : Addr} {A : FA} {D : Addr → Prop} {ks : List (List Int)} {pu tr : List Int} {rw : List (Option Int)} {ah : List (Int × Int)} {br : Option Int} (h : Fol H C A D ks pu tr rw ah br) {b : Addr} (hb : D b) : ∃ o, H b = some o := by
  obtain ⟨_, _, _, X⟩ := h
  exact X.r.known hb
theorem told_same {H1 H2 H3 H4 : Hp} {C : Addr} {A B : FA} {D D' DB DB' : Addr → Prop} {ks : List (List Int)} {pu tr0 tr tv0 tv : List Int} {rw rv : List (Option Int)} {ah av : List (Int × Int)} {br bv m : Option Int} {v u : V} {Hx Hy : Hp}
    (F : Fol Hx C A D' ks pu tr rw ah br) (G : Fol Hy C B DB' ks pu tv rv av bv) (e0 : ∀ x, x ∈ tr0 ↔ x ∈ tv0) (a : Told H1 H2 D tr0 tr m br v) (b : Told H3 H4 DB tv0 tv m bv u) :
    (v = .non ∧ u = .non ∧ br ≠ none ∧ bv ≠ none) ∨ (br = none ∧ bv = none ∧ ∃ p q zs, v = .ref p ∧ u = .ref q ∧ H2 p = some (.lst ((byAbs zs).map V.int)) ∧ H4 q = some (.lst ((byAbs zs).map V.int)) ∧ zs.Nodup ∧ ∀ x ∈ zs, x ∈ tr) := by
  have i1 := F.is
  have i2 := G.is
  rcases a with ⟨r, rfl, rfl⟩ | ⟨rfl, p, zs, rfl, nw⟩
  · rcases b with ⟨r2, rfl, rfl⟩ | ⟨rfl, q, ys, rfl, nw2⟩
    · exact .inl ⟨rfl, rfl, by simp, by simp⟩
    · exact absurd (i2.mpr (i1.mp rfl)) (by simp)
  · rcases b with ⟨r2, rfl, rfl⟩ | ⟨rfl, q, ys, rfl, nw2⟩
    · exact absurd (i1.mpr (i2.mp rfl)) (by simp)
    · have e : byAbs ys = byAbs zs := byAbs_eq nw2.nd nw.nd nw2.con fun x => by rw [nw.iff, nw2.iff, F.der.1, G.der.1, e0]
      exact .inr ⟨rfl, rfl, p, q, zs, rfl, rfl, nw.hp, by rw [← e]; exact nw2.hp, nw.nd, fun x hx => ((nw.iff x).mp hx).1⟩
/-- what stands between two turns -/
structure S8 (H : Hp) (C : Addr) (A B : FA) (D DB : Addr → Prop) (t c S Z : Addr) (qd : List Addr) (ds : List (List Int)) (ys ms : List Int) (n : Nat) (ks : List (List Int)) (pu tr : List Int) (rw : List (Option Int)) (ah : List (Int × Int)) (br : Option Int) (tv : List Int) (rv : List (Option Int)) (av : List (Int × Int)) (bv : Option Int) : Prop where
  a : Fol H C A D ks pu tr rw ah br
  b : Fol H C B DB ks pu tv rv av bv
  dis : ∀ b, D b → ¬ DB b
  cS : Cs H S qd ds
  nS : ¬ D S ∧ ¬ DB S
  hZ : H Z = some (.lst (ys.map V.int))
  nZ : ¬ D Z ∧ ¬ DB Z
  ne : Z ≠ S
  tp : Tape H t c n
  nt : ¬ D t ∧ ¬ DB t
  nc : ¬ D c ∧ ¬ DB c
  cs : S ≠ c
  w : ∀ c ∈ ks ++ ds, c.length ≤ 5 ∧ ClM ms c
  few : ks.length + ds.length ≤ 40
  pn : (nas pu).Nodup
  ps : ∀ x ∈ nas pu, x ∈ nas ms
section
variable {H H1 H2 : Hp} {C : Addr} {A B : FA} {D DB D' DB' : Addr → Prop} {t c S Z : Addr} {qd : List Addr} {ds : List (List Int)} {ys ms : List Int} {n : Nat} {ks ks' : List (List Int)} {pu pu' tr tr' : List Int} {rw rw' : List (Option Int)} {ah ah' : List (Int × Int)} {br br' : Option Int} {tv tv' : List Int} {rv rv' : List (Option Int)} {av av' : List (Int × Int)} {bv bv' : Option Int}
theorem S8.same (g : S8 H C A B D DB t c S Z qd ds ys ms n ks pu tr rw ah br tv rv av bv) (s : Same H H1) : S8 H1 C A B D DB t c S Z qd ds ys ms n ks pu tr rw ah br tv rv av bv :=
  ⟨g.a.same s, g.b.same s, g.dis, g.cS.same s, g.nS, s _ _ g.hZ, g.nZ, g.ne, g.tp.same s, g.nt, g.nc, g.cs, g.w, g.few, g.pn, g.ps⟩
theorem S8.kp {m : Nat} (g : S8 H C A B D DB t c S Z qd ds ys ms n ks pu tr rw ah br tv rv av bv) (k : Kp t H H1) (tp : Tape H1 t c m) : S8 H1 C A B D DB t c S Z qd ds ys ms m ks pu tr rw ah br tv rv av bv :=
  ⟨g.a.kp g.tp g.nt.1 k, g.b.kp g.tp g.nt.2 k, g.dis, g.tp.cs g.cS k, g.nS, g.tp.sq g.hZ k, g.nZ, g.ne, tp, g.nt, g.nc, g.cs, g.w, g.few, g.pn, g.ps⟩
theorem S8.eb (g : S8 H C A B D DB t c S Z qd ds ys ms n ks pu tr rw ah br tv rv av bv) : br.isSome = bv.isSome := by
  have a := g.a.is
  have b := g.b.is
  cases br with
  | none =>
    cases bv with
    | none => rfl
    | some r => exact absurd (a.mpr (b.mp rfl)) (by simp)
  | some r =>
    cases bv with
    | none => exact absurd (b.mpr (a.mp rfl)) (by simp)
    | some r => rfl
theorem S8.lp (g : S8 H C A B D DB t c S Z qd ds ys ms n ks pu tr rw ah br tv rv av bv) (l : ms.length ≤ 12) : pu.length ≤ 12 := by
  have := nodup_le g.pn g.ps
  unfold nas at this
  rw [List.length_map, List.length_map] at this
  omega
theorem S8.trs (g : S8 H C A B D DB t c S Z qd ds ys ms n ks pu tr rw ah none tv rv av bv) (e : bv = none) : ∀ x, x ∈ tr ↔ x ∈ tv := fun x => by
  subst e
  rw [g.a.der.1, g.b.der.1]
/-- a deed of both -/
theorem S8.step (g : S8 H C A B D DB t c S Z qd ds ys ms n ks pu tr rw ah br tv rv av bv) (F : Fol H1 C A D' ks' pu' tr' rw' ah' br') (f : Fr D D' H H1) (m : ∀ b, D b → D' b) (G : Fol H2 C B DB' ks' pu' tv' rv' av' bv') (f2 : Fr DB DB' H1 H2) (m2 : ∀ b, DB b → DB' b)
    (w : ∀ c ∈ ks' ++ ds, c.length ≤ 5 ∧ ClM ms c) (few : ks'.length + ds.length ≤ 40) (pn : (nas pu').Nodup) (ps : ∀ x ∈ nas pu', x ∈ nas ms) : S8 H2 C A B D' DB' t c S Z qd ds ys ms n ks' pu' tr' rw' ah' br' tv' rv' av' bv' := by
  have G1 := g.b.beside g.a f g.dis
  have out1 : ∀ b o, H b = some o → ¬ D b → ¬ D' b := fun b o e n z => by
    rcases f.d b z with y | y
    · exact n y
    · rw [e] at y
      cases y
  have out2 : ∀ b o, H1 b = some o → ¬ DB b → ¬ DB' b := fun b o e n z => by
    rcases f2.d b z with y | y
    · exact n y
    · rw [e] at y
      cases y
  have dis1 : ∀ b, DB b → ¬ D' b := fun b z y => by
    obtain ⟨o, e⟩ := g.b.known z
    exact out1 b o e (fun x => g.dis b x z) y
  have dis2 : ∀ b, D' b → ¬ DB' b := fun b z y => by
    obtain ⟨o, e⟩ := F.known z
    exact out2 b o e (fun x => dis1 b x z) y
  have k2 : ∀ b o, H b = some o → ¬ D b → ¬ DB b → H2 b = some o ∧ ¬ D' b ∧ ¬ DB' b := fun b o e n1 n2 =>
    ⟨f2.k b o (f.k b o e n1) n2, out1 b o e n1, out2 b o (f.k b o e n1) n2⟩
  obtain ⟨ot, et⟩ := g.tp.at_t
  obtain ⟨oc, ec⟩ := g.tp.at_c
  exact ⟨F.beside G1 f2 dis1, G, dis2, (g.cS.fr g.a f g.nS.1).fr G1 f2 g.nS.2, (k2 _ _ g.cS.l g.nS.1 g.nS.2).2, (k2 _ _ g.hZ g.nZ.1 g.nZ.2).1, (k2 _ _ g.hZ g.nZ.1 g.nZ.2).2, g.ne, (g.tp.fr f g.nt.1 g.nc.1).fr f2 g.nt.2 g.nc.2, (k2 _ _ et g.nt.1 g.nt.2).2, (k2 _ _ ec g.nc.1 g.nc.2).2, g.cs, w, few, pn, ps⟩
/-- a list that is none of theirs changes -/
theorem S8.mut {p : Addr} {xs ys' : List V} (g : S8 H C A B D DB t c S Z qd ds ys ms n ks pu tr rw ah br tv rv av bv) (hp : H p = some (.lst ys')) (nD : ¬ D p) (nB : ¬ DB p) (nS : p ≠ S) (nZ : p ≠ Z) (nc : p ≠ c) : S8 (upd H p (.lst xs)) C A B D DB t c S Z qd ds ys ms n ks pu tr rw ah br tv rv av bv := by
  have k : ∀ b o, H b = some o → b ≠ p → (upd H p (.lst xs)) b = some o := fun b o e n => by
    rw [upd_ne n]
    exact e
  have kt : ∀ b zs, H b = some (.tup zs) → b ≠ p := fun b zs e => ne_of e hp (by intro z; cases z)
  refine ⟨g.a.keep fun b o e z => k b o e ?_, g.b.keep fun b o e z => k b o e ?_, g.dis, ⟨k _ _ g.cS.l nS.symm, g.cS.n, fun i q c h1 h2 => k _ _ (g.cS.t i q c h1 h2) (kt _ _ (g.cS.t i q c h1 h2))⟩, g.nS, k _ _ g.hZ nZ.symm, g.nZ, g.ne, g.tp.mut (g.tp.ne_lst' hp) nc, g.nt, g.nc, g.cs, g.w, g.few, g.pn, g.ps⟩
  · rcases z with z | ⟨zs, rfl⟩
    · exact fun e => nD (e ▸ z)
    · exact kt b zs e
  · rcases z with z | ⟨zs, rfl⟩
    · exact fun e => nB (e ▸ z)
    · exact kt b zs e
end
/-- what both tell -/
def Twins (H : Hp) (D DB : Addr → Prop) (S Z c : Addr) (v u : V) : Prop := (v = .non ∧ u = .non) ∨ (∃ m : Int, v = .int m ∧ u = .int m ∧ m.natAbs < 10 ^ 13) ∨
  ∃ p q zs, v = .ref p ∧ u = .ref q ∧ H p = some (.lst (zs.map V.int)) ∧ H q = some (.lst (zs.map V.int)) ∧ Showy (lstD zs) ∧ zs.length ≤ 20000 ∧ ¬ D p ∧ ¬ DB p ∧ p ≠ S ∧ p ≠ Z ∧ p ≠ c
theorem showy_tr {H : Hp} {C : Addr} {A : FA} {D : Addr → Prop} {ks : List (List Int)} {pu tr ms zs : List Int} {rw : List (Option Int)} {ah : List (Int × Int)} {br : Option Int} (F : Fol H C A D ks pu tr rw ah br) (un : Un ms) (l : ms.length ≤ 12) (w : ∀ c ∈ ks, c.length ≤ 5 ∧ ClM ms c) (few : ks.length ≤ 100)
    (pn : (nas pu).Nodup) (ps : ∀ x ∈ nas pu, x ∈ nas ms) (hz : zs.Nodup) (sub : ∀ x ∈ zs, x ∈ tr) : Showy (lstD (byAbs zs)) ∧ (byAbs zs).length ≤ 20000 := by
  have l1 := nodup_le hz sub
  have l2 := F.len
  have l3 := flat_le (k := 5) ks fun c hc => (w c hc).1
  have l4 := nodup_le pn ps
  unfold nas at l4
  rw [List.length_map, List.length_map] at l4
  have lz := (byAbs_perm zs).length_eq
  refine ⟨show_lst (fun x hx => ?_) (by omega), by omega⟩
  have hx' := sub x ((byAbs_perm zs).mem_iff.mp hx)
  refine Nat.lt_of_le_of_lt ((F.justD x hx').lim (B := 10 ^ 12) (fun y hy => ?_) fun c hc y hy => (w c hc).2.lim un hy) (by decide)
  obtain ⟨z, hz, e⟩ := List.mem_map.mp (ps _ (List.mem_map.mpr ⟨y, hy, rfl⟩))
  have := un.lim z hz
  omega

/-! ### small bounds -/
theorem puts_lim {ms pu : List Int} (un : Un ms) (ps : ∀ x ∈ nas pu, x ∈ nas ms) : ∀ x ∈ pu, x.natAbs ≤ 10 ^ 12 := fun x hx => by
  obtain ⟨y, hy, e⟩ := List.mem_map.mp (ps _ (List.mem_map.mpr ⟨x, hx, rfl⟩))
  have := un.lim y hy
  omega
theorem flat5 {ms : List Int} {ks : List (List Int)} (w : ∀ c ∈ ks, c.length ≤ 5 ∧ ClM ms c) : ks.flatten.length ≤ 5 * ks.length := flat_le ks fun c hc => (w c hc).1
theorem wide5 {ms : List Int} {ks : List (List Int)} (w : ∀ c ∈ ks, c.length ≤ 5 ∧ ClM ms c) : ∀ c ∈ ks, c.Nodup ∧ c.length ≤ 1000 := fun c hc => ⟨(w c hc).2.nodup, Nat.le_trans (w c hc).1 (by decide)⟩
theorem snoc_ofN {α : Type} {l : List α} (h : l ≠ []) : ∃ r x, l = r ++ [x] := ⟨l.dropLast, l.getLast h, (List.dropLast_concat_getLast h).symm⟩
theorem cut_nat {xs : List V} {k : Nat} : cutV xs none (some (k : Int)) = xs.take k := by
  unfold cutV
  rw [HT.sIx_none, show HT.sIx xs.length xs.length (some (k : Int)) = min k xs.length from HT.sIx_nat _ _ k, List.drop_zero, Nat.sub_zero]
  rcases Nat.le_total k xs.length with h | h
  · rw [Nat.min_eq_left h]
  · rw [Nat.min_eq_right h, List.take_of_length_le (Nat.le_refl _), List.take_of_length_le h]

/-! ### what is told is spoilt -/
def Lists (H H' : Hp) (rs : List Addr) (n : Nat) : Prop := ∀ r ∈ rs, H r = none ∧ ∃ xs, H' r = some (.lst xs) ∧ xs.length ≤ n
theorem Lists.same {H H' H2 : Hp} {rs : List Addr} {n : Nat} (h : Lists H H' rs n) (s : Same H' H2) : Lists H H2 rs n := fun r hr => by
  obtain ⟨a, xs, e, l⟩ := h r hr
  exact ⟨a, xs, s _ _ e, l⟩
theorem Lists.le {H H' : Hp} {rs : List Addr} {n m : Nat} (h : Lists H H' rs n) (l : n ≤ m) : Lists H H' rs m := fun r hr => by
  obtain ⟨a, xs, e, z⟩ := h r hr
  exact ⟨a, xs, e, Nat.le_trans z l⟩
theorem Lists.app {H H' : Hp} {rs qs : List Addr} {n : Nat} (h : Lists H H' rs n) (k : Lists H H' qs n) : Lists H H' (rs ++ qs) n := fun r hr => by
  rcases List.mem_append.mp hr with z | z
  · exact h r z
  · exact k r z
theorem Lists.one {H H' : Hp} {r : Addr} {xs : List V} {n : Nat} (a : H r = none) (e : H' r = some (.lst xs)) (l : xs.length ≤ n) : Lists H H' [r] n := fun q hq => by
  rw [List.mem_singleton.mp hq]
  exact ⟨a, xs, e, l⟩
theorem Lists.nil {H H' : Hp} {n : Nat} : Lists H H' [] n := fun r hr => by cases hr
theorem Lists.out {H H' : Hp} {rs : List Addr} {n : Nat} (h : Lists H H' rs n) {b : Addr} (e : H' b = none) : b ∉ rs := fun z => by
  obtain ⟨_, xs, e2, _⟩ := h b z
  rw [e] at e2
  cases e2
theorem Lists.mut {H H' : Hp} {rs : List Addr} {n : Nat} (h : Lists H H' rs n) {r : Addr} {xs : List V} (l : xs.length ≤ n + 2) : Lists H (upd H' r (.lst xs)) rs (n + 2) := fun q hq => by
  obtain ⟨a, ys, e, z⟩ := h q hq
  refine ⟨a, ?_⟩
  by_cases c : q = r
  · subst c
    exact ⟨xs, upd_same, l⟩
  · exact ⟨ys, by rw [upd_ne c]; exact e, by omega⟩
theorem none_back {H H' : Hp} (s : Same H H') {b : Addr} (e : H' b = none) : H b = none := by
  cases z : H b with
  | none => rfl
  | some o =>
    rw [s b o z] at e
    cases e
def spSpoil (C : Addr) : Sp := fun vs H Q _ => ∃ (A : FA) (D : Addr → Prop) (ks : List (List Int)) (pu tr : List Int) (rw : List (Option Int)) (ah : List (Int × Int)) (br : Option Int), vs = [.ref A.f] ∧ Fol H C A D ks pu tr rw ah br ∧ (∀ c ∈ ks, c.length ≤ 5) ∧ ks.length ≤ 100 ∧ pu.length ≤ 100 ∧
  ∀ H', Same H H' → Q .non H'
section
variable {P : Program} {w : World} {K : PySem.W.Frag} {mg : Str → Option Value} {base : Heap}
theorem has_spoil {cs : Nat → Addr} (T : Top K mg cs) (h_Follower_on : HasM P w K mg base (cs 0) 2 "on" ["self"] (spOn (cs 0))) (h_Follower_shown : HasM P w K mg base (cs 0) 3 "shown" ["self", "mark"] (spShownM (cs 0)))
    (h_Follower_puts : HasM P w K mg base (cs 0) 1 "puts" ["self"] (spPutsM (cs 0))) (h_Follower_clauses : HasM P w K mg base (cs 0) 1 "clauses" ["self"] (spClsM (cs 0))) (h_Follower_is_broken : HasM P w K mg base (cs 0) 1 "is_broken" ["self"] (spIsBr (cs 0))) :
    Has P w K mg base 5 "_law_spoil" ["_law_follower"] (spSpoil (cs 0)) := by
  refine has_of T.d__law_spoil sc__law_spoil bd__law_spoil (fun vs H Q E h => ?_) (fun f cdv Ar outer s H vs Q E hr h => ?_)
  · obtain ⟨A, D, ks, pu, tr, rw, ah, br, rfl, _⟩ := h
    rfl
  · have hu := hu_of hr
    have nd := sc__law_spoil.nd
    obtain ⟨A, D, ks, pu, tr, rw, ah, br, rfl, F, w5, fk, fp, k⟩ := h
    refine ⟨_, (pss_cons (ps_set (i := 1) nd rfl (.inl rfl) (pe_lst (pa_cons (pe_hasM0 T.cl_Follower h_Follower_puts (hr.mono (by omega)) (pv 0)) (pa_cons (pe_hasM0 T.cl_Follower h_Follower_clauses (hr.mono (by omega)) (pv 0)) pa_nil))))
    (C8.pss_cut (ps_if (pt_val (pe_hasM0 T.cl_Follower h_Follower_is_broken (hr.mono (by omega)) (pv 0))) (pss_one (ps_set (i := 1) nd rfl (.inl rfl) (pe_op op_cat (pv 1) (pe_lst (pa_cons (pe_hasM T.cl_Follower h_Follower_shown (hr.mono (by omega)) (pv 0) (pa_cons pe_non pa_nil)) pa_nil))))) (pss_one (ps_set (i := 1) nd rfl (.inl rfl) (pe_op op_cat (pe_op op_cat (pv 1) (pe_lst (pa_cons (pe_hasM0 T.cl_Follower h_Follower_on (hr.mono (by omega)) (pv 0)) pa_nil))) (pe_lc (own := [("_law_mark", 3)]) (by rfl) nd (pi_list (pe_hasM0 T.cl_Follower h_Follower_on (hr.mono (by omega)) (pv 0))) (blkOk_by (own := [("_law_mark", 3)]) (N := nm__law_spoil) (sc := defScope s__law_spoil) (by decide +kernel)) (fun _ _ _ _ _ => pg_name (i := 3) nd rfl (.inl rfl)) (fun _ _ _ _ _ => pts_nil) (fun _ _ _ _ _ => (pe_hasM T.cl_Follower h_Follower_shown (hr.mono (by omega)) (pv 0) (pa_cons (pv 3) pa_nil))))))))
    (pss_one (ps_for PassesOwn.never rfl (pi_list (pv 1)) (pg_name (i := 2) nd rfl (.inl rfl))
      (pss_cons (ps_expr (pe_bm PySem.F.plainAttrs_list PySem.F.slot_list_append PySem.F.type_list_append mt_append (pv 2) (pa_cons pe_int pa_nil)))
    (pss_cons (ps_expr (pe_bm0 PySem.F.plainAttrs_list PySem.F.slot_list_reverse PySem.F.type_list_reverse mt_reverse (pv 2)))
    (pss_one (ps_expr (pe_bm PySem.F.plainAttrs_list PySem.F.slot_list_append PySem.F.type_list_append mt_append (pv 2) (pa_cons (pe_un un_neg pe_int) pa_nil)))))))))), ?_⟩
    have line : 1000000 < sizeLine := by decide
    have ai := F.ins
    obtain ⟨f1, f2, f3, f4, f5⟩ := F.facts
    have lt : tr.length ≤ 1000 := by
      have l2 := F.len
      have l3 := flat_le (k := 5) ks fun c hc => w5 c hc
      omega
    obtain ⟨qs, hcl, lq⟩ : ∃ qs : List Addr, H A.cl = some (.lst (qs.map V.ref)) ∧ qs.length = ks.length := by
      obtain ⟨qs, aq, kvs, X⟩ := id F
      exact ⟨qs, X.r.cl, X.r.re.cn⟩
    refine ⟨_, rfl, A.f, A.dx, _, rfl, ai, rfl, A, br, pu, rfl, ai, f5, fun H1 p np s1 hp => ?_⟩
    refine ⟨_, rfl, A.f, A.dx, _, rfl, s1 _ _ ai, rfl, A, br, qs, rfl, s1 _ _ ai, s1 _ _ hcl, fun H2 q nq s2 hq => ⟨by show 2 ≤ sizeLine; decide, fun S nS => ?_⟩⟩
    have s12 := s1.trans s2
    have s3 := s12.trans (same_new (o := .lst [.ref p, .ref q]) nS)
    have hS : (upd H2 S (.lst [.ref p, .ref q])) S = some (.lst ([p, q].map V.ref)) := upd_same
    have ls : Lists H (upd H2 S (.lst [.ref p, .ref q])) [p, q] 1002 := by
      refine ((Lists.one np (s2 _ _ hp) ?_).app (.one (none_back s1 nq) hq ?_)).same (same_new nS)
      · rw [List.length_map]
        omega
      · rw [List.length_map]
        omega
    have nS0 := none_back s12 nS
    generalize upd H2 S (.lst [.ref p, .ref q]) = H3 at s3 hS ls
    refine ⟨fun σ' H' => ∃ (S : Addr) (rs : List Addr) (v3 : Option V), σ' = [some (.ref A.f), some (.ref S), none, v3] ∧ Same H H' ∧ H S = none ∧ H' S = some (.lst (rs.map V.ref)) ∧ Lists H H' rs 1002 ∧ S ∉ rs ∧ rs.length ≤ 2000, ?_, ?_⟩
    · have ai3 := s3 _ _ ai
      have F3 := F.same s3
      refine ⟨_, rfl, A.f, A.dx, _, rfl, ai3, rfl, A, br, rfl, ai3, _, rfl, ?_⟩
      cases br with
      | some r =>
        refine iteT ⟨_, rfl, _, rfl, A.f, A.dx, _, rfl, ai3, rfl, A, D, ks, pu, tr, rw, ah, some r, none, 5, rfl, F3, (fun x e => by cases e), (fun _ => by simp), w5, by omega, by omega, fun H4 u rs4 s4 nu hu4 shw => ⟨by show 1 ≤ sizeLine; decide, fun N nN => ?_⟩⟩
        have lr := (F3.shows shw fun x e => by cases e).2.2
        have s5 := s4.trans (same_new (o := .lst [.ref u]) nN)
        refine ⟨S, N, [p, q].map V.ref, [u].map V.ref, rfl, rfl, s5 _ _ hS, upd_same, by show 3 ≤ sizeLine; decide, fun Z nZ => ⟨Z, [p, q] ++ [u], none, rfl, (s3.trans s5).trans (same_new nZ), none_back (s3.trans s5) nZ, by rw [List.map_append]; exact upd_same, ?_, fun z => ?_, by show 3 ≤ 2000; decide⟩⟩
        · exact (((ls.same s5).app (.one (none_back s3 nu) (same_new nN _ _ hu4) (by rw [List.length_map]; omega))).same (same_new nZ))
        · have la : Lists H (upd H4 N (.lst [.ref u])) ([p, q] ++ [u]) 1002 := (ls.same s5).app (.one (none_back s3 nu) (same_new nN _ _ hu4) (by rw [List.length_map]; omega))
          exact la.out nZ z
      | none =>
        have on3 := s3 _ _ f4
        refine iteF ⟨_, rfl, _, rfl, A.f, A.dx, _, rfl, ai3, rfl, A, tr, rfl, ai3, on3, fun H4 u nu s4 hu4 => ⟨by show 1 ≤ sizeLine; decide, fun N nN => ?_⟩⟩
        have s5 := s4.trans (same_new (o := .lst [.ref u]) nN)
        have hu5 := same_new (o := .lst [.ref u]) nN _ _ hu4
        have hN5 : (upd H4 N (.lst [.ref u])) N = some (.lst [.ref u]) := upd_same
        generalize upd H4 N (.lst [.ref u]) = H5 at s5 hu5 hN5
        refine ⟨S, N, [p, q].map V.ref, [u].map V.ref, rfl, rfl, s5 _ _ hS, hN5, by show 3 ≤ sizeLine; decide, fun Z nZ => ?_⟩
        have s6 := s5.trans (same_new (o := .lst ([p, q].map V.ref ++ [u].map V.ref)) nZ)
        have lb : (byAbs tr).length = tr.length := (byAbs_perm tr).length_eq
        have ls6 : Lists H (upd H5 Z (.lst ([p, q].map V.ref ++ [u].map V.ref))) ([p, q] ++ [u]) 1002 := ((ls.same s5).app (.one (none_back s3 nu) hu5 (by rw [List.length_map]; omega))).same (same_new nZ)
        have hZ : (upd H5 Z (.lst ([p, q].map V.ref ++ [u].map V.ref))) Z = some (.lst (([p, q] ++ [u]).map V.ref)) := by
          rw [List.map_append]
          exact upd_same
        generalize upd H5 Z (.lst ([p, q].map V.ref ++ [u].map V.ref)) = H6 at s6 ls6 hZ
        have ai6 := s6 _ _ ai3
        have F6 := F3.same s6
        refine ⟨_, rfl, A.f, A.dx, _, rfl, ai6, rfl, A, tr, rfl, ai6, s6 _ _ on3, fun H7 y ny s7 hy7 => ?_⟩
        refine ⟨y, rfl, ⟨_, SqL.of hy7⟩, fun W nW => lc_list (xs := (byAbs tr).map V.int) (fun i H1 => Same H7 H1 ∧ ∃ qs : List Addr, H1 W = some (.lst (qs.map V.ref)) ∧ Lists H H1 qs 1002 ∧ qs.length = i ∧ W ∉ qs) ⟨same_new nW, [], upd_same, Lists.nil, rfl, by simp⟩ (fun i H1 _ g => SqL.of (g.1 _ _ hy7)) (fun i x H1 hx g => ?_) (fun H1 g => ?_)⟩
        · obtain ⟨sg, qs, hW, lq, ln, nWq⟩ := g
          obtain ⟨m, rfl, hm⟩ := int_at hx
          have mm : m ∈ tr := (byAbs_perm tr).mem_iff.mp (List.mem_of_getElem? hm)
          have il : i < tr.length := by
            rw [← lb]
            exact (List.getElem?_eq_some_iff.mp hm).1
          have sh := s6.trans (s7.trans sg)
          refine ⟨rfl, yes_go ⟨_, rfl, A.f, A.dx, _, rfl, sh _ _ ai3, rfl, _, rfl, A, D, ks, pu, tr, rw, ah, none, some m, 5, rfl, F3.same sh, (fun x e => by cases e; exact ⟨rfl, mm⟩), (fun e => by cases e), w5, by omega, by omega, fun H8 u8 rs8 s8 nu8 hu8 shw => ?_⟩⟩
          have lr := ((F3.same sh).shows shw fun x e => by cases e; exact mm).2.2
          have nWu : u8 ≠ W := (ne_of_none hW nu8).symm
          have nWa : W ∉ qs ++ [u8] := fun z => by
            rcases List.mem_append.mp z with y | y
            · exact nWq y
            · exact nWu (List.mem_singleton.mp y).symm
          refine ⟨qs.map V.ref, s8 _ _ hW, by rw [List.length_map]; omega, same_mut (sg.trans s8) nW, qs ++ [u8], by rw [List.map_append]; exact upd_same, ?_, by rw [List.length_append, ln]; rfl, nWa⟩
          have lall : Lists H H8 (qs ++ [u8]) 1002 := (lq.same s8).app (.one (none_back (s3.trans sh) nu8) hu8 (by rw [List.length_map]; omega))
          intro r hr
          obtain ⟨a, xs, e, l⟩ := lall r hr
          have nr : r ≠ W := fun z => nWa (by rw [← z]; exact hr)
          exact ⟨a, xs, by rw [upd_ne nr]; exact e, l⟩
        · obtain ⟨sg, qs, hW, lq, ln, nWq⟩ := g
          rw [List.length_map, lb] at ln
          have sx := s7.trans sg
          refine ⟨Z, W, ([p, q] ++ [u]).map V.ref, qs.map V.ref, rfl, rfl, sx _ _ hZ, hW, ?_, fun Z2 nZ2 => ?_⟩
          · rw [List.length_map, List.length_map]
            show 3 + qs.length ≤ sizeLine
            omega
          · have sy := (s3.trans s6).trans sx
            have la : Lists H H1 (([p, q] ++ [u]) ++ qs) 1002 := (ls6.same sx).app lq
            exact ⟨Z2, ([p, q] ++ [u]) ++ qs, none, rfl, sy.trans (same_new nZ2), none_back sy nZ2, by rw [List.map_append (l₁ := [p, q] ++ [u])]; exact upd_same, la.same (same_new nZ2), la.out nZ2, by rw [List.length_append]; show 3 + qs.length ≤ 2000; omega⟩
    · rintro σ' Hx ⟨S, rs, v3, rfl, sx, nS, hS, ls, nm, few⟩
      refine ⟨_, rfl, S, rfl, ⟨_, SqL.of hS⟩, for_list (K := K) (a := S) (xs := rs.map V.ref) (fun j σ H' => ∃ v2, σ = [some (.ref A.f), some (.ref S), v2, v3] ∧ Same H H' ∧ H' S = some (.lst (rs.map V.ref)) ∧ Lists H H' rs (1002 + 2 * j)) ⟨none, rfl, sx, hS, ls⟩ ?_ ?_ ?_⟩
      · rintro j σ H' _ ⟨_, _, _, h, _⟩
        exact SqL.of h
      · rintro j x σ Ha hj ⟨v2, rfl, sa, hSa, la⟩
        obtain ⟨r, hr, rfl⟩ : ∃ r, r ∈ rs ∧ x = .ref r := by
          rw [List.getElem?_map] at hj
          cases e : rs[j]? with
          | none =>
            rw [e] at hj
            cases hj
          | some r =>
            rw [e] at hj
            exact ⟨r, List.mem_of_getElem? e, (Option.some.inj hj).symm⟩
        have jl : j < rs.length := by
          have := (List.getElem?_eq_some_iff.mp hj).1
          rwa [List.length_map] at this
        obtain ⟨nr, xs, hx, lx⟩ := la r hr
        have nrS : S ≠ r := fun z => nm (z ▸ hr)
        refine ⟨_, rfl, .inl ⟨rfl, _, SqL.of hx⟩, r, xs, _, rfl, rfl, hx, by omega, ?_⟩
        refine ⟨_, rfl, .inl ⟨rfl, _, SqL.of upd_same⟩, r, _, rfl, rfl, upd_same, ?_⟩
        refine ⟨_, rfl, .inl ⟨rfl, _, SqL.of upd_same⟩, 5, rfl, r, _, _, rfl, rfl, upd_same, by rw [List.length_reverse, List.length_append, List.length_singleton]; omega, ?_⟩
        have ex : ∀ (o1 o2 o3 : HO), upd (upd (upd Ha r o1) r o2) r o3 = upd Ha r o3 := fun o1 o2 o3 => funext fun b => by
          by_cases z : b = r
          · rw [z, upd_same, upd_same]
          · rw [upd_ne z, upd_ne z, upd_ne z, upd_ne z]
        rw [ex]
        refine ⟨_, rfl, same_mut sa nr, by rw [upd_ne nrS]; exact hSa, ?_⟩
        exact la.mut (by rw [List.length_append, List.length_reverse, List.length_append, List.length_singleton, List.length_singleton]; omega)
      · rintro σ Ha ⟨v2, rfl, sa, _⟩
        exact k Ha sa
def tBack (C : Addr) : TT := fun σ H R => ∃ (A : FA) (br : Option Int) (w : Int) (pu : List Int), σ[7]? = some (some (.ref A.f)) ∧ H A.f = some (.ins C A.dx (fl A br)) ∧ σ[10]? = some (some (.int w)) ∧ H A.pu = some (.lst (pu.map V.int)) ∧ ∀ H', Same H H' → R (decide (w = 0) && !pu.isEmpty) H'
def tBusy (C : Addr) : TT := fun σ H R => ∃ (A : FA) (br : Option Int) (m : Int) (pu : List Int) (v0 v1 v2 v3 v4 v5 v6 v8 v10 v11 v12 v13 : Option V), σ = [v0, v1, v2, v3, v4, v5, v6, some (.ref A.f), v8, some (.int m), v10, v11, v12, v13] ∧ H A.f = some (.ins C A.dx (fl A br)) ∧ H A.pu = some (.lst (pu.map V.int)) ∧ pu.length ≤ 100 ∧
  ∀ H', Same H H' → R (br.isSome || decide (m.natAbs ∈ nas pu)) H'
def tIs1 : TT := fun σ H R => ∃ (w : Int) (p : Addr) (xs : List V), σ[10]? = some (some (.int w)) ∧ σ[5]? = some (some (.ref p)) ∧ H p = some (.lst xs) ∧ ∀ H', Same H H' → R (decide (w = 1) && !xs.isEmpty) H'
theorem kt_none {K : PySem.W.Frag} : PySem.W.kitOne K (.type "NoneType") (.type "list") = some false := kit_ty (by show kitB "NoneType" "list" = some false; decide +kernel)
theorem kt_intl {K : PySem.W.Frag} : PySem.W.kitOne K (.type "int") (.type "list") = some false := kit_ty (by show kitB "int" "list" = some false; decide +kernel)
theorem kt_list {K : PySem.W.Frag} : PySem.W.kitOne K (.type "list") (.type "list") = some true := kit_ty (by show kitB "list" "list" = some true; decide +kernel)
def spLaw (K : PySem.W.Frag) : Sp := fun vs H Q _ => ∃ (a : Addr) (ns : List Int), vs = [.ref a] ∧ SqL K H a (ns.map V.int) ∧ ns.length ≤ 63 ∧ ∀ H', Q (.bl true) H'
theorem ok_law {f : Addr} {fd : FuncData} (F : Fun K "law" "law" s_law f fd) {cs : Nat → Addr} (T : Top K mg cs) (h__law_begun : Has P w K mg base 1 "_law_begun" ["_law_script"] (spBegun K)) (h__law_draw : Has P w K mg base 1 "_law_draw" ["_law_tape", "_law_many"] spDraw)
    (h__law_far_marks : Has P w K mg base 3 "_law_far_marks" ["_law_tape", "_law_many"] spFar) (h__law_system : Has P w K mg base 3 "_law_system" ["_law_tape", "_law_marks", "_law_many"] spSys) (h__law_puts : Has P w K mg base 3 "_law_puts" ["_law_tape", "_law_marks"] spPuts)
    (h__law_spoil : Has P w K mg base 5 "_law_spoil" ["_law_follower"] (spSpoil (cs 0)))
    (h_Follower___init__ : HasI P w K mg base (cs 0) 4 "Follower" ["self", "clauses"] (spInit (cs 0) K)) (h_Follower_put : HasM P w K mg base (cs 0) 4 "put" ["self", "mark"] (spPut (cs 0))) (h_Follower_add : HasM P w K mg base (cs 0) 4 "add" ["self", "clause"] (spAdd (cs 0)))
    (h_Follower_back : HasM P w K mg base (cs 0) 4 "back" ["self"] (spBack (cs 0))) (h_Follower_on : HasM P w K mg base (cs 0) 2 "on" ["self"] (spOn (cs 0)))
    (h_Follower_puts : HasM P w K mg base (cs 0) 1 "puts" ["self"] (spPutsM (cs 0))) (h_Follower_clauses : HasM P w K mg base (cs 0) 1 "clauses" ["self"] (spClsM (cs 0))) (h_Follower_is_broken : HasM P w K mg base (cs 0) 1 "is_broken" ["self"] (spIsBr (cs 0))) : FnG P w K mg base 7 f fd ["_law_script"] (spLaw K) := by
  refine fnG F sc_law (fun vs H Q E h => ?_) (fun cdv Ar outer s H vs Q E hr hgd h => ?_)
  · obtain ⟨a, ns, rfl, _⟩ := h
    rfl
  · have hu := hu_of hr
    have nd := sc_law.nd
    obtain ⟨a, ns, rfl, hS, hl, k⟩ := h
    refine ⟨_, (pss_cons (ps_set (i := 1) nd rfl (.inl rfl) (pe_has h__law_begun (hr.mono (by omega)) (by rfl) (pa_cons (pv 0) pa_nil)))
    (pss_cons (ps_for PassesOwn.never rfl (pi_range1 (by rfl) T.b_range (pa_cons (pe_op op_add pe_int (pe_callB (call_min2 rfl) (by rfl) T.b_min (by decide +kernel) (pa_cons pe_int (pa_cons (pe_callB call_len_seq (by rfl) T.b_len (by decide +kernel) (pa_cons (pv 0) pa_nil)) pa_nil)))) pa_nil)) (pg_name (i := 2) nd rfl (.inl rfl))
      (pss_cons (ps_set (i := 3) nd rfl (.inl rfl) (pe_has h__law_far_marks (hr.mono (by omega)) (by rfl) (pa_cons (pv 1) (pa_cons (pe_op op_add pe_int (pe_has h__law_draw (hr.mono (by omega)) (by rfl) (pa_cons (pv 1) (pa_cons pe_int pa_nil)))) pa_nil))))
    (pss_cons (ps_par (i := 4) (j := 5) (by rfl) nd rfl rfl (by decide) rfl rfl (pa_cons (pe_has h__law_system (hr.mono (by omega)) (by rfl) (pa_cons (pv 1) (pa_cons (pv 3) (pa_cons (pe_op op_add pe_int (pe_has h__law_draw (hr.mono (by omega)) (by rfl) (pa_cons (pv 1) (pa_cons pe_int pa_nil)))) pa_nil)))) (pa_cons (pe_has h__law_system (hr.mono (by omega)) (by rfl) (pa_cons (pv 1) (pa_cons (pv 3) (pa_cons pe_int pa_nil)))) pa_nil)) (by rfl))
    (pss_cons (ps_set (i := 6) nd rfl (.inl rfl) (pe_callTy call_list_of (by rfl) T.b_list (by decide +kernel) (pa_cons (pv 4) pa_nil)))
    (pss_cons (ps_par (i := 7) (j := 8) (by rfl) nd rfl rfl (by decide) rfl rfl (pa_cons (pe_hasI h_Follower___init__ (hr.mono (by omega)) (by rfl) (pa_cons (pv 6) pa_nil)) (pa_cons (pe_hasI h_Follower___init__ (hr.mono (by omega)) (by rfl) (pa_cons (pe_callTy call_list_of (by rfl) T.b_list (by decide +kernel) (pa_cons (pv 4) pa_nil)) pa_nil)) pa_nil)) (by rfl))
    (pss_cons (ps_if (pt_cmpR (op_neD hr.units) (pv 6) (pv 4) (nomark _)) (pss_one (ps_ret pe_bl)) pss_nil)
    (pss_cons (ps_expr (pe_bm PySem.F.plainAttrs_list PySem.F.slot_list_append PySem.F.type_list_append mt_append (pv 6) (pa_cons (pe_tup (pa_cons (pe_ix ix_list (pv 3) pe_int (fun _ _ => rfl)) pa_nil)) pa_nil)))
    (pss_cons (ps_expr (pe_bm0 PySem.F.plainAttrs_list PySem.F.slot_list_reverse PySem.F.type_list_reverse mt_reverse (pv 6)))
    (pss_cons (ps_for PassesOwn.never rfl (pi_list (pe_has h__law_puts (hr.mono (by omega)) (by rfl) (pa_cons (pv 1) (pa_cons (pv 3) pa_nil)))) (pg_name (i := 9) nd rfl (.inl rfl))
      (pss_cons (ps_set (i := 10) nd rfl (.inl rfl) (pe_has h__law_draw (hr.mono (by omega)) (by rfl) (pa_cons (pv 1) (pa_cons pe_int pa_nil))))
    (pss_cons (ps_expr (pe_has h__law_spoil (hr.mono (by omega)) (by rfl) (pa_cons (pv 7) pa_nil)))
    (pss_cons (ps_if (pt_cmpR op_ne (pe_hasM0 T.cl_Follower h_Follower_is_broken (hr.mono (by omega)) (pv 7)) (pe_hasM0 T.cl_Follower h_Follower_is_broken (hr.mono (by omega)) (pv 8)) (nomark _)) (pss_one (ps_ret pe_bl)) pss_nil)
    (C8.pss_cut (ps_if (pt_wk (tBack (cs 0)) (PW.pt (pw_and (pt_cmpR op_eq (pv 10) pe_int (nomark _)) (pw_and1 (pt_cmpR (op_neNil hu) (pe_hasM0 T.cl_Follower h_Follower_puts (hr.mono (by omega)) (pv 7)) (pe_lst pa_nil) (nomark _))))) ?back) (pss_one (ps_par (i := 11) (j := 12) (by rfl) nd rfl rfl (by decide) rfl rfl (pa_cons (pe_hasM0 T.cl_Follower h_Follower_back (hr.mono (by omega)) (pv 7)) (pa_cons (pe_hasM0 T.cl_Follower h_Follower_back (hr.mono (by omega)) (pv 8)) pa_nil)) (by rfl))) (pss_one (ps_if (pt_wk (tBusy (cs 0)) (PW.pt (pw_or (pt_val (pe_hasM0 T.cl_Follower h_Follower_is_broken (hr.mono (by omega)) (pv 7))) (pw_or1 (pt_cmpR op_in_seq (pe_callB call_abs (by rfl) T.b_abs (by decide +kernel) (pa_cons (pv 9) pa_nil)) (pe_lc (own := [("_law_name", 13)]) (by rfl) nd (pi_list (pe_hasM0 T.cl_Follower h_Follower_puts (hr.mono (by omega)) (pv 7))) (blkOk_by (own := [("_law_name", 13)]) (N := nm_law) (sc := defScope s_law) (by decide +kernel)) (fun _ _ _ _ _ => pg_name (i := 13) nd rfl (.inl rfl)) (fun _ _ _ _ _ => pts_nil) (fun _ _ _ _ _ => (pe_callB call_abs (by rfl) T.b_abs (by decide +kernel) (pa_cons (pv 13) pa_nil)))) (by rfl))))) ?busy) (pss_one (ps_asg (pe_tup (pa_cons pe_non (pa_cons pe_non pa_nil))) (pg_tup (by rfl) (pgs_cons (pg_name (i := 11) nd rfl (.inl rfl)) (pgs_cons (pg_name (i := 12) nd rfl (.inl rfl)) pgs_nil))))) (pss_one (ps_if (pt_wk tIs1 (PW.pt (pw_and (pt_cmpR op_eq (pv 10) pe_int (nomark _)) (pw_and1 (pt_cmpR (op_neNil hu) (pv 5) (pe_lst pa_nil) (nomark _))))) ?is1) (pss_one (ps_par (i := 11) (j := 12) (by rfl) nd rfl rfl (by decide) rfl rfl (pa_cons (pe_hasM T.cl_Follower h_Follower_add (hr.mono (by omega)) (pv 7) (pa_cons (pe_ix ix_list (pv 5) (pe_un un_neg pe_int) (fun _ _ => rfl)) pa_nil)) (pa_cons (pe_hasM T.cl_Follower h_Follower_add (hr.mono (by omega)) (pv 8) (pa_cons (pe_bm0 PySem.F.plainAttrs_list PySem.F.slot_list_pop PySem.F.type_list_pop mt_pop (pv 5)) pa_nil)) pa_nil)) (by rfl))) (pss_one (ps_par (i := 11) (j := 12) (by rfl) nd rfl rfl (by decide) rfl rfl (pa_cons (pe_hasM T.cl_Follower h_Follower_put (hr.mono (by omega)) (pv 7) (pa_cons (pv 9) pa_nil)) (pa_cons (pe_hasM T.cl_Follower h_Follower_put (hr.mono (by omega)) (pv 8) (pa_cons (pv 9) pa_nil)) pa_nil)) (by rfl))))))))
    (pss_cons (ps_if (pt_cmpR op_ne (pe_callB (call_reprV hgd hr.units) (by rfl) T.b_repr (by decide +kernel) (pa_cons (pv 11) pa_nil)) (pe_callB (call_reprV hgd hr.units) (by rfl) T.b_repr (by decide +kernel) (pa_cons (pv 12) pa_nil)) (nomark _)) (pss_one (ps_ret pe_bl)) pss_nil)
    (pss_one (ps_if (pt_val (pe_callB call_isi (by rfl) T.b_isinstance (by decide +kernel) (pa_cons (pv 11) (pa_cons (pe_bltn (v := .ty "list") (u := .type "list") (by rfl) T.b_list (by decide +kernel) (by rfl)) pa_nil)))) (pss_one (ps_expr (pe_bm PySem.F.plainAttrs_list PySem.F.slot_list_append PySem.F.type_list_append mt_append (pv 11) (pa_cons pe_int pa_nil)))) pss_nil))))))))
    (pss_cons (ps_if (PW.pt (pw_or (pt_cmpR (op_neD hr.units) (pe_hasM0 T.cl_Follower h_Follower_puts (hr.mono (by omega)) (pv 7)) (pe_hasM0 T.cl_Follower h_Follower_puts (hr.mono (by omega)) (pv 8)) (nomark _)) (pw_or (pt_cmpR (op_neD hr.units) (pe_hasM0 T.cl_Follower h_Follower_clauses (hr.mono (by omega)) (pv 7)) (pe_hasM0 T.cl_Follower h_Follower_clauses (hr.mono (by omega)) (pv 8)) (nomark _)) (pw_or1 (pt_cmpR op_ne (pe_hasM0 T.cl_Follower h_Follower_is_broken (hr.mono (by omega)) (pv 7)) (pe_hasM0 T.cl_Follower h_Follower_is_broken (hr.mono (by omega)) (pv 8)) (nomark _)))))) (pss_one (ps_ret pe_bl)) pss_nil)
    (pss_one (ps_if (PW.pt (pw_and (pt_not (pt_val (pe_hasM0 T.cl_Follower h_Follower_is_broken (hr.mono (by omega)) (pv 7)))) (pw_and1 (pt_cmpR (op_neD hr.units) (pe_hasM0 T.cl_Follower h_Follower_on (hr.mono (by omega)) (pv 7)) (pe_hasM0 T.cl_Follower h_Follower_on (hr.mono (by omega)) (pv 8)) (nomark _))))) (pss_one (ps_ret pe_bl)) pss_nil))))))))))))
    (pss_one (ps_ret pe_bl)))), ?_⟩
    case back =>
      intro σ H R h
      obtain ⟨A, br, w, pu, e7, ai, e10, hp, k⟩ := h
      refine ⟨_, e10, rfl, _, rfl, ?_⟩
      by_cases z : w = 0
      · subst z
        refine iteT ⟨_, e7, A.f, A.dx, _, rfl, ai, rfl, A, br, pu, rfl, ai, hp, fun X1 p1 np1 s1 hp1 => ⟨by show 0 ≤ sizeLine; decide, fun N nN => ⟨p1, N, _, rfl, rfl, SqL.of (same_new nN _ _ hp1), SqL.of upd_same, _, rfl, ?_⟩⟩⟩
        rw [List.isEmpty_map]
        have g := k _ (s1.trans (same_new (o := .lst []) nN))
        cases pu with
        | nil => exact g
        | cons x r => exact g
      · rw [decide_eq_false z] at k
        have e : decide (V.int w = V.int 0) = false := by simp [z]
        rw [e]
        exact iteF (k H (Same.refl _))
    case is1 =>
      intro σ H R h
      obtain ⟨w, p, xs, e4, e3, hp, k⟩ := h
      refine ⟨_, e4, rfl, _, rfl, ?_⟩
      by_cases z : w = 1
      · subst z
        refine iteT ⟨_, e3, by show 0 ≤ sizeLine; decide, fun N nN => ⟨p, N, _, rfl, rfl, SqL.of (same_new nN _ _ hp), SqL.of upd_same, _, rfl, ?_⟩⟩
        have g := k _ (same_new (o := .lst []) nN)
        cases xs with
        | nil => exact g
        | cons x r => exact g
      · rw [decide_eq_false z] at k
        have e : decide (V.int w = V.int 1) = false := by simp [z]
        rw [e]
        exact iteF (k H (Same.refl _))
    case busy =>
      intro σ H R h
      obtain ⟨A, br, m, pu, v0, v1, v2, v3, v4, v5, v6, v8, v10, v11, v12, v13, rfl, ai, hp, lp, k⟩ := h
      refine ⟨_, rfl, A.f, A.dx, _, rfl, ai, rfl, A, br, rfl, ai, _, rfl, ?_⟩
      cases br with
      | some r => exact iteT (k H (Same.refl _))
      | none =>
        refine iteF ⟨_, rfl, m, rfl, _, rfl, A.f, A.dx, _, rfl, ai, rfl, A, none, pu, rfl, ai, hp, fun Ha p np sa hpa => ⟨p, rfl, ⟨_, SqL.of hpa⟩, fun Z2 nZ2 => lc_sel_list (fun _ => true) abV (SqL.of hpa) nZ2 (by rw [List.length_map]; omega) (fun x hx => ?_) fun Hb sb hb => ?_⟩⟩
        · obtain ⟨y2, _, rfl⟩ := List.mem_map.mp hx
          exact ⟨rfl, fun H' s' R g => g H' (Same.refl _), fun _ H' s' R g => ⟨_, rfl, y2, rfl, g H' (Same.refl _)⟩⟩
        · rw [show (pu.map V.int).filter (fun _ => true) = pu.map V.int from List.filter_eq_self.mpr fun _ _ => rfl, map_abV] at hb
          refine ⟨Z2, _, rfl, .inl (SqL.of hb), rfl, flat_ints _, _, rfl, ?_⟩
          rw [inV_ints]
          have e : decide ((if m < 0 then -m else m) ∈ pu.map ab) = decide (m.natAbs ∈ nas pu) := decide_eq_decide.mpr ab_mem
          rw [e]
          exact k Hb (sa.trans sb)
    have line : 1000000 < sizeLine := by decide
    refine ⟨_, rfl, a, ns, rfl, hS, hl, fun H1 t c ht hc sm tp => ?_⟩
    refine ⟨_, rfl, a, _, rfl, .inl (sm.seq hS), _, _, rfl, _, _, rfl, rfl, _, rfl, ?_, ?_, for_range (lo := 0) (fun i σ H2 => ∃ v2 v3 v4 v5 v6 v7 v8 v9 v10 v11 v12 v13, σ = [some (.ref a), some (.ref t), v2, v3, v4, v5, v6, v7, v8, v9, v10, v11, v12, v13] ∧ Tape H2 t c (4000 * i)) ⟨none, none, none, none, none, none, none, none, none, none, none, none, rfl, tp⟩ ?_ ?_⟩
    · split <;> omega
    · split <;> omega
    · rintro i σ H2 hi ⟨v2, v3, v4, v5, v6, v7, v8, v9, v10, v11, v12, v13, rfl, tp2⟩
      have hi2 : i < 9 := by
        rw [List.length_map] at hi
        split at hi <;> omega
      -- marks, clauses, spare ones
      refine ⟨_, rfl, _, rfl, t, c, _, _, rfl, tp2, by omega, by decide, by decide +kernel, fun H3 r3 a3 b3 tp3 kp3 => ⟨_, _, rfl, rfl, t, c, _, _, rfl, tp3, by omega, by omega, by omega, fun H4 M ms nM hM lM un tp4 kp4 => ?_⟩⟩
      have l1 : 1 ≤ ms.length := by omega
      have l2 : ms.length ≤ 12 := by omega
      refine ⟨_, rfl, _, rfl, _, rfl, t, c, _, _, rfl, tp4, by omega, by decide, by decide +kernel, fun H5 r5 a5 b5 tp5 kp5 => ⟨_, _, rfl, rfl, t, c, M, ms, _, _, rfl, tp5, by omega, by omega, by omega, tp4.sq hM kp5, by omega, by omega, un, fun H6 CL qs ks nCL cG wG lG tp6 kp6 => ?_⟩⟩
      have hM6 := tp4.sq hM (kp5.trans kp6)
      refine ⟨_, rfl, _, rfl, t, c, M, ms, _, _, rfl, tp6, by omega, by decide, by decide, hM6, by omega, by omega, un, fun H7 SP qd ds nSP cD wD lD tp7 kp7 => ⟨_, _, rfl, ?_⟩⟩
      have hM7 := tp6.sq hM6 kp7
      have cG7 := tp6.cs cG kp7
      -- two followers
      refine ⟨_, rfl, CL, _, rfl, .inl (SqL.of cG7.l), fun L nL => ?_⟩
      have s8 := same_new (o := .lst (qs.map V.ref)) nL
      have cL8 : Cs (upd H7 L (.lst (qs.map V.ref))) L qs ks := ⟨upd_same, cG7.n, fun i q c h1 h2 => s8 _ _ (cG7.t i q c h1 h2)⟩
      have cG8 := cG7.same s8
      have hM8 := s8 _ _ hM7
      have cD8 := cD.same s8
      have tp8 := tp7.same s8
      generalize upd H7 L (.lst (qs.map V.ref)) = H8 at s8 cL8 cG8 hM8 cD8 tp8
      have gd : Good ks := .of_sys un wG (by omega)
      have few : ∀ c ∈ ks, c.length ≤ 1000 := fun c hc => Nat.le_trans (wG c hc).1 (by decide)
      refine ⟨_, rfl, fun x dx nx ndx nex => made_fol nx ndx nex cL8.l cL8.n cL8.t gd few fun H9 A D tr rw br eA FA s9 dA => ⟨rfl, ?_⟩⟩
      clear nx ndx nex
      subst eA
      have cG9 := cG8.same s9
      refine ⟨_, rfl, CL, _, rfl, .inl (SqL.of cG9.l), fun L2 n2 x dx nx ndx nex => made_fol nx ndx nex upd_same cG9.n (fun i q c hq hc => same_new n2 _ _ (cG9.t i q c hq hc)) gd few fun H10 B DB tv rv bv eB FB s10 dB => ⟨rfl, _, _, rfl, ?_⟩⟩
      clear nx ndx nex
      subst eB
      have s910 := (same_new n2).trans s10
      have s810 := s9.trans s910
      have FA10 := FA.same s910
      have nA : ∀ b o, H8 b = some o → ¬ D b := fun b o e z => by
        rw [dA b z] at e
        cases e
      have nB : ∀ b o, H9 b = some o → ¬ DB b := fun b o e z => by
        have y := dB b z
        rw [same_new n2 _ _ e] at y
        cases y
      have nAB : ∀ b, D b → ¬ DB b := fun b z => by
        obtain ⟨o, e⟩ := FA.known z
        exact nB b o e
      have cL10 := cL8.same s810
      have cG10 := cG8.same s810
      have hM10 := s810 _ _ hM8
      have cD10 := cD8.same s810
      have tp10 := tp8.same s810
      obtain ⟨ot, et⟩ := tp8.at_t
      obtain ⟨oc, ec⟩ := tp8.at_c
      have n8 : ∀ b o, H8 b = some o → ¬ D b ∧ ¬ DB b := fun b o e => ⟨nA b o e, nB b o (s9 _ _ e)⟩
      have ntD := n8 _ _ et
      have ncD := n8 _ _ ec
      have nSD := n8 _ _ cD8.l
      have nMD := n8 _ _ hM8
      have nLD := n8 _ _ cL8.l
      have neSL : SP ≠ L := ne_of_none cD.l nL
      have neML : M ≠ L := ne_of_none hM7 nL
      have ncL : c ≠ L := (tp7.fresh_c nL).symm
      have ncS : SP ≠ c := fun z => by
        obtain ⟨o, e⟩ := tp6.at_c
        rw [← z, nSP] at e
        cases e
      clear nA nB dA dB et ec s9 s10 s910 cG9 cL8 cG8 hM8 cD8 tp8 FA n2
      -- what was handed in stays
      refine ⟨_, rfl, _, rfl, lstT ks, lstT ks, dp_lstT cL10.l cL10.n cL10.t, dp_lstT cG10.l cG10.n cG10.t, shape_lstT _, shape_lstT _, _, rfl, ?_⟩
      rw [eqv_lstT]
      obtain ⟨m0, mr, rfl⟩ : ∃ x r, ms = x :: r := by
        cases ms with
        | nil => exact absurd l1 (by decide)
        | cons x r => exact ⟨x, r, rfl⟩
      refine iteF ⟨_, rfl, .inl ⟨rfl, _, SqL.of cL10.l⟩, _, rfl, M, _, 0, .int m0, rfl, rfl, SqL.of hM10, at_of (j := 0) rfl rfl, by show 1 ≤ sizeLine; decide, fun p hp => ⟨L, _, _, rfl, rfl, same_new hp _ _ cL10.l, by rw [List.length_map]; have := cL10.n; omega, ?_⟩⟩
      have hL11 := same_new (o := .tup [.int m0]) hp _ _ cL10.l
      refine ⟨_, rfl, .inl ⟨rfl, _, SqL.of upd_same⟩, L, _, rfl, rfl, upd_same, ?_⟩
      have k11 : ∀ b o, H10 b = some o → b ≠ L → (upd (upd (upd H10 p (.tup [.int m0])) L (.lst (qs.map V.ref ++ [V.ref p]))) L (.lst (qs.map V.ref ++ [V.ref p]).reverse)) b = some o := fun b o e n => by
        rw [upd_ne n, upd_ne n]
        exact same_new hp _ _ e
      have kt11 : ∀ b zs, H10 b = some (.tup zs) → b ≠ L := fun b zs e => ne_of e cL10.l (by intro z; cases z)
      have FA11 := FA10.keep (H' := upd (upd (upd H10 p (.tup [.int m0])) L (.lst (qs.map V.ref ++ [V.ref p]))) L (.lst (qs.map V.ref ++ [V.ref p]).reverse)) fun b o e z => k11 b o e (by
        rcases z with z | ⟨zs, rfl⟩
        · exact fun y => nLD.1 (y ▸ z)
        · exact kt11 b zs e)
      have FB11 := FB.keep (H' := upd (upd (upd H10 p (.tup [.int m0])) L (.lst (qs.map V.ref ++ [V.ref p]))) L (.lst (qs.map V.ref ++ [V.ref p]).reverse)) fun b o e z => k11 b o e (by
        rcases z with z | ⟨zs, rfl⟩
        · exact fun y => nLD.2 (y ▸ z)
        · exact kt11 b zs e)
      have cS11 : Cs (upd (upd (upd H10 p (.tup [.int m0])) L (.lst (qs.map V.ref ++ [V.ref p]))) L (.lst (qs.map V.ref ++ [V.ref p]).reverse)) SP qd ds := ⟨k11 _ _ cD10.l neSL, cD10.n, fun i q c h1 h2 => k11 _ _ (cD10.t i q c h1 h2) (kt11 _ _ (cD10.t i q c h1 h2))⟩
      have hM11 := k11 _ _ hM10 neML
      have tp11 : Tape (upd (upd (upd H10 p (.tup [.int m0])) L (.lst (qs.map V.ref ++ [V.ref p]))) L (.lst (qs.map V.ref ++ [V.ref p]).reverse)) t c _ := tp10.stay fun b o e z => k11 b o e (by
        rcases z with rfl | rfl
        · exact (tp10.ne_lst' cL10.l).symm
        · exact ncL)
      generalize upd (upd (upd H10 p (.tup [.int m0])) L (.lst (qs.map V.ref ++ [V.ref p]))) L (.lst (qs.map V.ref ++ [V.ref p]).reverse) = H11 at FA11 FB11 cS11 hM11 tp11
      clear k11 kt11 hL11 hp cL10 cG10 hM10 cD10 tp10 FA10 FB s810
      -- the puts
      refine ⟨_, rfl, _, rfl, t, c, M, _, _, rfl, tp11, by omega, hM11, by omega, un, fun H12 TY ys nTY hTY pm tp12 kp12 => ?_⟩
      have uy := un.of_perm pm
      have memy : ∀ y ∈ ys, y.natAbs ∈ nas (m0 :: mr) := fun y hy => pm.mem_iff.mp (List.mem_map.mpr ⟨y, hy, rfl⟩)
      generalize m0 :: mr = ms at un l2 wG wD pm memy
      have w12 : ∀ c ∈ ks ++ ds, c.length ≤ 5 ∧ ClM ms c := fun c hc => by
        rcases List.mem_append.mp hc with z | z
        · exact wG c z
        · exact wD c z
      have g12 : S8 H12 (cs 0) A B D DB t c SP TY qd ds ys ms (4000 * i + 3900) ks [] tr rw [] br tv rv [] bv := by
        have nDT : ¬ D TY ∧ ¬ DB TY := ⟨FA11.not_new nTY, FB11.not_new nTY⟩
        exact ⟨FA11.kp tp11 ntD.1 kp12, FB11.kp tp11 ntD.2 kp12, nAB, tp11.cs cS11 kp12, nSD, hTY, nDT, (ne_of_none cS11.l nTY).symm, tp12.le (by omega), ntD, ncD, ncS, w12, by omega, List.nodup_nil, fun x hx => by cases hx⟩
      clear FA11 FB11 cS11 hM11 tp11 tp12 hTY nAB ntD ncD nSD ncS gd few n8 nMD nLD
      refine ⟨TY, rfl, ⟨_, SqL.of g12.hZ⟩, for_list (K := K) (a := TY) (xs := ys.map V.int) (fun j σ H' => ∃ w9 w10 w11 w12 w13 D DB qd ds ks pu tr rw ah br tv rv av bv, σ = [some (.ref a), some (.ref t), some (.int (0 + i)), some (.ref M), some (.ref CL), some (.ref SP), some (.ref L), some (.ref A.f), some (.ref B.f), w9, w10, w11, w12, w13] ∧
        S8 H' (cs 0) A B D DB t c SP TY qd ds ys ms (4000 * i + 3900 + j) ks pu tr rw ah br tv rv av bv) ⟨_, _, _, _, _, D, DB, qd, ds, ks, [], tr, rw, [], br, tv, rv, [], bv, rfl, g12⟩ ?_ ?_ ?_⟩
      · rintro j σ H' _ ⟨_, _, _, _, _, _, _, _, _, _, _, _, _, _, _, _, _, _, _, _, h⟩
        exact SqL.of h.hZ
      · clear g12 w12
        rintro j x σ Ha hj ⟨w9, w10, w11, w12, w13, D, DB, qd, ds, ks, pu, tr, rw, ah, br, tv, rv, av, bv, rfl, g⟩
        obtain ⟨m, rfl, hm⟩ := int_at hj
        have mm := List.mem_of_getElem? hm
        have m0' := uy.nz m mm
        have ly : ys.length ≤ 12 := by
          have := pm.length_eq
          unfold nas at this
          rw [List.length_map, List.length_map] at this
          omega
        have jl : j < ys.length := (List.getElem?_eq_some_iff.mp hm).1
        refine ⟨_, rfl, t, c, _, _, rfl, g.tp, by omega, by decide, by decide +kernel, fun Hb r a1 b1 tpb kpb => ?_⟩
        have gb := g.kp kpb tpb
        have w5 : ∀ c ∈ ks, c.length ≤ 5 := fun c hc => (gb.w c (List.mem_append_left _ hc)).1
        have lp := gb.lp l2
        have fw := gb.few
        refine ⟨_, rfl, A, D, ks, pu, tr, rw, ah, br, rfl, gb.a, w5, by omega, by omega, fun Hc sc => ?_⟩
        have gc := gb.same sc
        clear g gb
        have ai := gc.a.ins
        have bi := gc.b.ins
        refine ⟨_, rfl, A.f, A.dx, _, rfl, ai, rfl, A, br, rfl, ai, _, rfl, B.f, B.dx, _, rfl, bi, rfl, B, bv, rfl, bi, rfl, _, rfl, iteNS (congrArg V.bl gc.eb) ?_⟩
        -- the deed
        refine ⟨fun σ' H' => ∃ v u D' DB' qd ds ks pu tr rw ah br tv rv av bv w13, σ' = [some (.ref a), some (.ref t), some (.int (0 + i)), some (.ref M), some (.ref CL), some (.ref SP), some (.ref L), some (.ref A.f), some (.ref B.f), some (.int m), some (.int r), some v, some u, w13] ∧
          S8 H' (cs 0) A B D' DB' t c SP TY qd ds ys ms (4000 * i + 3900 + j + 1) ks pu tr rw ah br tv rv av bv ∧ Twins H' D' DB' SP TY c v u, ?_, ?_⟩
        · obtain ⟨a1, a2, a3, a4, a5⟩ := gc.a.facts
          obtain ⟨e1, e2, e3, e4, e5⟩ := gc.b.facts
          -- a list that both tell
          have twins : ∀ {Hx Hy : Hp} {D' DB' : Addr → Prop} {ks' ds' : List (List Int)} {qd' : List Addr} {pu' tr' tv' zs : List Int} {rw' rv' : List (Option Int)} {ah' av' : List (Int × Int)} {br' bv' : Option Int} {p q : Addr},
              S8 Hy (cs 0) A B D' DB' t c SP TY qd' ds' ys ms (4000 * i + 3900 + j + 1) ks' pu' tr' rw' ah' br' tv' rv' av' bv' → Hc p = none → Hy p = some (.lst ((byAbs zs).map V.int)) → Hy q = some (.lst ((byAbs zs).map V.int)) → zs.Nodup → (∀ x ∈ zs, x ∈ tr') → ¬ D' p → ¬ DB' p → Twins Hy D' DB' SP TY c (.ref p) (.ref q) := by
            intro Hx Hy D' DB' ks' ds' qd' pu' tr' tv' zs rw' rv' ah' av' br' bv' p q g np hp hq nz sub n1 n2
            have fk := g.few
            obtain ⟨shw, lz⟩ := showy_tr g.a un l2 (fun c hc => g.w c (List.mem_append_left _ hc)) (by omega) g.pn g.ps nz sub
            refine .inr (.inr ⟨p, q, byAbs zs, rfl, rfl, hp, hq, shw, lz, n1, n2, fun z => ?_, fun z => ?_, fun z => ?_⟩)
            · have := gc.cS.l
              rw [← z, np] at this
              cases this
            · have := gc.hZ
              rw [← z, np] at this
              cases this
            · obtain ⟨o, e⟩ := gc.tp.at_c
              rw [← z, np] at e
              cases e
          refine ⟨A, br, r, pu, rfl, ai, rfl, a5, fun Hd sd => ?_⟩
          have gd := gc.same sd
          have ai := gd.a.ins
          have bi := gd.b.ins
          by_cases hb : (decide (r = 0) && !pu.isEmpty) = true
          · -- taken back
            rw [hb]
            have pe : pu ≠ [] := fun z => by
              rw [z] at hb
              simp at hb
            obtain ⟨pu0, m1, rfl⟩ := snoc_ofN pe
            have pn := gd.pn
            have ps := gd.ps
            rw [nas_snoc] at pn ps
            refine iteT ⟨_, rfl, A.f, A.dx, _, rfl, ai, rfl, A, D, ks, pu0, tr, rw, ah, br, m1, rfl, gd.a, fun He tr1 rw1 ah1 br1 Fe fe => ?_⟩
            have Ge := gd.b.beside gd.a fe gd.dis
            refine ⟨_, rfl, B.f, B.dx, _, rfl, Ge.ins, rfl, B, DB, ks, pu0, tv, rv, av, bv, m1, rfl, Ge, fun Hf tv1 rv1 av1 bv1 Ff ff => ⟨_, _, rfl, ?_⟩⟩
            have g2 := (gd.step Fe fe (fun _ h => h) Ff ff (fun _ h => h) gd.w gd.few (pn.sublist (List.sublist_append_left _ _)) fun x hx => ps x (List.mem_append_left _ hx))
            refine ⟨_, _, D, DB, qd, ds, ks, pu0, tr1, rw1, ah1, br1, tv1, rv1, av1, bv1, _, rfl, g2, .inr (.inl ⟨m1, rfl, rfl, ?_⟩)⟩
            obtain ⟨y, hy, ey⟩ := List.mem_map.mp (ps m1.natAbs (List.mem_append_right _ (List.mem_singleton.mpr rfl)))
            have := un.lim y hy
            exact Nat.lt_of_le_of_lt (by omega : m1.natAbs ≤ 10 ^ 12) (by decide)
          have hb' : (decide (r = 0) && !pu.isEmpty) = false := Bool.eq_false_iff.mpr hb
          rw [hb']
          refine iteF ⟨A, br, m, pu, _, _, _, _, _, _, _, _, _, _, _, _, rfl, ai, sd _ _ a5, by omega, fun He se => ?_⟩
          have ge := gd.same se
          clear gd ai bi
          by_cases hn : (br.isSome || decide (m.natAbs ∈ nas pu)) = true
          · -- nothing
            rw [hn]
            refine iteT ⟨by show 2 ≤ sizeLine; decide, fun p hp => ⟨p, _, rfl, SqT.of upd_same, rfl, _, _, rfl, _, _, rfl, rfl, ?_⟩⟩
            exact ⟨_, _, D, DB, qd, ds, ks, pu, tr, rw, ah, br, tv, rv, av, bv, _, rfl, ge.same (same_new hp), .inl ⟨rfl, rfl⟩⟩
          have hn' : (br.isSome || decide (m.natAbs ∈ nas pu)) = false := Bool.eq_false_iff.mpr hn
          rw [hn']
          have bn : br = none := by
            cases br with
            | none => rfl
            | some r => exact absurd hn' (by simp)
          subst bn
          have vn : bv = none := by
            have := ge.eb
            cases bv with
            | none => rfl
            | some r => cases this
          subst vn
          have mp : m.natAbs ∉ nas pu := fun z => by
            rw [decide_eq_true z] at hn'
            simp at hn'
          have tt := ge.trs rfl
          refine iteF ⟨r, SP, _, rfl, rfl, ge.cS.l, fun Hf sf => ?_⟩
          have gf := ge.same sf
          clear ge
          have ai := gf.a.ins
          by_cases hs : (decide (r = 1) && !(qd.map V.ref).isEmpty) = true
          · -- a clause more
            rw [hs]
            have de : qd ≠ [] := fun z => by
              rw [z] at hs
              simp at hs
            obtain ⟨q0, q, rfl⟩ := snoc_ofN de
            obtain ⟨d0, d, rfl⟩ : ∃ r x, ds = r ++ [x] := snoc_ofN fun z => by
              have := gf.cS.n
              rw [z, List.length_append] at this
              simp at this
            have ln : q0.length = d0.length := by
              have := gf.cS.n
              rw [List.length_append, List.length_append] at this
              exact Nat.add_right_cancel this
            have hq : Hf q = some (.tup (d.map V.int)) := gf.cS.t q0.length q d (by rw [List.getElem?_append_right (Nat.le_refl _), Nat.sub_self]; rfl) (by rw [ln, List.getElem?_append_right (Nat.le_refl _), Nat.sub_self]; rfl)
            have lastM : ((q0 ++ [q]).map V.ref)[((q0 ++ [q]).map V.ref).length - 1]? = some (.ref q) := by
              rw [List.length_map, List.length_append, List.length_singleton, Nat.add_sub_cancel, List.getElem?_map, List.getElem?_append_right (Nat.le_refl _), Nat.sub_self]
              rfl
            have dropM : ((q0 ++ [q]).map V.ref).dropLast = q0.map V.ref := by
              rw [List.map_append]
              exact List.dropLast_concat
            have wd : ∀ c ∈ ks ++ [d], c.length ≤ 5 ∧ ClM ms c := fun c hc => gf.w c (by
              simp only [List.mem_append, List.mem_singleton] at hc ⊢
              rcases hc with z | z
              · exact .inl z
              · exact .inr (.inr z))
            have gdd : Good (ks ++ [d]) := .of_sys un wd (by rw [List.length_append]; have := gf.few; rw [List.length_append] at this; simp only [List.length_singleton] at this ⊢; omega)
            have ld : d.length ≤ 1000 := Nat.le_trans (wd d (by simp)).1 (by decide)
            refine iteT ⟨_, rfl, A.f, A.dx, _, rfl, ai, rfl, _, rfl, 1, rfl, SP, _, _, .ref q, rfl, rfl, SqL.of gf.cS.l, by rw [List.map_append]; exact atI_last _ _, A, D, ks, pu, tr, rw, ah, q, d, rfl, gf.a, hq, ld, gdd, fun Hg D' tr' rw' br' v Fg fg dg pg tg => ?_⟩
            have Gg := gf.b.beside gf.a fg gf.dis
            have cSg := gf.cS.fr gf.a fg gf.nS.1
            have hqg := fg.k _ _ hq fun z => gf.a.ntup z _ hq
            refine ⟨_, rfl, B.f, B.dx, _, rfl, Gg.ins, rfl, _, rfl, .inl ⟨rfl, _, SqL.of cSg.l⟩, SP, _, _, rfl, rfl, cSg.l, lastM, ?_⟩
            rw [dropM]
            have kS : ∀ b o, Hg b = some o → b ≠ SP → (upd Hg SP (.lst (q0.map V.ref))) b = some o := fun b o e n => by
              rw [upd_ne n]
              exact e
            have nqS : ∀ b xs, Hg b = some (.tup xs) → b ≠ SP := fun b xs e => ne_of e cSg.l (by intro z; cases z)
            have outA : ∀ b o, Hf b = some o → ¬ D b → ¬ D' b := fun b o e n z => by
              rcases fg.d b z with y | y
              · exact n y
              · rw [e] at y
                cases y
            have Fh : Fol (upd Hg SP (.lst (q0.map V.ref))) (cs 0) A D' (ks ++ [d]) pu tr' rw' ah br' := Fg.keep fun b o e z => kS b o e (by
              rcases z with z | ⟨xs, rfl⟩
              · exact fun y => outA _ _ gf.cS.l gf.nS.1 (y ▸ z)
              · exact nqS b xs e)
            have Gh : Fol (upd Hg SP (.lst (q0.map V.ref))) (cs 0) B DB ks pu tv rv av none := Gg.keep fun b o e z => kS b o e (by
              rcases z with z | ⟨xs, rfl⟩
              · exact fun y => gf.nS.2 (y ▸ z)
              · exact nqS b xs e)
            have hqh := kS _ _ hqg (nqS _ _ hqg)
            refine ⟨B, DB, ks, pu, tv, rv, av, q, d, rfl, Gh, hqh, ld, gdd, fun Hk DB' tv' rv' bv' u Gk fk dk pk tk => ⟨_, _, rfl, ?_⟩⟩
            have dis1 : ∀ b, DB b → ¬ D' b := fun b z y => by
              obtain ⟨o, e⟩ := gf.b.known z
              exact outA b o e (fun x => gf.dis b x z) y
            have outB : ∀ b o, (upd Hg SP (.lst (q0.map V.ref))) b = some o → ¬ DB b → ¬ DB' b := fun b o e n z => by
              rcases fk.d b z with y | y
              · exact n y
              · rw [e] at y
                cases y
            have dis2 : ∀ b, D' b → ¬ DB' b := fun b z => by
              obtain ⟨o, e⟩ := Fh.known z
              exact outB b o e fun y => dis1 b y z
            have cSh : Cs (upd Hg SP (.lst (q0.map V.ref))) SP q0 d0 := ⟨upd_same, ln, fun i q' c' h1 h2 => kS _ _ (cSg.t i q' c' (by rw [List.getElem?_append_left (List.getElem?_eq_some_iff.mp h1).1]; exact h1) (by rw [List.getElem?_append_left (List.getElem?_eq_some_iff.mp h2).1]; exact h2)) (nqS _ _ (cSg.t i q' c' (by rw [List.getElem?_append_left (List.getElem?_eq_some_iff.mp h1).1]; exact h1) (by rw [List.getElem?_append_left (List.getElem?_eq_some_iff.mp h2).1]; exact h2)))⟩
            have hZh := kS _ _ (fg.k _ _ gf.hZ gf.nZ.1) gf.ne
            obtain ⟨ot, et⟩ := gf.tp.at_t
            obtain ⟨oc, ec⟩ := gf.tp.at_c
            have tpg := gf.tp.fr fg gf.nt.1 gf.nc.1
            have nSt : SP ≠ t := tpg.ne_lst' cSg.l
            have tph := tpg.mut (o := .lst (q0.map V.ref)) nSt gf.cs
            obtain ⟨ot2, et2⟩ := tph.at_t
            obtain ⟨oc2, ec2⟩ := tph.at_c
            have g2 : S8 Hk (cs 0) A B D' DB' t c SP TY q0 d0 ys ms (4000 * i + 3900 + j + 1) (ks ++ [d]) pu tr' rw' ah br' tv' rv' av bv' := by
              refine ⟨Fh.beside Gh fk dis1, Gk, dis2, cSh.fr Gh fk gf.nS.2, ⟨outA _ _ gf.cS.l gf.nS.1, outB _ _ cSh.l gf.nS.2⟩, fk.k _ _ hZh gf.nZ.2, ⟨outA _ _ gf.hZ gf.nZ.1, outB _ _ hZh gf.nZ.2⟩, gf.ne, tph.fr fk gf.nt.2 gf.nc.2, ⟨outA _ _ et gf.nt.1, outB _ _ et2 gf.nt.2⟩, ⟨outA _ _ ec gf.nc.1, outB _ _ ec2 gf.nc.2⟩, gf.cs, fun c hc => gf.w c ?_, ?_, gf.pn, gf.ps⟩
              · simp only [List.mem_append, List.mem_singleton] at hc ⊢
                rcases hc with (z | z) | z
                · exact .inl z
                · exact .inr (.inr z)
                · exact .inr (.inl z)
              · have := gf.few
                rw [List.length_append] at this ⊢
                simp only [List.length_singleton] at this ⊢
                omega
            refine ⟨_, _, D', DB', q0, d0, ks ++ [d], pu, tr', rw', ah, br', tv', rv', av, bv', _, rfl, g2, ?_⟩
            rcases told_same Fg Gk tt tg tk with ⟨rfl, rfl, _, _⟩ | ⟨_, _, p, q', zs, rfl, rfl, hp, hq', nz, sub⟩
            · exact .inl ⟨rfl, rfl⟩
            · have np : Hf p = none := by
                rcases tg with ⟨_, _, e⟩ | ⟨_, p', _, e, nw⟩
                · cases e
                · cases e
                  exact nw.np
              have nB := gf.b.not_new np
              have npS : p ≠ SP := fun z => by
                have := gf.cS.l
                rw [← z, np] at this
                cases this
              have hph := kS _ _ hp npS
              exact twins (Hx := Hf) g2 (none_back (sd.trans (se.trans sf)) np) (fk.k _ _ hph nB) hq' nz sub (pg p rfl) (outB _ _ hph nB)
          · -- a put more
            have hs' : (decide (r = 1) && !(qd.map V.ref).isEmpty) = false := Bool.eq_false_iff.mpr hs
            rw [hs']
            have m1 : m ∉ pu := fun z => mp (List.mem_map.mpr ⟨m, z, rfl⟩)
            have m2 : -m ∉ pu := fun z => mp (List.mem_map.mpr ⟨-m, z, Int.natAbs_neg m⟩)
            have pn' : (nas (pu ++ [m])).Nodup := by
              rw [nas_snoc, List.nodup_append]
              refine ⟨gf.pn, by simp, fun a ha b hb e => ?_⟩
              rw [List.mem_singleton] at hb
              exact mp (by rw [← hb, ← e]; exact ha)
            have ps' : ∀ x ∈ nas (pu ++ [m]), x ∈ nas ms := fun x hx => by
              rw [nas_snoc] at hx
              rcases List.mem_append.mp hx with z | z
              · exact gf.ps x z
              · rw [List.mem_singleton.mp z]
                exact memy m mm
            refine iteF ⟨_, rfl, A.f, A.dx, _, rfl, ai, rfl, _, rfl, A, D, ks, pu, tr, rw, ah, m, rfl, gf.a, m0', m1, m2, by omega, fun Hg tr' rw' ah' br' v Fg fg tg => ?_⟩
            have Gg := gf.b.beside gf.a fg gf.dis
            refine ⟨_, rfl, B.f, B.dx, _, rfl, Gg.ins, rfl, _, rfl, B, DB, ks, pu, tv, rv, av, m, rfl, Gg, m0', m1, m2, by omega, fun Hk tv' rv' av' bv' u Gk fk tk => ⟨_, _, rfl, ?_⟩⟩
            have g2 := gf.step Fg fg (fun _ h => h) Gk fk (fun _ h => h) gf.w gf.few pn' ps'
            refine ⟨_, _, D, DB, qd, ds, ks, pu ++ [m], tr', rw', ah', br', tv', rv', av', bv', _, rfl, g2, ?_⟩
            rcases told_same Fg Gk tt tg tk with ⟨rfl, rfl, _, _⟩ | ⟨_, _, p, q, zs, rfl, rfl, hp, hq, nz, sub⟩
            · exact .inl ⟨rfl, rfl⟩
            · have np : Hf p = none := by
                rcases tg with ⟨_, _, e⟩ | ⟨_, p', _, e, nw⟩
                · cases e
                · cases e
                  exact nw.np
              have nD := gf.a.not_new np
              have nB := gf.b.not_new np
              exact twins (Hx := Hf) g2 (none_back (sd.trans (se.trans sf)) np) (fk.k _ _ hp nB) hq nz sub nD nB
        · rintro σ' Hd ⟨v, u, D', DB', qd', ds', ks', pu', tr', rw', ah', br', tv', rv', av', bv', w13', rfl, gd, tw⟩
          have fin : ∀ He, S8 He (cs 0) A B D' DB' t c SP TY qd' ds' ys ms (4000 * i + 3900 + j + 1) ks' pu' tr' rw' ah' br' tv' rv' av' bv' → ∃ w9 w10 w11 w12 w13 D DB qd ds ks pu tr rw ah br tv rv av bv, [some (.ref a), some (.ref t), some (.int (0 + i)), some (.ref M), some (.ref CL), some (.ref SP), some (.ref L), some (.ref A.f), some (.ref B.f), some (.int m), some (.int r), some v, some u, w13'] = [some (.ref a), some (.ref t), some (.int (0 + i)), some (.ref M), some (.ref CL), some (.ref SP), some (.ref L), some (.ref A.f), some (.ref B.f), w9, w10, w11, w12, w13] ∧
              S8 He (cs 0) A B D DB t c SP TY qd ds ys ms (4000 * i + 3900 + (j + 1)) ks pu tr rw ah br tv rv av bv := fun He ge => ⟨_, _, _, _, _, D', DB', qd', ds', ks', pu', tr', rw', ah', br', tv', rv', av', bv', rfl, ge⟩
          rcases tw with ⟨rfl, rfl⟩ | ⟨z, rfl, rfl, hz⟩ | ⟨p, q, zs, rfl, rfl, hp, hq, shw, lz, n1, n2, n3, n4, n5⟩
          · refine ⟨_, rfl, .inl ⟨rfl, _, rfl, .inl ⟨rfl, rfl, _, rfl, iteNS rfl ?_⟩⟩⟩
            exact ⟨_, rfl, _, .ty "list", _, _, _, rfl, .ty _, .base .non, kt_none, _, rfl, iteF (fin _ gd)⟩
          · have lg : z.natAbs.log2 < 1920 := Nat.lt_of_lt_of_le (PySem.Flt.log2_lt_of (k := 44) (by decide) (Nat.lt_trans hz (by decide))) (by decide)
            refine ⟨_, rfl, .inr (.inl ⟨z, rfl, lg, _, rfl, .inr (.inl ⟨z, rfl, lg, rfl, _, rfl, iteNS rfl ?_⟩)⟩)⟩
            exact ⟨_, rfl, _, .ty "list", _, _, _, rfl, .ty _, .base (.int z), kt_intl, _, rfl, iteF (fin _ gd)⟩
          · refine ⟨_, rfl, .inr (.inr ⟨p, lstD zs, rfl, dp_lst hp, shw, _, rfl, .inr (.inr ⟨q, lstD zs, rfl, dp_lst hq, shw, rfl, _, rfl, iteNS rfl ?_⟩)⟩)⟩
            exact ⟨_, rfl, _, .ty "list", _, _, _, rfl, .ty _, .base (.lst hp), kt_list, _, rfl, iteT ⟨_, rfl, .inl ⟨rfl, _, SqL.of hp⟩, p, _, _, rfl, rfl, hp, by rw [List.length_map]; omega, fin _ (gd.mut hp n1 n2 n3 n4 n5)⟩⟩
      · rintro σ H' ⟨w9, w10, w11, w12, w13, D, DB, qd, ds, ks, pu, tr, rw, ah, br, tv, rv, av, bv, rfl, g⟩
        rw [List.length_map] at g
        have ly : ys.length ≤ 12 := by
          have := pm.length_eq
          unfold nas at this
          rw [List.length_map, List.length_map] at this
          omega
        have fin : ∀ He, Same H' He → ∃ v2 v3 v4 v5 v6 v7 v8 v9 v10 v11 v12 v13, [some (V.ref a), some (.ref t), some (.int (0 + i)), some (.ref M), some (.ref CL), some (.ref SP), some (.ref L), some (.ref A.f), some (.ref B.f), w9, w10, w11, w12, w13] = [some (.ref a), some (.ref t), v2, v3, v4, v5, v6, v7, v8, v9, v10, v11, v12, v13] ∧ Tape He t c (4000 * (i + 1)) := fun He sh =>
          ⟨_, _, _, _, _, _, _, _, _, _, _, _, rfl, (g.tp.same sh).le (by omega)⟩
        have ai := g.a.ins
        have bi := g.b.ins
        obtain ⟨a1, a2, a3, a4, a5⟩ := g.a.facts
        obtain ⟨b1, b2, b3, b4, b5⟩ := g.b.facts
        obtain ⟨qa, ha, la, ta⟩ : ∃ qs : List Addr, H' A.cl = some (.lst (qs.map V.ref)) ∧ qs.length = ks.length ∧ ∀ (i : Nat) q c, qs[i]? = some q → ks[i]? = some c → H' q = some (.tup (c.map V.int)) := by
          obtain ⟨qs, aq, kvs, X⟩ := g.a
          exact ⟨qs, X.r.cl, X.r.re.cn, X.r.re.ct⟩
        obtain ⟨qb, hb, lb, tb⟩ : ∃ qs : List Addr, H' B.cl = some (.lst (qs.map V.ref)) ∧ qs.length = ks.length ∧ ∀ (i : Nat) q c, qs[i]? = some q → ks[i]? = some c → H' q = some (.tup (c.map V.int)) := by
          obtain ⟨qs, aq, kvs, X⟩ := g.b
          exact ⟨qs, X.r.cl, X.r.re.cn, X.r.re.ct⟩
        -- puts
        refine ⟨_, rfl, A.f, A.dx, _, rfl, ai, rfl, A, br, pu, rfl, ai, a5, fun X1 p1 np1 s1 hp1 => ⟨_, rfl, B.f, B.dx, _, rfl, s1 _ _ bi, rfl, B, bv, pu, rfl, s1 _ _ bi, s1 _ _ b5, fun X2 p2 np2 s2 hp2 => ⟨lstD pu, lstD pu, dp_lst (s2 _ _ hp1), dp_lst hp2, shape_lst _, shape_lst _, _, rfl, ?_⟩⟩⟩
        rw [eqv_lst]
        have s12 := s1.trans s2
        -- clauses
        refine iteF ⟨_, rfl, A.f, A.dx, _, rfl, s12 _ _ ai, rfl, A, br, qa, rfl, s12 _ _ ai, s12 _ _ ha, fun X3 p3 np3 s3 hp3 => ⟨_, rfl, B.f, B.dx, _, rfl, (s12.trans s3) _ _ bi, rfl, B, bv, qb, rfl, (s12.trans s3) _ _ bi, (s12.trans s3) _ _ hb, fun X4 p4 np4 s4 hp4 => ?_⟩⟩
        have s14 := (s12.trans s3).trans s4
        refine ⟨lstT ks, lstT ks, dp_lstT (s4 _ _ hp3) la fun i q c h1 h2 => s14 _ _ (ta i q c h1 h2), dp_lstT hp4 lb fun i q c h1 h2 => s14 _ _ (tb i q c h1 h2), shape_lstT _, shape_lstT _, _, rfl, ?_⟩
        rw [eqv_lstT]
        refine iteF ⟨_, rfl, A.f, A.dx, _, rfl, s14 _ _ ai, rfl, A, br, rfl, s14 _ _ ai, _, rfl, B.f, B.dx, _, rfl, s14 _ _ bi, rfl, B, bv, rfl, s14 _ _ bi, rfl, _, rfl, iteNS (congrArg V.bl g.eb) ?_⟩
        -- what is on
        refine ⟨_, rfl, A.f, A.dx, _, rfl, s14 _ _ ai, rfl, A, br, rfl, s14 _ _ ai, _, rfl, ?_⟩
        have eb := g.eb
        cases br with
        | some r => exact iteF (iteF (fin _ s14))
        | none =>
          cases bv with
          | some r => cases eb
          | none =>
            refine iteT ⟨_, rfl, A.f, A.dx, _, rfl, s14 _ _ ai, rfl, A, tr, rfl, s14 _ _ ai, s14 _ _ a4, fun X5 p5 np5 s5 hp5 => ⟨_, rfl, B.f, B.dx, _, rfl, (s14.trans s5) _ _ bi, rfl, B, tv, rfl, (s14.trans s5) _ _ bi, (s14.trans s5) _ _ b4, fun X6 p6 np6 s6 hp6 => ?_⟩⟩
            have e : byAbs tv = byAbs tr := byAbs_eq b1 a1 b2 fun x => (g.trs rfl x).symm
            rw [e] at hp6
            refine ⟨lstD (byAbs tr), lstD (byAbs tr), dp_lst (s6 _ _ hp5), dp_lst hp6, shape_lst _, shape_lst _, _, rfl, ?_⟩
            rw [eqv_lst]
            exact iteF (fin _ ((s14.trans s5).trans s6))
    · rintro σ H2 ⟨v2, v3, v4, v5, v6, v7, v8, v9, v10, v11, v12, v13, rfl, tp2⟩
      exact k H2
theorem at_law {f : Addr} {fd : FuncData} (F : Fun K "law" "law" s_law f fd) {cs : Nat → Addr} (T : Top K mg cs) : RunAt P w K mg base f fd ["_law_script"] (spLaw K) :=
  have d := has_draw T
  have p := has_pick T d
  have r := hm_ready T
  have b := hm_bring T r
  have s := hm_settle T r b
  have rf := hm_refuse T
  have tk := hm_take T
  have nw := hm_news T
  have ro := hm_rowof T
  have on := hm_on T rf
  have ib := hm_isbr T
  (ok_law F T (has_begun T) d (has_far T d p) (has_sys T d p) (has_puts T d p) (has_spoil T on (hm_shown T rf (hm_rowsto T ro)) (hm_puts T) (hm_cls T) ib) (hi_init T tk s) (hm_put T rf ro b s nw) (hm_add T rf tk s nw) (hm_back T (hm_off T) s) on (hm_puts T) (hm_cls T) ib).at_ ⟨rfl, by decide, by decide⟩
end

theorem all_mk {l : PySem.W.OpenLaw} {w : World} {K : PySem.W.Frag} {h : Heap} {mg : Str → Option Value} {fa : Addr} (X : K.In h) (G : h.Ns mainGlobals mg) (hfa : mg "law" = some (.ref fa))
    {f0 : Addr} {od0 an0 : Option Addr} {sl0 : Array (Option Value)} {oc0 kV0 dc0 pm0 cd0 ct0 : Value}
    (a0 : PySem.W.nsIn K mainGlobals "_law_begun" = some (some (.ref f0))) (l0 : K.lookup f0 = some ⟨oc0, od0, .func (PySem.W.fnOf "_law_begun" "_law_begun" (defArgs s__law_begun) (defBody s__law_begun) (defScope s__law_begun) .none kV0 dc0 pm0 an0 cd0 ct0), sl0⟩) (cc0 : PySem.W.codeIn K cd0 "_law_begun" = true) (k0 : PySem.W.keepIn K (.ref f0) = true)
    {f1 : Addr} {od1 an1 : Option Addr} {sl1 : Array (Option Value)} {oc1 kV1 dc1 pm1 cd1 ct1 : Value}
    (a1 : PySem.W.nsIn K mainGlobals "_law_draw" = some (some (.ref f1))) (l1 : K.lookup f1 = some ⟨oc1, od1, .func (PySem.W.fnOf "_law_draw" "_law_draw" (defArgs s__law_draw) (defBody s__law_draw) (defScope s__law_draw) .none kV1 dc1 pm1 an1 cd1 ct1), sl1⟩) (cc1 : PySem.W.codeIn K cd1 "_law_draw" = true) (k1 : PySem.W.keepIn K (.ref f1) = true)
    {f2 : Addr} {od2 an2 : Option Addr} {sl2 : Array (Option Value)} {oc2 kV2 dc2 pm2 cd2 ct2 : Value}
    (a2 : PySem.W.nsIn K mainGlobals "_law_pick" = some (some (.ref f2))) (l2 : K.lookup f2 = some ⟨oc2, od2, .func (PySem.W.fnOf "_law_pick" "_law_pick" (defArgs s__law_pick) (defBody s__law_pick) (defScope s__law_pick) .none kV2 dc2 pm2 an2 cd2 ct2), sl2⟩) (cc2 : PySem.W.codeIn K cd2 "_law_pick" = true) (k2 : PySem.W.keepIn K (.ref f2) = true)
    {f3 : Addr} {od3 an3 : Option Addr} {sl3 : Array (Option Value)} {oc3 kV3 dc3 pm3 cd3 ct3 : Value}
    (a3 : PySem.W.nsIn K mainGlobals "_law_far_marks" = some (some (.ref f3))) (l3 : K.lookup f3 = some ⟨oc3, od3, .func (PySem.W.fnOf "_law_far_marks" "_law_far_marks" (defArgs s__law_far_marks) (defBody s__law_far_marks) (defScope s__law_far_marks) .none kV3 dc3 pm3 an3 cd3 ct3), sl3⟩) (cc3 : PySem.W.codeIn K cd3 "_law_far_marks" = true) (k3 : PySem.W.keepIn K (.ref f3) = true)
    {f4 : Addr} {od4 an4 : Option Addr} {sl4 : Array (Option Value)} {oc4 kV4 dc4 pm4 cd4 ct4 : Value}
    (a4 : PySem.W.nsIn K mainGlobals "_law_system" = some (some (.ref f4))) (l4 : K.lookup f4 = some ⟨oc4, od4, .func (PySem.W.fnOf "_law_system" "_law_system" (defArgs s__law_system) (defBody s__law_system) (defScope s__law_system) .none kV4 dc4 pm4 an4 cd4 ct4), sl4⟩) (cc4 : PySem.W.codeIn K cd4 "_law_system" = true) (k4 : PySem.W.keepIn K (.ref f4) = true)
    {f5 : Addr} {od5 an5 : Option Addr} {sl5 : Array (Option Value)} {oc5 kV5 dc5 pm5 cd5 ct5 : Value}
    (a5 : PySem.W.nsIn K mainGlobals "_law_puts" = some (some (.ref f5))) (l5 : K.lookup f5 = some ⟨oc5, od5, .func (PySem.W.fnOf "_law_puts" "_law_puts" (defArgs s__law_puts) (defBody s__law_puts) (defScope s__law_puts) .none kV5 dc5 pm5 an5 cd5 ct5), sl5⟩) (cc5 : PySem.W.codeIn K cd5 "_law_puts" = true) (k5 : PySem.W.keepIn K (.ref f5) = true)
    {f6 : Addr} {od6 an6 : Option Addr} {sl6 : Array (Option Value)} {oc6 kV6 dc6 pm6 cd6 ct6 : Value}
    (a6 : PySem.W.nsIn K mainGlobals "_law_spoil" = some (some (.ref f6))) (l6 : K.lookup f6 = some ⟨oc6, od6, .func (PySem.W.fnOf "_law_spoil" "_law_spoil" (defArgs s__law_spoil) (defBody s__law_spoil) (defScope s__law_spoil) .none kV6 dc6 pm6 an6 cd6 ct6), sl6⟩) (cc6 : PySem.W.codeIn K cd6 "_law_spoil" = true) (k6 : PySem.W.keepIn K (.ref f6) = true)
    {f7 : Addr} {od7 an7 : Option Addr} {sl7 : Array (Option Value)} {oc7 kV7 dc7 pm7 cd7 ct7 : Value}
    (a7 : PySem.W.nsIn K mainGlobals "law" = some (some (.ref f7))) (l7 : K.lookup f7 = some ⟨oc7, od7, .func (PySem.W.fnOf "law" "law" (defArgs s_law) (defBody s_law) (defScope s_law) .none kV7 dc7 pm7 an7 cd7 ct7), sl7⟩) (cc7 : PySem.W.codeIn K cd7 "law" = true) (k7 : PySem.W.keepIn K (.ref f7) = true)
    {C0 : Addr} (gx0 : PySem.W.nsIn K mainGlobals "Follower" = some (some (.ref C0))) (pg0 : PySem.W.plainGet K C0 Str.empty = true) (hd0 : PySem.W.hasDictIn K C0 = true) (po0 : PySem.W.plainOver K C0 = true) (sa0 : PySem.W.findIn K (.ref C0) "__setattr__" = some (some (.builtin "object.__setattr__"))) (mk0 : PySem.W.makesIn K C0 = true) (kc0 : PySem.W.keepIn K (.ref C0) = true)
    {G0_0 : Addr} {mod0_0 man0_0 : Option Addr} {msl0_0 : Array (Option Value)} {moc0_0 mkV0_0 mdc0_0 mpm0_0 mcd0_0 mct0_0 : Value}
    (mf0_0 : PySem.W.findIn K (.ref C0) "__init__" = some (some (.ref G0_0))) (mi0_0 : PySem.W.isFn K (.ref G0_0) = true) (ml0_0 : K.lookup G0_0 = some ⟨moc0_0, mod0_0, .func (PySem.W.fnOf "__init__" "Follower.__init__" (defArgs s_Follower___init__) (defBody s_Follower___init__) (defScope s_Follower___init__) .none mkV0_0 mdc0_0 mpm0_0 man0_0 mcd0_0 mct0_0), msl0_0⟩) (mc0_0 : PySem.W.codeIn K mcd0_0 "Follower.__init__" = true) (mq0_0 : PySem.W.keepIn K (.ref G0_0) = true)
    {G0_1 : Addr} {mod0_1 man0_1 : Option Addr} {msl0_1 : Array (Option Value)} {moc0_1 mkV0_1 mdc0_1 mpm0_1 mcd0_1 mct0_1 : Value}
    (mf0_1 : PySem.W.findIn K (.ref C0) "put" = some (some (.ref G0_1))) (mi0_1 : PySem.W.isFn K (.ref G0_1) = true) (ml0_1 : K.lookup G0_1 = some ⟨moc0_1, mod0_1, .func (PySem.W.fnOf "put" "Follower.put" (defArgs s_Follower_put) (defBody s_Follower_put) (defScope s_Follower_put) .none mkV0_1 mdc0_1 mpm0_1 man0_1 mcd0_1 mct0_1), msl0_1⟩) (mc0_1 : PySem.W.codeIn K mcd0_1 "Follower.put" = true) (mq0_1 : PySem.W.keepIn K (.ref G0_1) = true)
    {G0_2 : Addr} {mod0_2 man0_2 : Option Addr} {msl0_2 : Array (Option Value)} {moc0_2 mkV0_2 mdc0_2 mpm0_2 mcd0_2 mct0_2 : Value}
    (mf0_2 : PySem.W.findIn K (.ref C0) "add" = some (some (.ref G0_2))) (mi0_2 : PySem.W.isFn K (.ref G0_2) = true) (ml0_2 : K.lookup G0_2 = some ⟨moc0_2, mod0_2, .func (PySem.W.fnOf "add" "Follower.add" (defArgs s_Follower_add) (defBody s_Follower_add) (defScope s_Follower_add) .none mkV0_2 mdc0_2 mpm0_2 man0_2 mcd0_2 mct0_2), msl0_2⟩) (mc0_2 : PySem.W.codeIn K mcd0_2 "Follower.add" = true) (mq0_2 : PySem.W.keepIn K (.ref G0_2) = true)
    {G0_3 : Addr} {mod0_3 man0_3 : Option Addr} {msl0_3 : Array (Option Value)} {moc0_3 mkV0_3 mdc0_3 mpm0_3 mcd0_3 mct0_3 : Value}
    (mf0_3 : PySem.W.findIn K (.ref C0) "back" = some (some (.ref G0_3))) (mi0_3 : PySem.W.isFn K (.ref G0_3) = true) (ml0_3 : K.lookup G0_3 = some ⟨moc0_3, mod0_3, .func (PySem.W.fnOf "back" "Follower.back" (defArgs s_Follower_back) (defBody s_Follower_back) (defScope s_Follower_back) .none mkV0_3 mdc0_3 mpm0_3 man0_3 mcd0_3 mct0_3), msl0_3⟩) (mc0_3 : PySem.W.codeIn K mcd0_3 "Follower.back" = true) (mq0_3 : PySem.W.keepIn K (.ref G0_3) = true)
    {G0_4 : Addr} {mod0_4 man0_4 : Option Addr} {msl0_4 : Array (Option Value)} {moc0_4 mkV0_4 mdc0_4 mpm0_4 mcd0_4 mct0_4 : Value}
    (mf0_4 : PySem.W.findIn K (.ref C0) "on" = some (some (.ref G0_4))) (mi0_4 : PySem.W.isFn K (.ref G0_4) = true) (ml0_4 : K.lookup G0_4 = some ⟨moc0_4, mod0_4, .func (PySem.W.fnOf "on" "Follower.on" (defArgs s_Follower_on) (defBody s_Follower_on) (defScope s_Follower_on) .none mkV0_4 mdc0_4 mpm0_4 man0_4 mcd0_4 mct0_4), msl0_4⟩) (mc0_4 : PySem.W.codeIn K mcd0_4 "Follower.on" = true) (mq0_4 : PySem.W.keepIn K (.ref G0_4) = true)
    {G0_5 : Addr} {mod0_5 man0_5 : Option Addr} {msl0_5 : Array (Option Value)} {moc0_5 mkV0_5 mdc0_5 mpm0_5 mcd0_5 mct0_5 : Value}
    (mf0_5 : PySem.W.findIn K (.ref C0) "shown" = some (some (.ref G0_5))) (mi0_5 : PySem.W.isFn K (.ref G0_5) = true) (ml0_5 : K.lookup G0_5 = some ⟨moc0_5, mod0_5, .func (PySem.W.fnOf "shown" "Follower.shown" (defArgs s_Follower_shown) (defBody s_Follower_shown) (defScope s_Follower_shown) .none mkV0_5 mdc0_5 mpm0_5 man0_5 mcd0_5 mct0_5), msl0_5⟩) (mc0_5 : PySem.W.codeIn K mcd0_5 "Follower.shown" = true) (mq0_5 : PySem.W.keepIn K (.ref G0_5) = true)
    {G0_6 : Addr} {mod0_6 man0_6 : Option Addr} {msl0_6 : Array (Option Value)} {moc0_6 mkV0_6 mdc0_6 mpm0_6 mcd0_6 mct0_6 : Value}
    (mf0_6 : PySem.W.findIn K (.ref C0) "puts" = some (some (.ref G0_6))) (mi0_6 : PySem.W.isFn K (.ref G0_6) = true) (ml0_6 : K.lookup G0_6 = some ⟨moc0_6, mod0_6, .func (PySem.W.fnOf "puts" "Follower.puts" (defArgs s_Follower_puts) (defBody s_Follower_puts) (defScope s_Follower_puts) .none mkV0_6 mdc0_6 mpm0_6 man0_6 mcd0_6 mct0_6), msl0_6⟩) (mc0_6 : PySem.W.codeIn K mcd0_6 "Follower.puts" = true) (mq0_6 : PySem.W.keepIn K (.ref G0_6) = true)
    {G0_7 : Addr} {mod0_7 man0_7 : Option Addr} {msl0_7 : Array (Option Value)} {moc0_7 mkV0_7 mdc0_7 mpm0_7 mcd0_7 mct0_7 : Value}
    (mf0_7 : PySem.W.findIn K (.ref C0) "is_broken" = some (some (.ref G0_7))) (mi0_7 : PySem.W.isFn K (.ref G0_7) = true) (ml0_7 : K.lookup G0_7 = some ⟨moc0_7, mod0_7, .func (PySem.W.fnOf "is_broken" "Follower.is_broken" (defArgs s_Follower_is_broken) (defBody s_Follower_is_broken) (defScope s_Follower_is_broken) .none mkV0_7 mdc0_7 mpm0_7 man0_7 mcd0_7 mct0_7), msl0_7⟩) (mc0_7 : PySem.W.codeIn K mcd0_7 "Follower.is_broken" = true) (mq0_7 : PySem.W.keepIn K (.ref G0_7) = true)
    {G0_8 : Addr} {mod0_8 man0_8 : Option Addr} {msl0_8 : Array (Option Value)} {moc0_8 mkV0_8 mdc0_8 mpm0_8 mcd0_8 mct0_8 : Value}
    (mf0_8 : PySem.W.findIn K (.ref C0) "clauses" = some (some (.ref G0_8))) (mi0_8 : PySem.W.isFn K (.ref G0_8) = true) (ml0_8 : K.lookup G0_8 = some ⟨moc0_8, mod0_8, .func (PySem.W.fnOf "clauses" "Follower.clauses" (defArgs s_Follower_clauses) (defBody s_Follower_clauses) (defScope s_Follower_clauses) .none mkV0_8 mdc0_8 mpm0_8 man0_8 mcd0_8 mct0_8), msl0_8⟩) (mc0_8 : PySem.W.codeIn K mcd0_8 "Follower.clauses" = true) (mq0_8 : PySem.W.keepIn K (.ref G0_8) = true)
    {G0_9 : Addr} {mod0_9 man0_9 : Option Addr} {msl0_9 : Array (Option Value)} {moc0_9 mkV0_9 mdc0_9 mpm0_9 mcd0_9 mct0_9 : Value}
    (mf0_9 : PySem.W.findIn K (.ref C0) "_refuse_broken" = some (some (.ref G0_9))) (mi0_9 : PySem.W.isFn K (.ref G0_9) = true) (ml0_9 : K.lookup G0_9 = some ⟨moc0_9, mod0_9, .func (PySem.W.fnOf "_refuse_broken" "Follower._refuse_broken" (defArgs s_Follower__refuse_broken) (defBody s_Follower__refuse_broken) (defScope s_Follower__refuse_broken) .none mkV0_9 mdc0_9 mpm0_9 man0_9 mcd0_9 mct0_9), msl0_9⟩) (mc0_9 : PySem.W.codeIn K mcd0_9 "Follower._refuse_broken" = true) (mq0_9 : PySem.W.keepIn K (.ref G0_9) = true)
    {G0_10 : Addr} {mod0_10 man0_10 : Option Addr} {msl0_10 : Array (Option Value)} {moc0_10 mkV0_10 mdc0_10 mpm0_10 mcd0_10 mct0_10 : Value}
    (mf0_10 : PySem.W.findIn K (.ref C0) "_row_of" = some (some (.ref G0_10))) (mi0_10 : PySem.W.isFn K (.ref G0_10) = true) (ml0_10 : K.lookup G0_10 = some ⟨moc0_10, mod0_10, .func (PySem.W.fnOf "_row_of" "Follower._row_of" (defArgs s_Follower__row_of) (defBody s_Follower__row_of) (defScope s_Follower__row_of) .none mkV0_10 mdc0_10 mpm0_10 man0_10 mcd0_10 mct0_10), msl0_10⟩) (mc0_10 : PySem.W.codeIn K mcd0_10 "Follower._row_of" = true) (mq0_10 : PySem.W.keepIn K (.ref G0_10) = true)
    {G0_11 : Addr} {mod0_11 man0_11 : Option Addr} {msl0_11 : Array (Option Value)} {moc0_11 mkV0_11 mdc0_11 mpm0_11 mcd0_11 mct0_11 : Value}
    (mf0_11 : PySem.W.findIn K (.ref C0) "_take_in" = some (some (.ref G0_11))) (mi0_11 : PySem.W.isFn K (.ref G0_11) = true) (ml0_11 : K.lookup G0_11 = some ⟨moc0_11, mod0_11, .func (PySem.W.fnOf "_take_in" "Follower._take_in" (defArgs s_Follower__take_in) (defBody s_Follower__take_in) (defScope s_Follower__take_in) .none mkV0_11 mdc0_11 mpm0_11 man0_11 mcd0_11 mct0_11), msl0_11⟩) (mc0_11 : PySem.W.codeIn K mcd0_11 "Follower._take_in" = true) (mq0_11 : PySem.W.keepIn K (.ref G0_11) = true)
    {G0_12 : Addr} {mod0_12 man0_12 : Option Addr} {msl0_12 : Array (Option Value)} {moc0_12 mkV0_12 mdc0_12 mpm0_12 mcd0_12 mct0_12 : Value}
    (mf0_12 : PySem.W.findIn K (.ref C0) "_bring" = some (some (.ref G0_12))) (mi0_12 : PySem.W.isFn K (.ref G0_12) = true) (ml0_12 : K.lookup G0_12 = some ⟨moc0_12, mod0_12, .func (PySem.W.fnOf "_bring" "Follower._bring" (defArgs s_Follower__bring) (defBody s_Follower__bring) (defScope s_Follower__bring) .none mkV0_12 mdc0_12 mpm0_12 man0_12 mcd0_12 mct0_12), msl0_12⟩) (mc0_12 : PySem.W.codeIn K mcd0_12 "Follower._bring" = true) (mq0_12 : PySem.W.keepIn K (.ref G0_12) = true)
    {G0_13 : Addr} {mod0_13 man0_13 : Option Addr} {msl0_13 : Array (Option Value)} {moc0_13 mkV0_13 mdc0_13 mpm0_13 mcd0_13 mct0_13 : Value}
    (mf0_13 : PySem.W.findIn K (.ref C0) "_take_off_last" = some (some (.ref G0_13))) (mi0_13 : PySem.W.isFn K (.ref G0_13) = true) (ml0_13 : K.lookup G0_13 = some ⟨moc0_13, mod0_13, .func (PySem.W.fnOf "_take_off_last" "Follower._take_off_last" (defArgs s_Follower__take_off_last) (defBody s_Follower__take_off_last) (defScope s_Follower__take_off_last) .none mkV0_13 mdc0_13 mpm0_13 man0_13 mcd0_13 mct0_13), msl0_13⟩) (mc0_13 : PySem.W.codeIn K mcd0_13 "Follower._take_off_last" = true) (mq0_13 : PySem.W.keepIn K (.ref G0_13) = true)
    {G0_14 : Addr} {mod0_14 man0_14 : Option Addr} {msl0_14 : Array (Option Value)} {moc0_14 mkV0_14 mdc0_14 mpm0_14 mcd0_14 mct0_14 : Value}
    (mf0_14 : PySem.W.findIn K (.ref C0) "_is_ready" = some (some (.ref G0_14))) (mi0_14 : PySem.W.isFn K (.ref G0_14) = true) (ml0_14 : K.lookup G0_14 = some ⟨moc0_14, mod0_14, .func (PySem.W.fnOf "_is_ready" "Follower._is_ready" (defArgs s_Follower__is_ready) (defBody s_Follower__is_ready) (defScope s_Follower__is_ready) .none mkV0_14 mdc0_14 mpm0_14 man0_14 mcd0_14 mct0_14), msl0_14⟩) (mc0_14 : PySem.W.codeIn K mcd0_14 "Follower._is_ready" = true) (mq0_14 : PySem.W.keepIn K (.ref G0_14) = true)
    {G0_15 : Addr} {mod0_15 man0_15 : Option Addr} {msl0_15 : Array (Option Value)} {moc0_15 mkV0_15 mdc0_15 mpm0_15 mcd0_15 mct0_15 : Value}
    (mf0_15 : PySem.W.findIn K (.ref C0) "_settle" = some (some (.ref G0_15))) (mi0_15 : PySem.W.isFn K (.ref G0_15) = true) (ml0_15 : K.lookup G0_15 = some ⟨moc0_15, mod0_15, .func (PySem.W.fnOf "_settle" "Follower._settle" (defArgs s_Follower__settle) (defBody s_Follower__settle) (defScope s_Follower__settle) .none mkV0_15 mdc0_15 mpm0_15 man0_15 mcd0_15 mct0_15), msl0_15⟩) (mc0_15 : PySem.W.codeIn K mcd0_15 "Follower._settle" = true) (mq0_15 : PySem.W.keepIn K (.ref G0_15) = true)
    {G0_16 : Addr} {mod0_16 man0_16 : Option Addr} {msl0_16 : Array (Option Value)} {moc0_16 mkV0_16 mdc0_16 mpm0_16 mcd0_16 mct0_16 : Value}
    (mf0_16 : PySem.W.findIn K (.ref C0) "_news" = some (some (.ref G0_16))) (mi0_16 : PySem.W.isFn K (.ref G0_16) = true) (ml0_16 : K.lookup G0_16 = some ⟨moc0_16, mod0_16, .func (PySem.W.fnOf "_news" "Follower._news" (defArgs s_Follower__news) (defBody s_Follower__news) (defScope s_Follower__news) .none mkV0_16 mdc0_16 mpm0_16 man0_16 mcd0_16 mct0_16), msl0_16⟩) (mc0_16 : PySem.W.codeIn K mcd0_16 "Follower._news" = true) (mq0_16 : PySem.W.keepIn K (.ref G0_16) = true)
    {G0_17 : Addr} {mod0_17 man0_17 : Option Addr} {msl0_17 : Array (Option Value)} {moc0_17 mkV0_17 mdc0_17 mpm0_17 mcd0_17 mct0_17 : Value}
    (mf0_17 : PySem.W.findIn K (.ref C0) "_rows_to" = some (some (.ref G0_17))) (mi0_17 : PySem.W.isFn K (.ref G0_17) = true) (ml0_17 : K.lookup G0_17 = some ⟨moc0_17, mod0_17, .func (PySem.W.fnOf "_rows_to" "Follower._rows_to" (defArgs s_Follower__rows_to) (defBody s_Follower__rows_to) (defScope s_Follower__rows_to) .none mkV0_17 mdc0_17 mpm0_17 man0_17 mcd0_17 mct0_17), msl0_17⟩) (mc0_17 : PySem.W.codeIn K mcd0_17 "Follower._rows_to" = true) (mq0_17 : PySem.W.keepIn K (.ref G0_17) = true)
    (na0_0 : PySem.W.findIn K (.ref C0) "_clauses" = some none)
    (na0_1 : PySem.W.findIn K (.ref C0) "_offs" = some none)
    (na0_2 : PySem.W.findIn K (.ref C0) "_having" = some none)
    (na0_3 : PySem.W.findIn K (.ref C0) "_trail" = some none)
    (na0_4 : PySem.W.findIn K (.ref C0) "_place" = some none)
    (na0_5 : PySem.W.findIn K (.ref C0) "_rows" = some none)
    (na0_6 : PySem.W.findIn K (.ref C0) "_puts" = some none)
    (na0_7 : PySem.W.findIn K (.ref C0) "_is_put" = some none)
    (na0_8 : PySem.W.findIn K (.ref C0) "_ahead" = some none)
    (na0_9 : PySem.W.findIn K (.ref C0) "_broken_row" = some none)
    (z0 : PySem.W.nsIn K mainGlobals "len" = some none)
    (z1 : PySem.W.nsIn K mainGlobals "range" = some none)
    (z2 : PySem.W.nsIn K mainGlobals "list" = some none)
    (z3 : PySem.W.nsIn K mainGlobals "min" = some none)
    (z4 : PySem.W.nsIn K mainGlobals "tuple" = some none)
    (z5 : PySem.W.nsIn K mainGlobals "abs" = some none)
    (z6 : PySem.W.nsIn K mainGlobals "repr" = some none)
    (z7 : PySem.W.nsIn K mainGlobals "isinstance" = some none)
    (z8 : PySem.W.nsIn K mainGlobals "sorted" = some none)
    : ∃ fd : FuncData, (∀ (s : Shared) (v : Value), BindsTo s fd ⟨[v], []⟩ [("_law_script", v)]) ∧ ∀ base : Heap, K.In base → base.Ns mainGlobals mg → RunAt l.prog w K mg base fa fd ["_law_script"] (spLaw K) := by
  have e := hfa.symm.trans (PySem.W.mg_of X G a7)
  cases e
  have T : Top K mg (fun i => [C0].getD i 0) := ⟨⟨⟨_, _, PySem.W.mg_of X G a0, fun_mk (st := s__law_begun) l0 cc0 k0⟩⟩, ⟨⟨_, _, PySem.W.mg_of X G a1, fun_mk (st := s__law_draw) l1 cc1 k1⟩⟩, ⟨⟨_, _, PySem.W.mg_of X G a2, fun_mk (st := s__law_pick) l2 cc2 k2⟩⟩, ⟨⟨_, _, PySem.W.mg_of X G a3, fun_mk (st := s__law_far_marks) l3 cc3 k3⟩⟩, ⟨⟨_, _, PySem.W.mg_of X G a4, fun_mk (st := s__law_system) l4 cc4 k4⟩⟩, ⟨⟨_, _, PySem.W.mg_of X G a5, fun_mk (st := s__law_puts) l5 cc5 k5⟩⟩, ⟨⟨_, _, PySem.W.mg_of X G a6, fun_mk (st := s__law_spoil) l6 cc6 k6⟩⟩, ⟨⟨_, _, PySem.W.mg_of X G a7, fun_mk (st := s_law) l7 cc7 k7⟩⟩, PySem.W.mg_of X G gx0, ⟨pg0, hd0, po0, sa0⟩, ⟨⟨_, _, ⟨mk0, mf0_0, mi0_0, kc0⟩, fun_mk (st := s_Follower___init__) ml0_0 mc0_0 mq0_0⟩⟩, ⟨⟨_, _, ⟨mf0_1, mi0_1, mq0_1⟩, fun_mk (st := s_Follower_put) ml0_1 mc0_1 mq0_1⟩⟩, ⟨⟨_, _, ⟨mf0_2, mi0_2, mq0_2⟩, fun_mk (st := s_Follower_add) ml0_2 mc0_2 mq0_2⟩⟩, ⟨⟨_, _, ⟨mf0_3, mi0_3, mq0_3⟩, fun_mk (st := s_Follower_back) ml0_3 mc0_3 mq0_3⟩⟩, ⟨⟨_, _, ⟨mf0_4, mi0_4, mq0_4⟩, fun_mk (st := s_Follower_on) ml0_4 mc0_4 mq0_4⟩⟩, ⟨⟨_, _, ⟨mf0_5, mi0_5, mq0_5⟩, fun_mk (st := s_Follower_shown) ml0_5 mc0_5 mq0_5⟩⟩, ⟨⟨_, _, ⟨mf0_6, mi0_6, mq0_6⟩, fun_mk (st := s_Follower_puts) ml0_6 mc0_6 mq0_6⟩⟩, ⟨⟨_, _, ⟨mf0_7, mi0_7, mq0_7⟩, fun_mk (st := s_Follower_is_broken) ml0_7 mc0_7 mq0_7⟩⟩, ⟨⟨_, _, ⟨mf0_8, mi0_8, mq0_8⟩, fun_mk (st := s_Follower_clauses) ml0_8 mc0_8 mq0_8⟩⟩, ⟨⟨_, _, ⟨mf0_9, mi0_9, mq0_9⟩, fun_mk (st := s_Follower__refuse_broken) ml0_9 mc0_9 mq0_9⟩⟩, ⟨⟨_, _, ⟨mf0_10, mi0_10, mq0_10⟩, fun_mk (st := s_Follower__row_of) ml0_10 mc0_10 mq0_10⟩⟩, ⟨⟨_, _, ⟨mf0_11, mi0_11, mq0_11⟩, fun_mk (st := s_Follower__take_in) ml0_11 mc0_11 mq0_11⟩⟩, ⟨⟨_, _, ⟨mf0_12, mi0_12, mq0_12⟩, fun_mk (st := s_Follower__bring) ml0_12 mc0_12 mq0_12⟩⟩, ⟨⟨_, _, ⟨mf0_13, mi0_13, mq0_13⟩, fun_mk (st := s_Follower__take_off_last) ml0_13 mc0_13 mq0_13⟩⟩, ⟨⟨_, _, ⟨mf0_14, mi0_14, mq0_14⟩, fun_mk (st := s_Follower__is_ready) ml0_14 mc0_14 mq0_14⟩⟩, ⟨⟨_, _, ⟨mf0_15, mi0_15, mq0_15⟩, fun_mk (st := s_Follower__settle) ml0_15 mc0_15 mq0_15⟩⟩, ⟨⟨_, _, ⟨mf0_16, mi0_16, mq0_16⟩, fun_mk (st := s_Follower__news) ml0_16 mc0_16 mq0_16⟩⟩, ⟨⟨_, _, ⟨mf0_17, mi0_17, mq0_17⟩, fun_mk (st := s_Follower__rows_to) ml0_17 mc0_17 mq0_17⟩⟩, na0_0, na0_1, na0_2, na0_3, na0_4, na0_5, na0_6, na0_7, na0_8, na0_9, PySem.W.mg_none_of X G z0, PySem.W.mg_none_of X G z1, PySem.W.mg_none_of X G z2, PySem.W.mg_none_of X G z3, PySem.W.mg_none_of X G z4, PySem.W.mg_none_of X G z5, PySem.W.mg_none_of X G z6, PySem.W.mg_none_of X G z7, PySem.W.mg_none_of X G z8⟩
  exact ⟨_, fun s v => .of_eq rfl, fun base _ _ => at_law (fun_mk (st := s_law) l7 cc7 k7) T⟩
end Mc
open PySem PySem.W PyProof.Rows
set_option maxRecDepth 100000 in
set_option maxHeartbeats 0 in
theorem PySem.Challenge.cw_mostclauses_k85_handed_in_and_told_holds : PySem.Challenge.rw_mostclauses_k85_handed_in_and_told.Holds := by
  w_on; o_law; k_head; (case hw => w_witness2)
  k_fill
  refine Mc.walk_at (l := PySem.Challenge.rw_mostclauses_k85_handed_in_and_told) (n := 63) (x := "_law_script") (sp := fun w => Mc.spLaw _) rfl (by decide) rfl (fun w h Y => PySem.W.kIn_of Y) ?F (fun _ _ a ns hl _ hS => ⟨a, ns, rfl, hS, hl, fun _ => rfl⟩)
  case F =>
    intro w mg fa h KX G hmg
    refine' Mc.all_mk KX G hmg ?a0 ?l0 ?cc0 ?k0 ?a1 ?l1 ?cc1 ?k1 ?a2 ?l2 ?cc2 ?k2 ?a3 ?l3 ?cc3 ?k3 ?a4 ?l4 ?cc4 ?k4 ?a5 ?l5 ?cc5 ?k5 ?a6 ?l6 ?cc6 ?k6 ?a7 ?l7 ?cc7 ?k7 ?gx0 ?pg0 ?hd0 ?po0 ?sa0 ?mk0 ?kc0 ?mf0_0 ?mi0_0 ?ml0_0 ?mc0_0 ?mq0_0 ?mf0_1 ?mi0_1 ?ml0_1 ?mc0_1 ?mq0_1 ?mf0_2 ?mi0_2 ?ml0_2 ?mc0_2 ?mq0_2 ?mf0_3 ?mi0_3 ?ml0_3 ?mc0_3 ?mq0_3 ?mf0_4 ?mi0_4 ?ml0_4 ?mc0_4 ?mq0_4 ?mf0_5 ?mi0_5 ?ml0_5 ?mc0_5 ?mq0_5 ?mf0_6 ?mi0_6 ?ml0_6 ?mc0_6 ?mq0_6 ?mf0_7 ?mi0_7 ?ml0_7 ?mc0_7 ?mq0_7 ?mf0_8 ?mi0_8 ?ml0_8 ?mc0_8 ?mq0_8 ?mf0_9 ?mi0_9 ?ml0_9 ?mc0_9 ?mq0_9 ?mf0_10 ?mi0_10 ?ml0_10 ?mc0_10 ?mq0_10 ?mf0_11 ?mi0_11 ?ml0_11 ?mc0_11 ?mq0_11 ?mf0_12 ?mi0_12 ?ml0_12 ?mc0_12 ?mq0_12 ?mf0_13 ?mi0_13 ?ml0_13 ?mc0_13 ?mq0_13 ?mf0_14 ?mi0_14 ?ml0_14 ?mc0_14 ?mq0_14 ?mf0_15 ?mi0_15 ?ml0_15 ?mc0_15 ?mq0_15 ?mf0_16 ?mi0_16 ?ml0_16 ?mc0_16 ?mq0_16 ?mf0_17 ?mi0_17 ?ml0_17 ?mc0_17 ?mq0_17 ?na0_0 ?na0_1 ?na0_2 ?na0_3 ?na0_4 ?na0_5 ?na0_6 ?na0_7 ?na0_8 ?na0_9 ?z0 ?z1 ?z2 ?z3 ?z4 ?z5 ?z6 ?z7 ?z8
    (case a0 => k_is)
    (case l0 => k_is)
    (case cc0 => k_is)
    (case k0 => k_is)
    (case a1 => k_is)
    (case l1 => k_is)
    (case cc1 => k_is)
    (case k1 => k_is)
    (case a2 => k_is)
    (case l2 => k_is)
    (case cc2 => k_is)
    (case k2 => k_is)
    (case a3 => k_is)
    (case l3 => k_is)
    (case cc3 => k_is)
    (case k3 => k_is)
    (case a4 => k_is)
    (case l4 => k_is)
    (case cc4 => k_is)
    (case k4 => k_is)
    (case a5 => k_is)
    (case l5 => k_is)
    (case cc5 => k_is)
    (case k5 => k_is)
    (case a6 => k_is)
    (case l6 => k_is)
    (case cc6 => k_is)
    (case k6 => k_is)
    (case a7 => k_is)
    (case l7 => k_is)
    (case cc7 => k_is)
    (case k7 => k_is)
    (case gx0 => k_is)
    (case pg0 => k_is)
    (case hd0 => k_is)
    (case po0 => k_is)
    (case sa0 => k_is)
    (case mk0 => k_is)
    (case kc0 => k_is)
    (case mf0_0 => k_is)
    (case mi0_0 => k_is)
    (case ml0_0 => k_is)
    (case mc0_0 => k_is)
    (case mq0_0 => k_is)
    (case mf0_1 => k_is)
    (case mi0_1 => k_is)
    (case ml0_1 => k_is)
    (case mc0_1 => k_is)
    (case mq0_1 => k_is)
    (case mf0_2 => k_is)
    (case mi0_2 => k_is)
    (case ml0_2 => k_is)
    (case mc0_2 => k_is)
    (case mq0_2 => k_is)
    (case mf0_3 => k_is)
    (case mi0_3 => k_is)
    (case ml0_3 => k_is)
    (case mc0_3 => k_is)
    (case mq0_3 => k_is)
    (case mf0_4 => k_is)
    (case mi0_4 => k_is)
    (case ml0_4 => k_is)
    (case mc0_4 => k_is)
    (case mq0_4 => k_is)
    (case mf0_5 => k_is)
    (case mi0_5 => k_is)
    (case ml0_5 => k_is)
    (case mc0_5 => k_is)
    (case mq0_5 => k_is)
    (case mf0_6 => k_is)
    (case mi0_6 => k_is)
    (case ml0_6 => k_is)
    (case mc0_6 => k_is)
    (case mq0_6 => k_is)
    (case mf0_7 => k_is)
    (case mi0_7 => k_is)
    (case ml0_7 => k_is)
    (case mc0_7 => k_is)
    (case mq0_7 => k_is)
    (case mf0_8 => k_is)
    (case mi0_8 => k_is)
    (case ml0_8 => k_is)
    (case mc0_8 => k_is)
    (case mq0_8 => k_is)
    (case mf0_9 => k_is)
    (case mi0_9 => k_is)
    (case ml0_9 => k_is)
    (case mc0_9 => k_is)
    (case mq0_9 => k_is)
    (case mf0_10 => k_is)
    (case mi0_10 => k_is)
    (case ml0_10 => k_is)
    (case mc0_10 => k_is)
    (case mq0_10 => k_is)
    (case mf0_11 => k_is)
    (case mi0_11 => k_is)
    (case ml0_11 => k_is)
    (case mc0_11 => k_is)
    (case mq0_11 => k_is)
    (case mf0_12 => k_is)
    (case mi0_12 => k_is)
    (case ml0_12 => k_is)
    (case mc0_12 => k_is)
    (case mq0_12 => k_is)
    (case mf0_13 => k_is)
    (case mi0_13 => k_is)
    (case ml0_13 => k_is)
    (case mc0_13 => k_is)
    (case mq0_13 => k_is)
    (case mf0_14 => k_is)
    (case mi0_14 => k_is)
    (case ml0_14 => k_is)
    (case mc0_14 => k_is)
    (case mq0_14 => k_is)
    (case mf0_15 => k_is)
    (case mi0_15 => k_is)
    (case ml0_15 => k_is)
    (case mc0_15 => k_is)
    (case mq0_15 => k_is)
    (case mf0_16 => k_is)
    (case mi0_16 => k_is)
    (case ml0_16 => k_is)
    (case mc0_16 => k_is)
    (case mq0_16 => k_is)
    (case mf0_17 => k_is)
    (case mi0_17 => k_is)
    (case ml0_17 => k_is)
    (case mc0_17 => k_is)
    (case mq0_17 => k_is)
    (case na0_0 => k_is)
    (case na0_1 => k_is)
    (case na0_2 => k_is)
    (case na0_3 => k_is)
    (case na0_4 => k_is)
    (case na0_5 => k_is)
    (case na0_6 => k_is)
    (case na0_7 => k_is)
    (case na0_8 => k_is)
    (case na0_9 => k_is)
    (case z0 => k_is)
    (case z1 => k_is)
    (case z2 => k_is)
    (case z3 => k_is)
    (case z4 => k_is)
    (case z5 => k_is)
    (case z6 => k_is)
    (case z7 => k_is)
    (case z8 => k_is)
