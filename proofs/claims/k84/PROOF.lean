import PyProof.Rows.All
import Wide.All
import OpenK.AllK
import Wide.FinOn
import HandS.ForMost
import HandS.Flow
import HandS.Wide
import HandS.Small
import HandS.Style
import HandS.IsInst
import HandS.RaiseMore
import HandS.Codes
import HandS.DictComp
import HandS.Conv
import HandS.SetKeys
import KE.SortKeyHeap
import HandS.SortInts
import HandS.Walk
import HandS.Style
import PySem.Challenge.RW_mostclauses_k84_long_chains
set_option Elab.async false
set_option linter.all false
set_option maxRecDepth 100000
set_option maxHeartbeats 4000000
namespace Mc
open PySem PySem.Spec PyProof.Rows L2
/-! ### the text by places -/
def top (i : Nat) : Stmt := PySem.Challenge.pw_mostclauses_k84_long_chains.main.body.getD i (.Pass ⟨0, 0, 0, 0⟩)

abbrev s__wall : Stmt := top 0
abbrev nm__wall : List Str := ["k"]
theorem sc__wall : FnScope nm__wall ["k"] (defScope s__wall) := ⟨rfl, rfl, rfl, by decide +kernel, rfl, by decide +kernel, by decide +kernel⟩
abbrev s__law_begun : Stmt := top 9
abbrev nm__law_begun : List Str := ["_law_script"]
theorem sc__law_begun : FnScope nm__law_begun ["_law_script"] (defScope s__law_begun) := ⟨rfl, rfl, rfl, by decide +kernel, rfl, by decide +kernel, by decide +kernel⟩
abbrev s__law_draw : Stmt := top 10
abbrev nm__law_draw : List Str := ["_law_tape", "_law_many", "_law_spot", "_law_most", "_law_cell", "_law_found"]
theorem sc__law_draw : FnScope nm__law_draw ["_law_tape", "_law_many"] (defScope s__law_draw) := ⟨rfl, rfl, rfl, by decide +kernel, rfl, by decide +kernel, by decide +kernel⟩
abbrev s__law_pick : Stmt := top 11
abbrev nm__law_pick : List Str := ["_law_tape", "_law_some"]
theorem sc__law_pick : FnScope nm__law_pick ["_law_tape", "_law_some"] (defScope s__law_pick) := ⟨rfl, rfl, rfl, by decide +kernel, rfl, by decide +kernel, by decide +kernel⟩
abbrev s__law_shows : Stmt := top 12
abbrev nm__law_shows : List Str := ["_law_clauses", "_law_puts", "_law_rows", "_law_mark", "_law_on", "_law_is_ended", "_law_row", "_law_left", "_law_one"]
theorem sc__law_shows : FnScope nm__law_shows ["_law_clauses", "_law_puts", "_law_rows", "_law_mark"] (defScope s__law_shows) := ⟨rfl, rfl, rfl, by decide +kernel, rfl, by decide +kernel, by decide +kernel⟩
abbrev s__law_risen : Stmt := top 13
abbrev nm__law_risen : List Str := ["_law_marks"]
theorem sc__law_risen : FnScope nm__law_risen ["_law_marks"] (defScope s__law_risen) := ⟨rfl, rfl, rfl, by decide +kernel, rfl, by decide +kernel, by decide +kernel⟩
abbrev s_law : Stmt := top 14
abbrev nm_law : List Str := ["_law_script", "_law_tape", "_law_turn", "_law_many", "_law_by", "_law_first", "_law_step", "_law_is_far", "_law_k", "_law_names", "_law_marks", "_law_wide", "_law_rows", "_law_mixed", "_law_follower", "_law_due", "_law_at", "_law_shown", "_law_last", "_law_name"]
theorem sc_law : FnScope nm_law ["_law_script"] (defScope s_law) := ⟨rfl, rfl, rfl, by decide +kernel, rfl, by decide +kernel, by decide +kernel⟩
/-- an inner statement of a class -/
def inner (s : Stmt) (j : Nat) : Stmt := match s with
  | .ClassDef _ _ _ b _ _ _ _ _ _ _ => b.getD j (.Pass ⟨0, 0, 0, 0⟩)
  | z => z
abbrev s_Follower___init__ : Stmt := inner (top 7) 0
abbrev nm_Follower___init__ : List Str := ["self", "clauses", "clause"]
theorem sc_Follower___init__ : FnScope nm_Follower___init__ ["self", "clauses"] (defScope s_Follower___init__) := ⟨rfl, rfl, rfl, by decide +kernel, rfl, by decide +kernel, by decide +kernel⟩
abbrev s_Follower_put : Stmt := inner (top 7) 1
abbrev nm_Follower_put : List Str := ["self", "mark", "ahead"]
theorem sc_Follower_put : FnScope nm_Follower_put ["self", "mark"] (defScope s_Follower_put) := ⟨rfl, rfl, rfl, by decide +kernel, rfl, by decide +kernel, by decide +kernel⟩
abbrev s_Follower_add : Stmt := inner (top 7) 2
abbrev nm_Follower_add : List Str := ["self", "clause", "ahead"]
theorem sc_Follower_add : FnScope nm_Follower_add ["self", "clause"] (defScope s_Follower_add) := ⟨rfl, rfl, rfl, by decide +kernel, rfl, by decide +kernel, by decide +kernel⟩
abbrev s_Follower_back : Stmt := inner (top 7) 3
abbrev nm_Follower_back : List Str := ["self", "mark", "many_on", "many_clauses"]
theorem sc_Follower_back : FnScope nm_Follower_back ["self"] (defScope s_Follower_back) := ⟨rfl, rfl, rfl, by decide +kernel, rfl, by decide +kernel, by decide +kernel⟩
abbrev s_Follower_on : Stmt := inner (top 7) 4
abbrev nm_Follower_on : List Str := ["self"]
theorem sc_Follower_on : FnScope nm_Follower_on ["self"] (defScope s_Follower_on) := ⟨rfl, rfl, rfl, by decide +kernel, rfl, by decide +kernel, by decide +kernel⟩
abbrev s_Follower_shown : Stmt := inner (top 7) 5
abbrev nm_Follower_shown : List Str := ["self", "mark", "offs", "off"]
theorem sc_Follower_shown : FnScope nm_Follower_shown ["self", "mark"] (defScope s_Follower_shown) := ⟨rfl, rfl, rfl, by decide +kernel, rfl, by decide +kernel, by decide +kernel⟩
abbrev s_Follower__refuse_broken : Stmt := inner (top 7) 9
abbrev nm_Follower__refuse_broken : List Str := ["self"]
theorem sc_Follower__refuse_broken : FnScope nm_Follower__refuse_broken ["self"] (defScope s_Follower__refuse_broken) := ⟨rfl, rfl, rfl, by decide +kernel, rfl, by decide +kernel, by decide +kernel⟩
abbrev s_Follower__row_of : Stmt := inner (top 7) 10
abbrev nm_Follower__row_of : List Str := ["self", "mark"]
theorem sc_Follower__row_of : FnScope nm_Follower__row_of ["self", "mark"] (defScope s_Follower__row_of) := ⟨rfl, rfl, rfl, by decide +kernel, rfl, by decide +kernel, by decide +kernel⟩
abbrev s_Follower__take_in : Stmt := inner (top 7) 11
abbrev nm_Follower__take_in : List Str := ["self", "clause", "number", "mark"]
theorem sc_Follower__take_in : FnScope nm_Follower__take_in ["self", "clause"] (defScope s_Follower__take_in) := ⟨rfl, rfl, rfl, by decide +kernel, rfl, by decide +kernel, by decide +kernel⟩
abbrev s_Follower__bring : Stmt := inner (top 7) 12
abbrev nm_Follower__bring : List Str := ["self", "mark", "row", "ready", "number"]
theorem sc_Follower__bring : FnScope nm_Follower__bring ["self", "mark", "row"] (defScope s_Follower__bring) := ⟨rfl, rfl, rfl, by decide +kernel, rfl, by decide +kernel, by decide +kernel⟩
abbrev s_Follower__take_off_last : Stmt := inner (top 7) 13
abbrev nm_Follower__take_off_last : List Str := ["self", "mark", "number"]
theorem sc_Follower__take_off_last : FnScope nm_Follower__take_off_last ["self"] (defScope s_Follower__take_off_last) := ⟨rfl, rfl, rfl, by decide +kernel, rfl, by decide +kernel, by decide +kernel⟩
abbrev s_Follower__is_ready : Stmt := inner (top 7) 14
abbrev nm_Follower__is_ready : List Str := ["self", "number"]
theorem sc_Follower__is_ready : FnScope nm_Follower__is_ready ["self", "number"] (defScope s_Follower__is_ready) := ⟨rfl, rfl, rfl, by decide +kernel, rfl, by decide +kernel, by decide +kernel⟩
abbrev s_Follower__settle : Stmt := inner (top 7) 15
abbrev nm_Follower__settle : List Str := ["self", "numbers", "waiting", "at", "number", "left", "mark"]
theorem sc_Follower__settle : FnScope nm_Follower__settle ["self", "numbers"] (defScope s_Follower__settle) := ⟨rfl, rfl, rfl, by decide +kernel, rfl, by decide +kernel, by decide +kernel⟩
abbrev s_Follower__news : Stmt := inner (top 7) 16
abbrev nm_Follower__news : List Str := ["self", "ahead"]
theorem sc_Follower__news : FnScope nm_Follower__news ["self", "ahead"] (defScope s_Follower__news) := ⟨rfl, rfl, rfl, by decide +kernel, rfl, by decide +kernel, by decide +kernel⟩
abbrev s_Follower__rows_to : Stmt := inner (top 7) 17
abbrev nm_Follower__rows_to : List Str := ["self", "marks", "needed", "waiting", "mark", "row", "place", "off"]
theorem sc_Follower__rows_to : FnScope nm_Follower__rows_to ["self", "marks"] (defScope s_Follower__rows_to) := ⟨rfl, rfl, rfl, by decide +kernel, rfl, by decide +kernel, by decide +kernel⟩
/-! ### a def that stands in the top and keeps a promise -/
structure At (K : PySem.W.Frag) (mg : Str → Option Value) (x : Str) (st : Stmt) : Prop where
  ex : ∃ f fd, mg x = some (.ref f) ∧ Fun K x x st f fd
structure Has (P : Program) (w : World) (K : PySem.W.Frag) (mg : Str → Option Value) (base : Heap) (k : Nat) (x : Str) (ps : List Str) (sp : Sp) : Prop where
  ex : ∃ f fd, mg x = some (.ref f) ∧ PySem.W.keepIn K (.ref f) = true ∧ Binds K fd ps [] ∧ FnOk P w K mg base CX0 k f fd ps sp
theorem pe_has {X : Cx} {k : Nat} {x : Str} {ps : List Str} {sp : Sp} {e : Expr} {es : List Expr} {t : TA} {p pos : Pos} (h : Has X.prog X.w X.K X.mg X.base k x ps sp) (hr : Room k X.A) (hg : Gl X x) (ha : PA X (e :: es) t)
    (hdb : (x == ("__debug__" : Str)) = false := by decide) (he : starEach (e :: es) X.env = (false, eval e X.env) :: starEach es X.env := by rfl) (hpl : (backTo pos (starEach es X.env)).any (·.1) = false := by rfl) :
    PE X (.Call (.Name x p) (e :: es) [] pos) (tCall sp [] E0 t) := by
  obtain ⟨f, fd, hm, hk, hb, F⟩ := h.ex
  exact pe_call F hr hg hm hk hb .nil pass0 ha hdb he hpl
abbrev BindsAll (x : Str) (st : Stmt) (ps : List Str) : Prop :=
  ∀ (kV doc pm : Value) (an : Option Addr) (cdv ct : Value) (us : List Value), us.length = ps.length → bindArgs (PySem.W.fnOf x x (defArgs st) (defBody st) (defScope st) .none kV doc pm an cdv ct) ⟨us, []⟩ = pure (ps.zip us)
section
variable {P : Program} {w : World} {K : PySem.W.Frag} {mg : Str → Option Value} {base : Heap}
theorem has_of {x : Str} {st : Stmt} {N ps : List Str} {k : Nat} {sp : Sp} (A : At K mg x st) (S : FnScope N ps (defScope st)) (B : BindsAll x st ps) (len : ∀ vs H Q E, sp vs H Q E → vs.length = ps.length)
    (hbody : ∀ (f : Addr) (cdv : Value) (A : Around) (outer : List Env) (s : Shared) (H : Hp) (vs : List V) (Q : VK) (E : XK), Room k (A.deeper (envOfC x (defScope st) s.heap.objs.size f cdv)) → sp vs H Q E →
      ∃ t, PSs (cxOf CX0 P w K mg base N x (defScope st) f cdv A outer s H E).nox (defBody st) t ∧ t { nx := fun _ H' => Q .non H', rt := Q } (start N vs) H) : Has P w K mg base (k + 1) x ps sp := by
  obtain ⟨f, fd, hm, F⟩ := A.ex
  exact ⟨f, fd, hm, F.kp, F.binds B, F.ok S len fun cdv A outer s H vs Q E hr h => hbody f cdv A outer s H vs Q E hr h⟩
end
theorem pe_const {X : Cx} {x : Str} {i : Int} {pos : Pos} (hm : ∃ t, X.mg x = some (.int i t)) (hg : Gl X x) (hd : (x == ("__debug__" : Str)) = false := by decide) : PE X (.Name x pos) (tC (.int i)) := by
  obtain ⟨t, hm⟩ := hm
  exact pe_glob hg hm ⟨t, rfl⟩ hd
/-! ### repr of a truth -/
def boolText (b : Bool) : Str := if b then "True" else "False"
theorem boolText_inj {a b : Bool} (h : boolText a = boolText b) : a = b := by
  cases a <;> cases b <;> first | rfl | exact absurd h (by decide +kernel)
theorem call_repr_bool {X : Cx} : CallR X (.builtin "repr") (fun xs H Q => ∃ b, xs = [.bl b] ∧ Q (.str (boolText b)) H) := by
  intro pins s σ H xs us Q I r h
  obtain ⟨b, rfl, q⟩ := h
  obtain ⟨u, rfl, ru⟩ := vals1 r
  cases ru
  cases b with
  | true => exact PySem.P.repr_of_bool ⟨.str (boolText true), H, I.tok _, ⟨_, rfl⟩, q⟩
  | false => exact PySem.P.repr_of_bool ⟨.str (boolText false), H, I.tok _, ⟨_, rfl⟩, q⟩
/-! ### heaps -/
/-- all that is known stays, but for what stands at t -/
def Kp (t : Addr) (H H' : Hp) : Prop := ∀ b o, H b = some o → b ≠ t → H' b = some o
theorem Kp.refl {t : Addr} (H : Hp) : Kp t H H := fun _ _ h _ => h
theorem Kp.trans {t : Addr} {H H1 H2 : Hp} (a : Kp t H H1) (b : Kp t H1 H2) : Kp t H H2 := fun c o h n => b c o (a c o h n) n
theorem Kp.new {t p : Addr} {H : Hp} {o : HO} (h : H p = none) : Kp t H (upd H p o) := fun b u e _ => by
  rw [upd_ne (ne_of_none e h)]
  exact e
theorem Kp.at {t : Addr} {H : Hp} {o : HO} : Kp t H (upd H t o) := fun b u e n => by
  rw [upd_ne n]
  exact e
theorem Kp.same {t : Addr} {H H' : Hp} (s : Same H H') : Kp t H H' := fun b o e _ => s b o e
theorem same_new {H : Hp} {p : Addr} {o : HO} (h : H p = none) : Same H (upd H p o) := fun b u e => by
  rw [upd_ne (ne_of_none e h)]
  exact e
/-! ### the tape -/
def tk (c : Addr) (spot left : Int) : List (Key × V) := [(.inr "cells", .ref c), (.inr "spot", .int spot), (.inr "left", .int left)]
structure TapeC (H : Hp) (t c : Addr) (ns : List Int) (spot left : Int) : Prop where
  d : H t = some (.dK (tk c spot left))
  l : H c = some (.lst (ns.map V.int))
  ne : 0 < ns.length
  lt : ns.length ≤ 63
  s0 : 0 ≤ spot
  l0 : 0 ≤ left
/-- a tape at t, its cells at c, of which at most n draws are taken -/
def Tape (H : Hp) (t c : Addr) (n : Nat) : Prop := ∃ ns spot left, TapeC H t c ns spot left ∧ spot ≤ n
theorem Tape.ne {H : Hp} {t c : Addr} {n : Nat} (h : Tape H t c n) : t ≠ c := by
  obtain ⟨ns, spot, left, h, _⟩ := h
  exact ne_of h.d h.l (by intro z; cases z)
theorem Tape.le {H : Hp} {t c : Addr} {n m : Nat} (h : Tape H t c n) (l : n ≤ m) : Tape H t c m := by
  obtain ⟨ns, spot, left, h, e⟩ := h
  exact ⟨ns, spot, left, h, by omega⟩
theorem Tape.stay {H H' : Hp} {t c : Addr} {n : Nat} (h : Tape H t c n) (k : ∀ b o, H b = some o → b = t ∨ b = c → H' b = some o) : Tape H' t c n := by
  obtain ⟨ns, spot, left, h, e⟩ := h
  exact ⟨ns, spot, left, ⟨k _ _ h.d (.inl rfl), k _ _ h.l (.inr rfl), h.ne, h.lt, h.s0, h.l0⟩, e⟩
theorem Tape.same {H H' : Hp} {t c : Addr} {n : Nat} (h : Tape H t c n) (s : Same H H') : Tape H' t c n := h.stay fun b o e _ => s b o e
theorem Tape.new {H : Hp} {t c p : Addr} {n : Nat} {o : HO} (h : Tape H t c n) (hp : H p = none) : Tape (upd H p o) t c n := h.same (same_new hp)
theorem Tape.at_t {H : Hp} {t c : Addr} {n : Nat} (h : Tape H t c n) : ∃ o, H t = some o := by
  obtain ⟨ns, spot, left, h, _⟩ := h
  exact ⟨_, h.d⟩
theorem Tape.at_c {H : Hp} {t c : Addr} {n : Nat} (h : Tape H t c n) : ∃ o, H c = some o := by
  obtain ⟨ns, spot, left, h, _⟩ := h
  exact ⟨_, h.l⟩
theorem k_cells : ¬ (("cells" : Str) = "spot") := by decide +kernel
theorem k_cells2 : ¬ (("cells" : Str) = "left") := by decide +kernel
theorem k_spot : ¬ (("spot" : Str) = "left") := by decide +kernel
theorem tk_cells (c : Addr) (a b : Int) : valV (tk c a b) (Sum.inr "cells" : Key) = some (.ref c) := valV_pos rfl
theorem tk_spot (c : Addr) (a b : Int) : valV (tk c a b) (Sum.inr "spot" : Key) = some (.int a) := by
  unfold tk
  rw [valV_neg (fun e => k_cells (Sum.inr.inj e)), valV_pos rfl]
theorem tk_left (c : Addr) (a b : Int) : valV (tk c a b) (Sum.inr "left" : Key) = some (.int b) := by
  unfold tk
  rw [valV_neg (fun e => k_cells2 (Sum.inr.inj e)), valV_neg (fun e => k_spot (Sum.inr.inj e)), valV_pos rfl]
theorem tk_put_spot (c : Addr) (a b x : Int) : putK (tk c a b) (Sum.inr "spot" : Key) (.int x) = tk c x b := by
  rfl
theorem tk_put_left (c : Addr) (a b x : Int) : putK (tk c a b) (Sum.inr "left" : Key) (.int x) = tk c a x := by
  rfl
theorem dg_cells {H : Hp} {t c : Addr} {a b : Int} (h : H t = some (.dK (tk c a b))) : DGet H t (.str "cells") (some (.ref c)) := by
  have g := DGet.k (k := (Sum.inr "cells" : Key)) h
  rw [tk_cells] at g
  exact g
theorem dg_spot {H : Hp} {t c : Addr} {a b : Int} (h : H t = some (.dK (tk c a b))) : DGet H t (.str "spot") (some (.int a)) := by
  have g := DGet.k (k := (Sum.inr "spot" : Key)) h
  rw [tk_spot] at g
  exact g
theorem dg_left {H : Hp} {t c : Addr} {a b : Int} (h : H t = some (.dK (tk c a b))) : DGet H t (.str "left") (some (.int b)) := by
  have g := DGet.k (k := (Sum.inr "left" : Key)) h
  rw [tk_left] at g
  exact g
theorem dp_spot {H : Hp} {t c : Addr} {a b : Int} (x : Int) (h : H t = some (.dK (tk c a b))) : DPut H t (.str "spot") (.int x) (upd H t (.dK (tk c x b))) := by
  have g := DPut.k (k := (Sum.inr "spot" : Key)) (v := .int x) h (small1000 (by show 3 ≤ 1000; decide))
  rw [tk_put_spot] at g
  exact g
theorem dp_left {H : Hp} {t c : Addr} {a b : Int} (x : Int) (h : H t = some (.dK (tk c a b))) : DPut H t (.str "left") (.int x) (upd H t (.dK (tk c a x))) := by
  have g := DPut.k (k := (Sum.inr "left" : Key)) (v := .int x) h (small1000 (by show 3 ≤ 1000; decide))
  rw [tk_put_left] at g
  exact g
theorem Tape.fresh {H : Hp} {t c p : Addr} {n : Nat} (h : Tape H t c n) (hp : H p = none) : p ≠ t := by
  obtain ⟨o, e⟩ := h.at_t
  exact (ne_of_none e hp).symm
theorem Tape.fresh_c {H : Hp} {t c p : Addr} {n : Nat} (h : Tape H t c n) (hp : H p = none) : p ≠ c := by
  obtain ⟨o, e⟩ := h.at_c
  exact (ne_of_none e hp).symm
/-! ### a list beside the empty list -/
section
variable {X : Cx}
def rEqNil (K : PySem.W.Frag) (neg : Bool) : R2 := fun x y H Q => ∃ a b xs, x = .ref a ∧ y = .ref b ∧ SqL K H a xs ∧ SqL K H b [] ∧ Q (.bl (if neg = true then !xs.isEmpty else xs.isEmpty)) H
theorem op_eqNil (hu : X.A.units + 1 < cLine) : OpR X (compareOp .Eq) (rEqNil X.K false) := by
  intro pins s σ H x y v u Q I rx ry h
  obtain ⟨a, b, xs, rfl, rfl, ha, hb, q⟩ := h
  cases rx
  cases ry
  obtain ⟨us, vs, pl, _⟩ := I.list ha
  obtain ⟨ws, vs2, pl2, _⟩ := I.list hb
  cases vs2
  have l := vs.length
  cases xs with
  | nil =>
    cases vs
    exact SeqAt.RcAt.lists (e := fun _ => true) pl.isList pl2.isList rfl (by omega) (fun j h1 => absurd h1 (Nat.not_lt_zero _)) _ _ _ _ ⟨.bl true, H, I, rfl, q⟩
  | cons z zs => exact SeqAt.RcAt.lists_lengths pl.isList pl2.isList (by rw [List.size_toArray, ← l]; rfl) (by omega) _ _ _ _ ⟨.bl false, H, I, rfl, q⟩
theorem op_neNil (hu : X.A.units + 1 < cLine) : OpR X (compareOp .NotEq) (rEqNil X.K true) := by
  intro pins s σ H x y v u Q I rx ry h
  obtain ⟨a, b, xs, rfl, rfl, ha, hb, q⟩ := h
  cases rx
  cases ry
  obtain ⟨us, vs, pl, _⟩ := I.list ha
  obtain ⟨ws, vs2, pl2, _⟩ := I.list hb
  cases vs2
  have l := vs.length
  cases xs with
  | nil =>
    cases vs
    exact SeqAt.RcNeAt.lists (e := fun _ => true) pl.isList pl2.isList rfl (by omega) (fun j h1 => absurd h1 (Nat.not_lt_zero _)) _ _ _ _ ⟨.bl false, H, I, rfl, q⟩
  | cons z zs => exact SeqAt.RcNeAt.lists_lengths pl.isList pl2.isList (by rw [List.size_toArray, ← l]; rfl) (by omega) _ _ _ _ ⟨.bl true, H, I, rfl, q⟩
end
/-! ### comprehensions that leave what is known as it is -/
theorem take_sel {α β : Type} (t : α → Bool) (f : α → β) {xs : List α} {i : Nat} {x : α} (h : xs[i]? = some x) :
    ((xs.take (i + 1)).filter t).map f = ((xs.take i).filter t).map f ++ (if t x = true then [f x] else []) := by
  rw [List.take_add_one, h, List.filter_append, List.map_append]
  by_cases ht : t x = true
  · rw [if_pos ht]
    simp [ht]
  · rw [if_neg ht]
    simp [ht]
section
variable {K : PySem.W.Frag} {a : Addr} {xs : List V} {tt : TT} {te : TE} {vs : List Nat} {σ : L2.St} {H : Hp} {D : Addr} {Qd : Hp → Prop} {j : Nat}
/-- what a turn asks: the test, the item -/
structure SelT (H : Hp) (σ : L2.St) (vs : List Nat) (j : Nat) (tt : TT) (te : TE) (x : V) (b : Bool) (y : V) : Prop where
  wip : wipe ((wipe σ vs).set j (some x)) vs = wipe σ vs
  tst : ∀ H', Same H H' → ∀ R : Bool → Hp → Prop, (∀ H'', Same H' H'' → R b H'') → tt ((wipe σ vs).set j (some x)) H' R
  elt : b = true → ∀ H', Same H H' → ∀ R : VK, (∀ H'', Same H' H'' → R y H'') → te ((wipe σ vs).set j (some x)) H' R
theorem sel_turn {x y : V} {b : Bool} {acc : List V} {H' : Hp} {P : Hp → Prop} (hD : H D = none) (s : SelT H σ vs j tt te x b y) (hs : Same H H') (ha : H' D = some (.lst acc)) (hz : acc.length < sizeLine)
    (k : ∀ H'', Same H H'' → H'' D = some (.lst (acc ++ (if b = true then [y] else []))) → P H'') :
    gName j x (wipe σ vs) H' fun σ2 H2 => wipe σ2 vs = wipe σ vs ∧ tt σ2 H2 fun c H3 => if c = true then te σ2 H3 fun y H4 => ∃ acc, H4 D = some (.lst acc) ∧ acc.length < sizeLine ∧ P (upd H4 D (.lst (acc ++ [y]))) else P H3 := by
  refine ⟨s.wip, s.tst H' hs _ fun H3 s3 => ?_⟩
  have h3 := s3 D _ ha
  cases b with
  | false =>
    refine iteF (k H3 (hs.trans s3) ?_)
    rw [h3, if_neg Bool.false_ne_true, List.append_nil]
  | true =>
    refine iteT (s.elt rfl H3 (hs.trans s3) _ fun H4 s4 => ⟨acc, s4 D _ h3, hz, k _ (fun c o e => ?_) ?_⟩)
    · rw [upd_ne (ne_of_none e hD)]
      exact s4 c o (s3 c o (hs c o e))
    · rw [upd_same, if_pos rfl]
theorem lc_sel_list (t : V → Bool) (f : V → V) (hx : SqL K H a xs) (hD : H D = none) (hz : xs.length ≤ 1000000) (hs : ∀ x ∈ xs, SelT H σ vs j tt te x (t x) (f x)) (k : ∀ H', Same H H' → H' D = some (.lst ((xs.filter t).map f)) → Qd H') :
    ∃ W : Nat → Nat → Hp → Prop, (∃ m, W 0 m (upd H D (.lst []))) ∧ ∀ i m H, W i m H →
      ((Itl K a).stop i H ∧ Qd H) ∨ ((Itl K a).go i H ∧ ∃ Nx : Hp → Prop, (∀ H', Nx H' → ∃ m', m' < m ∧ W (i + 1) m' H') ∧ ∀ x H', (Itl K a).yld i H x H' → gName j x (wipe σ vs) H' fun σ2 H2 => wipe σ2 vs = wipe σ vs ∧ tt σ2 H2 fun b H3 =>
        if b = true then te σ2 H3 fun y H4 => ∃ acc, H4 D = some (.lst acc) ∧ acc.length < sizeLine ∧ Nx (upd H4 D (.lst (acc ++ [y]))) else Nx H3) := by
  have line : 1000000 < sizeLine := by decide
  refine lc_list (xs := xs) (fun i H' => Same H H' ∧ H' D = some (.lst (((xs.take i).filter t).map f))) ⟨same_new hD, upd_same⟩ (fun i H' _ p => p.1.seq hx) (fun i x H' hi p => ?_) fun H' p => k H' p.1 (by rw [p.2, List.take_length])
  refine sel_turn hD (hs x (List.mem_of_getElem? hi)) p.1 p.2 ?_ fun H'' s'' e => ⟨s'', by rw [e, take_sel t f hi]⟩
  have l1 := List.length_filter_le t (xs.take i)
  have l2 := List.length_take_le i xs
  have l3 : (xs.take i).length ≤ xs.length := by rw [List.length_take]; omega
  rw [List.length_map]
  omega
theorem Same.seqT {H H' : Hp} (e : Same H H') (h : SqT K H a xs) : SqT K H' a xs := by
  rcases h with (h | ⟨o, h⟩) | h
  · exact .inl (.inl (e _ _ h))
  · exact .inl (.inr ⟨o, e _ _ h⟩)
  · exact .inr h
theorem lc_sel_tup (t : V → Bool) (f : V → V) (hx : SqT K H a xs) (hD : H D = none) (hz : xs.length ≤ 1000000) (hs : ∀ x ∈ xs, SelT H σ vs j tt te x (t x) (f x)) (k : ∀ H', Same H H' → H' D = some (.lst ((xs.filter t).map f)) → Qd H') :
    ∃ W : Nat → Nat → Hp → Prop, (∃ m, W 0 m (upd H D (.lst []))) ∧ ∀ i m H, W i m H →
      ((Itt K a).stop i H ∧ Qd H) ∨ ((Itt K a).go i H ∧ ∃ Nx : Hp → Prop, (∀ H', Nx H' → ∃ m', m' < m ∧ W (i + 1) m' H') ∧ ∀ x H', (Itt K a).yld i H x H' → gName j x (wipe σ vs) H' fun σ2 H2 => wipe σ2 vs = wipe σ vs ∧ tt σ2 H2 fun b H3 =>
        if b = true then te σ2 H3 fun y H4 => ∃ acc, H4 D = some (.lst acc) ∧ acc.length < sizeLine ∧ Nx (upd H4 D (.lst (acc ++ [y]))) else Nx H3) := by
  have line : 1000000 < sizeLine := by decide
  refine lc_tup (xs := xs) (fun i H' => Same H H' ∧ H' D = some (.lst (((xs.take i).filter t).map f))) ⟨same_new hD, upd_same⟩ (fun i H' _ p => Same.seqT p.1 hx) (fun i x H' hi p => ?_) fun H' p => k H' p.1 (by rw [p.2, List.take_length])
  refine sel_turn hD (hs x (List.mem_of_getElem? hi)) p.1 p.2 ?_ fun H'' s'' e => ⟨s'', by rw [e, take_sel t f hi]⟩
  have l1 := List.length_filter_le t (xs.take i)
  have l3 : (xs.take i).length ≤ xs.length := by rw [List.length_take]; omega
  rw [List.length_map]
  omega
theorem take_range {n i : Nat} (h : i < n) : (List.range n)[i]? = some i := by
  rw [List.getElem?_range h]
theorem lc_sel_range {lo : Int} {n : Nat} (t : Nat → Bool) (f : Nat → V) (hD : H D = none) (hz : n ≤ 1000000) (hs : ∀ i, i < n → SelT H σ vs j tt te (.int (lo + i)) (t i) (f i)) (k : ∀ H', Same H H' → H' D = some (.lst (((List.range n).filter t).map f)) → Qd H') :
    ∃ W : Nat → Nat → Hp → Prop, (∃ m, W 0 m (upd H D (.lst []))) ∧ ∀ i m H, W i m H →
      ((Itr lo n).stop i H ∧ Qd H) ∨ ((Itr lo n).go i H ∧ ∃ Nx : Hp → Prop, (∀ H', Nx H' → ∃ m', m' < m ∧ W (i + 1) m' H') ∧ ∀ x H', (Itr lo n).yld i H x H' → gName j x (wipe σ vs) H' fun σ2 H2 => wipe σ2 vs = wipe σ vs ∧ tt σ2 H2 fun b H3 =>
        if b = true then te σ2 H3 fun y H4 => ∃ acc, H4 D = some (.lst acc) ∧ acc.length < sizeLine ∧ Nx (upd H4 D (.lst (acc ++ [y]))) else Nx H3) := by
  have line : 1000000 < sizeLine := by decide
  refine lc_range (fun i H' => Same H H' ∧ H' D = some (.lst ((((List.range n).take i).filter t).map f))) ⟨same_new hD, upd_same⟩ (fun i H' hi p => ?_) fun H' p => k H' p.1 (by rw [p.2, List.take_of_length_le (by rw [List.length_range]; omega)])
  refine sel_turn hD (hs i hi) p.1 p.2 ?_ fun H'' s'' e => ⟨s'', by rw [e, take_sel t f (take_range hi)]⟩
  have l1 := List.length_filter_le t ((List.range n).take i)
  have l3 : ((List.range n).take i).length ≤ n := by rw [List.length_take, List.length_range]; omega
  rw [List.length_map]
  omega
end
theorem filter_all {α : Type} (xs : List α) : xs.filter (fun _ => true) = xs := List.filter_eq_self.mpr fun _ _ => rfl
theorem Kp.free {t D : Addr} {H H' : Hp} (k : Kp t H H') (h : H' D = none) (n : D ≠ t) : H D = none := by
  cases e : H D with
  | none => rfl
  | some o =>
    rw [k D o e n] at h
    cases h
theorem Kp.mut {t p : Addr} {H H' : Hp} {o : HO} (k : Kp t H H') (h : H p = none) : Kp t H (upd H' p o) := fun b u e n => by
  rw [upd_ne (ne_of_none e h)]
  exact k b u e n
theorem Tape.mut {H : Hp} {t c p : Addr} {n : Nat} {o : HO} (h : Tape H t c n) (n1 : p ≠ t) (n2 : p ≠ c) : Tape (upd H p o) t c n := h.stay fun b u e z => by
  rw [upd_ne]
  · exact e
  · rcases z with rfl | rfl
    · exact n1.symm
    · exact n2.symm
theorem yes_go {σ : L2.St} {H : Hp} {A B : Hp → Prop} (h : A H) : tYes σ H (fun b H' => if b = true then A H' else B H') := by
  show (if true = true then A H else B H)
  rw [if_pos rfl]
  exact h
/-! ### d.update(e) of two dicts -/
theorem mt_update {X : Cx} : MtR X "dict.update" (fun x xs H Q => ∃ (a b : Addr) (ks ms : List (Key × V)), x = .ref a ∧ xs = [.ref b] ∧ H a = some (.dK ks) ∧ H b = some (.dK ms) ∧ a ≠ b ∧ ks.length + ms.length ≤ sizeLine ∧
    Q .non (upd H a (.dK (mergeK ks ms)))) := by
  intro pins s σ H x xs v us Q I rx rxs h
  obtain ⟨a, b, ks, ms, rfl, rfl, ha, hb, ne, few, q⟩ := h
  cases rx
  obtain ⟨u, rfl, ru⟩ := vals1 rxs
  cases ru
  obtain ⟨za, da, va, ra, dda⟩ := dk_of I.hok ha
  obtain ⟨zb, db, vb, rb, ddb⟩ := dk_of I.hok hb
  refine call_meetsIn PySem.F.slot_dict_update dda.typeIs PySem.F.entry_dict_update (PySem.F.args_dict_update_2 _ _) (meets_dict_update (mixKind X.prog X.w) a b ne db) ⟨va, vb, dda, ddb, by rw [← ra.length, ← rb.length]; exact few, fun h' d1 d2 same => ?_⟩
  have there : ∃ o, h'.get? a = some o := by
    obtain ⟨o, _, _, ho, _⟩ := id d1
    exact ⟨o, ho⟩
  have small : (mergeK ks ms).length ≤ sizeLine := Nat.le_trans (length_mergeK ms ks) few
  exact ⟨.non, _, d_write (t' := s.toks) I (by rw [ha]; exact True.intro) same there (dk_new small da (rb.merge ra) d1), rfl, q⟩
/-! ### rules whose reading names the written part, for use within a comprehension -/
section
variable {X : Cx} {K : PySem.W.Frag}
theorem op_inK (h : X.K = K) : OpR X (compareOp .In) (rIn K false) := h ▸ op_in_seq
theorem op_notInK (h : X.K = K) : OpR X (compareOp .NotIn) (rIn K true) := h ▸ op_notIn_seq
theorem op_eqNilK (h : X.K = K) (hu : X.A.units + 1 < cLine) : OpR X (compareOp .Eq) (rEqNil K false) := h ▸ op_eqNil hu
theorem op_neNilK (h : X.K = K) (hu : X.A.units + 1 < cLine) : OpR X (compareOp .NotEq) (rEqNil K true) := h ▸ op_neNil hu
theorem ix_listK (h : X.K = K) : IxR X (rIxL K) := h ▸ ix_list
theorem ix_tupK (h : X.K = K) : IxR X (rIxT K) := h ▸ ix_tup
theorem ix_seqK (h : X.K = K) : IxR X (rIx K) := h ▸ ix_seq
theorem len_seqK (h : X.K = K) : CallR X (.builtin "len") (fun xs H Q => ∃ p ys, xs = [.ref p] ∧ (SqL K H p ys ∨ SqT K H p ys) ∧ Q (.int (ys.length : Nat)) H) := h ▸ call_len_seq
theorem pi_listK {tg l : Expr} {tl : TE} (h : X.K = K) (hl : PE X l tl) : PI X tg l (iList K tl) := h ▸ pi_list hl
theorem pi_tupK {tg l : Expr} {tl : TE} (h : X.K = K) (hl : PE X l tl) : PI X tg l (iTup K tl) := h ▸ pi_tup hl
theorem sl_listK (h : X.K = K) : SlR X (rSlL K) := h ▸ sl_list
theorem sl_tupK (h : X.K = K) : SlR X (rSlT K) := h ▸ sl_tup
theorem cr_sumK (h : X.K = K) (hc : X.calm = true) : CallR X (.builtin "sum") (rSum K) := h ▸ cr_sum hc
theorem cr_maxL (h : X.K = K) (hc : X.calm = true) : CallR X (.builtin "max") (rMax K) := h ▸ cr_max hc
theorem cr_minL (h : X.K = K) (hc : X.calm = true) : CallR X (.builtin "min") (rMin K) := h ▸ cr_min hc
theorem cr_allK (h : X.K = K) (hc : X.calm = true) : CallR X (.builtin "all") (rAll K) := h ▸ cr_all hc
theorem cr_anyK (h : X.K = K) (hc : X.calm = true) : CallR X (.builtin "any") (rAny K) := h ▸ cr_any hc
theorem call_list_ofK (h : X.K = K) : CallR X (.type "list") (fun xs H Q => ∃ p ys, xs = [.ref p] ∧ (SqL K H p ys ∨ SqT K H p ys) ∧ ∀ l, H l = none → Q (.ref l) (upd H l (.lst ys))) := h ▸ call_list_of
theorem call_tuple_ofK (h : X.K = K) : CallR X (.type "tuple") (fun xs H Q => ∃ p ys, xs = [.ref p] ∧ ((SqL K H p ys ∧ ∀ l, H l = none → Q (.ref l) (upd H l (.tup ys))) ∨ (SqT K H p ys ∧ Q (.ref p) H))) := h ▸ call_tuple_of
theorem op_catTK (h : X.K = K) : OpR X (binaryOp .Add) (rCatT K) := h ▸ op_catT
end
theorem bd__wall : BindsAll "_wall" s__wall ["k"] := fun _ _ _ _ _ _ us hl => match us, hl with | [_], _ => rfl
theorem bd__law_begun : BindsAll "_law_begun" s__law_begun ["_law_script"] := fun _ _ _ _ _ _ us hl => match us, hl with | [_], _ => rfl
theorem bd__law_draw : BindsAll "_law_draw" s__law_draw ["_law_tape", "_law_many"] := fun _ _ _ _ _ _ us hl => match us, hl with | [_, _], _ => rfl
theorem bd__law_pick : BindsAll "_law_pick" s__law_pick ["_law_tape", "_law_some"] := fun _ _ _ _ _ _ us hl => match us, hl with | [_, _], _ => rfl
theorem bd__law_shows : BindsAll "_law_shows" s__law_shows ["_law_clauses", "_law_puts", "_law_rows", "_law_mark"] := fun _ _ _ _ _ _ us hl => match us, hl with | [_, _, _, _], _ => rfl
theorem bd__law_risen : BindsAll "_law_risen" s__law_risen ["_law_marks"] := fun _ _ _ _ _ _ us hl => match us, hl with | [_], _ => rfl
theorem bd_law : BindsAll "law" s_law ["_law_script"] := fun _ _ _ _ _ _ us hl => match us, hl with | [_], _ => rfl
/-! ### methods that keep a promise -/
structure MethAt (K : PySem.W.Frag) (C : Addr) (m qual : Str) (st : Stmt) : Prop where
  ex : ∃ f fd, Meth K C m f ∧ Fun K m qual st f fd
structure InitAt (K : PySem.W.Frag) (C : Addr) (qual : Str) (st : Stmt) : Prop where
  ex : ∃ f fd, Mk K C f ∧ Fun K "__init__" qual st f fd
structure HasM (P : Program) (w : World) (K : PySem.W.Frag) (mg : Str → Option Value) (base : Heap) (C : Addr) (k : Nat) (m : Str) (ps : List Str) (sp : Sp) : Prop where
  ex : ∃ f fd, Meth K C m f ∧ Binds K fd ps [] ∧ FnOk P w K mg base CX0 k f fd ps sp
structure HasI (P : Program) (w : World) (K : PySem.W.Frag) (mg : Str → Option Value) (base : Heap) (C : Addr) (k : Nat) (x : Str) (ps : List Str) (sp : Sp) : Prop where
  ex : ∃ f fd, mg x = some (.ref C) ∧ Mk K C f ∧ Binds K fd ps [] ∧ FnOk P w K mg base CX0 k f fd ps sp
section
variable {X : Cx} {k : Nat} {C : Addr} {x m : Str} {ps : List Str} {sp : Sp} {o e : Expr} {es : List Expr} {ta : TE} {t : TA} {p pos apos : Pos}
theorem pe_hasM {pl : Sem Bool} (c : Cls X.K C) (h : HasM X.prog X.w X.K X.mg X.base C k m ps sp) (hr : Room k X.A) (he : PE X o ta) (ha : PA X (e :: es) t)
    (hst : starEach (e :: es) X.env = (false, eval e X.env) :: starEach es X.env := by rfl) (hpl : (backTo pos (starEach es X.env)).any (·.1) = false := by rfl)
    (ht : eval (.Call (.Attribute o m apos) (e :: es) [] pos) X.env = (do
      let ov ← eval o X.env
      standAt apos.atName
      let (f, first) ← holding [ov] (getMethod ov m pl)
      callWith pos f first (backTo pos (starEach (e :: es) X.env)) (backToKw pos (keywordEach [] X.env))) := by rfl) :
    PE X (.Call (.Attribute o m apos) (e :: es) [] pos) (tMeth C m sp [] E0 ta t) := by
  obtain ⟨f, fd, hm, hb, F⟩ := h.ex
  exact pe_meth he c hm F hr hb .nil pass0 ha hst hpl ht
theorem pe_hasM0 {pl : Sem Bool} (c : Cls X.K C) (h : HasM X.prog X.w X.K X.mg X.base C k m ps sp) (hr : Room k X.A) (he : PE X o ta)
    (ht : eval (.Call (.Attribute o m apos) [] [] pos) X.env = (do
      let ov ← eval o X.env
      standAt apos.atName
      let (f, first) ← holding [ov] (getMethod ov m pl)
      callWith pos f first (backTo pos (starEach [] X.env)) (backToKw pos (keywordEach [] X.env))) := by rfl) :
    PE X (.Call (.Attribute o m apos) [] [] pos) (tMeth C m sp [] E0 ta tNil) := by
  obtain ⟨f, fd, hm, hb, F⟩ := h.ex
  exact pe_meth0 he c hm F hr hb .nil pass0 ht
theorem pe_hasI (h : HasI X.prog X.w X.K X.mg X.base C k x ps sp) (hr : Room (k + 1) X.A) (hg : Gl X x) (ha : PA X (e :: es) t)
    (hdb : (x == ("__debug__" : Str)) = false := by decide) (he : starEach (e :: es) X.env = (false, eval e X.env) :: starEach es X.env := by rfl) (hpl : (backTo pos (starEach es X.env)).any (·.1) = false := by rfl) :
    PE X (.Call (.Name x p) (e :: es) [] pos) (tMake C sp [] E0 t) := by
  obtain ⟨f, fd, hm, M, hb, F⟩ := h.ex
  exact pe_make M F hr hg hm hb .nil pass0 ha hdb he hpl
theorem pe_fldK {K : PySem.W.Frag} {f : Str} (h : X.K = K) (he : PE X e ta) (hb : attributeBase e f X.env (eval e X.env) = eval e X.env) : PE X (.Attribute e f pos) (tFld K ta f) := h ▸ pe_fld he hb
/-- what is never reached -/
theorem ps_never {st : Stmt} : PS X st (fun _ _ _ => False) := ⟨fun _ _ _ _ _ _ h => h.elim⟩
/-- xs[i], for xs[i] += .. -/
theorem get_list : PGet X (rIxL X.K) := by
  intro pins s σ H x y v u Q I rx ry h
  obtain ⟨p, xs, i, z, rfl, rfl, hq, he, q⟩ := h
  cases rx
  obtain ⟨t, rfl⟩ := ry
  obtain ⟨its, r, pl, hz⟩ := I.list hq
  obtain ⟨j, h1, h2, h3, h4, h5⟩ := atI_get he
  obtain ⟨w, ew, rw'⟩ := r.get h2
  have hl := r.length
  have hn := line63
  have fin : EP X pins σ Q w s := ⟨z, H, I, rw', q⟩
  by_cases h0 : 0 ≤ i
  · have hj : i.toNat = j := by
      rw [seqIndex_of h0 h5] at h1
      exact Option.some.inj h1
    exact wpAny_getItem_list pl.isList h0 (by omega) (by rw [hj]; simpa using ew) fin
  · have hj : (i + (its.toArray.size : Int)).toNat = j := by
      rw [seqIndex_neg (by omega) h4] at h1
      rw [List.size_toArray, ← hl]
      exact Option.some.inj h1
    exact wpAny_getItem_list_neg pl.isList (by omega) (by rw [List.size_toArray] <;> omega) (by omega) (by rw [hj]; simpa using ew) fin
end
section
variable {P : Program} {w : World} {K : PySem.W.Frag} {mg : Str → Option Value} {base : Heap} {C : Addr}
theorem has_ofM {m qual : Str} {st : Stmt} {N ps : List Str} {k : Nat} {sp : Sp} (A : MethAt K C m qual st) (S : FnScope N ps (defScope st))
    (B : ∀ (kV doc pm : Value) (an : Option Addr) (cdv ct : Value) (us : List Value), us.length = ps.length → bindArgs (PySem.W.fnOf m qual (defArgs st) (defBody st) (defScope st) .none kV doc pm an cdv ct) ⟨us, []⟩ = pure (ps.zip us))
    (len : ∀ vs H Q E, sp vs H Q E → vs.length = ps.length)
    (hbody : ∀ (f : Addr) (cdv : Value) (A : Around) (outer : List Env) (s : Shared) (H : Hp) (vs : List V) (Q : VK) (E : XK), Room k (A.deeper (envOfC qual (defScope st) s.heap.objs.size f cdv)) → sp vs H Q E →
      ∃ t, PSs (cxOf CX0 P w K mg base N qual (defScope st) f cdv A outer s H E).nox (defBody st) t ∧ t { nx := fun _ H' => Q .non H', rt := Q } (start N vs) H) : HasM P w K mg base C (k + 1) m ps sp := by
  obtain ⟨f, fd, hm, F⟩ := A.ex
  exact ⟨f, fd, hm, F.binds B, F.ok S len fun cdv A outer s H vs Q E hr h => hbody f cdv A outer s H vs Q E hr h⟩
theorem has_ofI {x qual : Str} {st : Stmt} {N ps : List Str} {k : Nat} {sp : Sp} (hg : mg x = some (.ref C)) (A : InitAt K C qual st) (S : FnScope N ps (defScope st))
    (B : ∀ (kV doc pm : Value) (an : Option Addr) (cdv ct : Value) (us : List Value), us.length = ps.length → bindArgs (PySem.W.fnOf "__init__" qual (defArgs st) (defBody st) (defScope st) .none kV doc pm an cdv ct) ⟨us, []⟩ = pure (ps.zip us))
    (len : ∀ vs H Q E, sp vs H Q E → vs.length = ps.length)
    (hbody : ∀ (f : Addr) (cdv : Value) (A : Around) (outer : List Env) (s : Shared) (H : Hp) (vs : List V) (Q : VK) (E : XK), Room k (A.deeper (envOfC qual (defScope st) s.heap.objs.size f cdv)) → sp vs H Q E →
      ∃ t, PSs (cxOf CX0 P w K mg base N qual (defScope st) f cdv A outer s H E).nox (defBody st) t ∧ t { nx := fun _ H' => Q .non H', rt := Q } (start N vs) H) : HasI P w K mg base C (k + 1) x ps sp := by
  obtain ⟨f, fd, hm, F⟩ := A.ex
  exact ⟨f, fd, hg, hm, F.binds B, F.ok S len fun cdv A outer s H vs Q E hr h => hbody f cdv A outer s H vs Q E hr h⟩
end

structure Top (K : PySem.W.Frag) (mg : Str → Option Value) (cs : Nat → Addr) : Prop where
  d__wall : At K mg "_wall" s__wall
  d__law_begun : At K mg "_law_begun" s__law_begun
  d__law_draw : At K mg "_law_draw" s__law_draw
  d__law_pick : At K mg "_law_pick" s__law_pick
  d__law_shows : At K mg "_law_shows" s__law_shows
  d__law_risen : At K mg "_law_risen" s__law_risen
  d_law : At K mg "law" s_law
  g_Follower : mg "Follower" = some (.ref (cs 0))
  cl_Follower : Cls K (cs 0)
  i_Follower : InitAt K (cs 0) "Follower.__init__" s_Follower___init__
  m_Follower_put : MethAt K (cs 0) "put" "Follower.put" s_Follower_put
  m_Follower_add : MethAt K (cs 0) "add" "Follower.add" s_Follower_add
  m_Follower_back : MethAt K (cs 0) "back" "Follower.back" s_Follower_back
  m_Follower_on : MethAt K (cs 0) "on" "Follower.on" s_Follower_on
  m_Follower_shown : MethAt K (cs 0) "shown" "Follower.shown" s_Follower_shown
  m_Follower__refuse_broken : MethAt K (cs 0) "_refuse_broken" "Follower._refuse_broken" s_Follower__refuse_broken
  m_Follower__row_of : MethAt K (cs 0) "_row_of" "Follower._row_of" s_Follower__row_of
  m_Follower__take_in : MethAt K (cs 0) "_take_in" "Follower._take_in" s_Follower__take_in
  m_Follower__bring : MethAt K (cs 0) "_bring" "Follower._bring" s_Follower__bring
  m_Follower__take_off_last : MethAt K (cs 0) "_take_off_last" "Follower._take_off_last" s_Follower__take_off_last
  m_Follower__is_ready : MethAt K (cs 0) "_is_ready" "Follower._is_ready" s_Follower__is_ready
  m_Follower__settle : MethAt K (cs 0) "_settle" "Follower._settle" s_Follower__settle
  m_Follower__news : MethAt K (cs 0) "_news" "Follower._news" s_Follower__news
  m_Follower__rows_to : MethAt K (cs 0) "_rows_to" "Follower._rows_to" s_Follower__rows_to
  n_Follower__clauses : NoAttr K (cs 0) "_clauses"
  n_Follower__offs : NoAttr K (cs 0) "_offs"
  n_Follower__having : NoAttr K (cs 0) "_having"
  n_Follower__trail : NoAttr K (cs 0) "_trail"
  n_Follower__place : NoAttr K (cs 0) "_place"
  n_Follower__rows : NoAttr K (cs 0) "_rows"
  n_Follower__puts : NoAttr K (cs 0) "_puts"
  n_Follower__is_put : NoAttr K (cs 0) "_is_put"
  n_Follower__ahead : NoAttr K (cs 0) "_ahead"
  n_Follower__broken_row : NoAttr K (cs 0) "_broken_row"
  b_len : mg "len" = none
  b_dict : mg "dict" = none
  b_isinstance : mg "isinstance" = none
  b_bool : mg "bool" = none
  b_int : mg "int" = none
  b_sorted : mg "sorted" = none
  b_abs : mg "abs" = none
  b_range : mg "range" = none
  b_min : mg "min" = none
  b_list : mg "list" = none
theorem bd_Follower___init__ : ∀ (kV doc pm : Value) (an : Option Addr) (cdv ct : Value) (us : List Value), us.length = (["self", "clauses"] : List Str).length → bindArgs (PySem.W.fnOf "__init__" "Follower.__init__" (defArgs s_Follower___init__) (defBody s_Follower___init__) (defScope s_Follower___init__) .none kV doc pm an cdv ct) ⟨us, []⟩ = pure ((["self", "clauses"] : List Str).zip us) := fun _ _ _ _ _ _ us hl => match us, hl with | [_, _], _ => rfl
theorem bd_Follower_put : ∀ (kV doc pm : Value) (an : Option Addr) (cdv ct : Value) (us : List Value), us.length = (["self", "mark"] : List Str).length → bindArgs (PySem.W.fnOf "put" "Follower.put" (defArgs s_Follower_put) (defBody s_Follower_put) (defScope s_Follower_put) .none kV doc pm an cdv ct) ⟨us, []⟩ = pure ((["self", "mark"] : List Str).zip us) := fun _ _ _ _ _ _ us hl => match us, hl with | [_, _], _ => rfl
theorem bd_Follower_add : ∀ (kV doc pm : Value) (an : Option Addr) (cdv ct : Value) (us : List Value), us.length = (["self", "clause"] : List Str).length → bindArgs (PySem.W.fnOf "add" "Follower.add" (defArgs s_Follower_add) (defBody s_Follower_add) (defScope s_Follower_add) .none kV doc pm an cdv ct) ⟨us, []⟩ = pure ((["self", "clause"] : List Str).zip us) := fun _ _ _ _ _ _ us hl => match us, hl with | [_, _], _ => rfl
theorem bd_Follower_back : ∀ (kV doc pm : Value) (an : Option Addr) (cdv ct : Value) (us : List Value), us.length = (["self"] : List Str).length → bindArgs (PySem.W.fnOf "back" "Follower.back" (defArgs s_Follower_back) (defBody s_Follower_back) (defScope s_Follower_back) .none kV doc pm an cdv ct) ⟨us, []⟩ = pure ((["self"] : List Str).zip us) := fun _ _ _ _ _ _ us hl => match us, hl with | [_], _ => rfl
theorem bd_Follower_on : ∀ (kV doc pm : Value) (an : Option Addr) (cdv ct : Value) (us : List Value), us.length = (["self"] : List Str).length → bindArgs (PySem.W.fnOf "on" "Follower.on" (defArgs s_Follower_on) (defBody s_Follower_on) (defScope s_Follower_on) .none kV doc pm an cdv ct) ⟨us, []⟩ = pure ((["self"] : List Str).zip us) := fun _ _ _ _ _ _ us hl => match us, hl with | [_], _ => rfl
theorem bd_Follower_shown : ∀ (kV doc pm : Value) (an : Option Addr) (cdv ct : Value) (us : List Value), us.length = (["self", "mark"] : List Str).length → bindArgs (PySem.W.fnOf "shown" "Follower.shown" (defArgs s_Follower_shown) (defBody s_Follower_shown) (defScope s_Follower_shown) .none kV doc pm an cdv ct) ⟨us, []⟩ = pure ((["self", "mark"] : List Str).zip us) := fun _ _ _ _ _ _ us hl => match us, hl with | [_, _], _ => rfl
theorem bd_Follower__refuse_broken : ∀ (kV doc pm : Value) (an : Option Addr) (cdv ct : Value) (us : List Value), us.length = (["self"] : List Str).length → bindArgs (PySem.W.fnOf "_refuse_broken" "Follower._refuse_broken" (defArgs s_Follower__refuse_broken) (defBody s_Follower__refuse_broken) (defScope s_Follower__refuse_broken) .none kV doc pm an cdv ct) ⟨us, []⟩ = pure ((["self"] : List Str).zip us) := fun _ _ _ _ _ _ us hl => match us, hl with | [_], _ => rfl
theorem bd_Follower__row_of : ∀ (kV doc pm : Value) (an : Option Addr) (cdv ct : Value) (us : List Value), us.length = (["self", "mark"] : List Str).length → bindArgs (PySem.W.fnOf "_row_of" "Follower._row_of" (defArgs s_Follower__row_of) (defBody s_Follower__row_of) (defScope s_Follower__row_of) .none kV doc pm an cdv ct) ⟨us, []⟩ = pure ((["self", "mark"] : List Str).zip us) := fun _ _ _ _ _ _ us hl => match us, hl with | [_, _], _ => rfl
theorem bd_Follower__take_in : ∀ (kV doc pm : Value) (an : Option Addr) (cdv ct : Value) (us : List Value), us.length = (["self", "clause"] : List Str).length → bindArgs (PySem.W.fnOf "_take_in" "Follower._take_in" (defArgs s_Follower__take_in) (defBody s_Follower__take_in) (defScope s_Follower__take_in) .none kV doc pm an cdv ct) ⟨us, []⟩ = pure ((["self", "clause"] : List Str).zip us) := fun _ _ _ _ _ _ us hl => match us, hl with | [_, _], _ => rfl
theorem bd_Follower__bring : ∀ (kV doc pm : Value) (an : Option Addr) (cdv ct : Value) (us : List Value), us.length = (["self", "mark", "row"] : List Str).length → bindArgs (PySem.W.fnOf "_bring" "Follower._bring" (defArgs s_Follower__bring) (defBody s_Follower__bring) (defScope s_Follower__bring) .none kV doc pm an cdv ct) ⟨us, []⟩ = pure ((["self", "mark", "row"] : List Str).zip us) := fun _ _ _ _ _ _ us hl => match us, hl with | [_, _, _], _ => rfl
theorem bd_Follower__take_off_last : ∀ (kV doc pm : Value) (an : Option Addr) (cdv ct : Value) (us : List Value), us.length = (["self"] : List Str).length → bindArgs (PySem.W.fnOf "_take_off_last" "Follower._take_off_last" (defArgs s_Follower__take_off_last) (defBody s_Follower__take_off_last) (defScope s_Follower__take_off_last) .none kV doc pm an cdv ct) ⟨us, []⟩ = pure ((["self"] : List Str).zip us) := fun _ _ _ _ _ _ us hl => match us, hl with | [_], _ => rfl
theorem bd_Follower__is_ready : ∀ (kV doc pm : Value) (an : Option Addr) (cdv ct : Value) (us : List Value), us.length = (["self", "number"] : List Str).length → bindArgs (PySem.W.fnOf "_is_ready" "Follower._is_ready" (defArgs s_Follower__is_ready) (defBody s_Follower__is_ready) (defScope s_Follower__is_ready) .none kV doc pm an cdv ct) ⟨us, []⟩ = pure ((["self", "number"] : List Str).zip us) := fun _ _ _ _ _ _ us hl => match us, hl with | [_, _], _ => rfl
theorem bd_Follower__settle : ∀ (kV doc pm : Value) (an : Option Addr) (cdv ct : Value) (us : List Value), us.length = (["self", "numbers"] : List Str).length → bindArgs (PySem.W.fnOf "_settle" "Follower._settle" (defArgs s_Follower__settle) (defBody s_Follower__settle) (defScope s_Follower__settle) .none kV doc pm an cdv ct) ⟨us, []⟩ = pure ((["self", "numbers"] : List Str).zip us) := fun _ _ _ _ _ _ us hl => match us, hl with | [_, _], _ => rfl
theorem bd_Follower__news : ∀ (kV doc pm : Value) (an : Option Addr) (cdv ct : Value) (us : List Value), us.length = (["self", "ahead"] : List Str).length → bindArgs (PySem.W.fnOf "_news" "Follower._news" (defArgs s_Follower__news) (defBody s_Follower__news) (defScope s_Follower__news) .none kV doc pm an cdv ct) ⟨us, []⟩ = pure ((["self", "ahead"] : List Str).zip us) := fun _ _ _ _ _ _ us hl => match us, hl with | [_, _], _ => rfl
theorem bd_Follower__rows_to : ∀ (kV doc pm : Value) (an : Option Addr) (cdv ct : Value) (us : List Value), us.length = (["self", "marks"] : List Str).length → bindArgs (PySem.W.fnOf "_rows_to" "Follower._rows_to" (defArgs s_Follower__rows_to) (defBody s_Follower__rows_to) (defScope s_Follower__rows_to) .none kV doc pm an cdv ct) ⟨us, []⟩ = pure ((["self", "marks"] : List Str).zip us) := fun _ _ _ _ _ _ us hl => match us, hl with | [_, _], _ => rfl
/-! ### the draws -/
def spDraw : Sp := fun vs H Q _ => ∃ (t c : Addr) (m : Int) (n : Nat), vs = [.ref t, .int m] ∧ Tape H t c n ∧ n < 2 ^ 40 ∧ 0 < m ∧ m < 2 ^ 8000 ∧
  ∀ (H' : Hp) (r : Int), 0 ≤ r → r < m → Tape H' t c (n + 1) → Kp t H H' → Q (.int r) H'
theorem cell_at {ns : List Int} {spot : Int} (h0 : 0 < ns.length) (hs : 0 ≤ spot) : ∃ x, atI (ns.map V.int) (spot % ((ns.map V.int).length : Int)) = some (.int x) := by
  rw [List.length_map]
  have hp : (0 : Int) < (ns.length : Int) := by omega
  have h1 := Int.emod_nonneg spot (show (ns.length : Int) ≠ 0 by omega)
  have h2 := Int.emod_lt_of_pos spot hp
  have h3 : (spot % (ns.length : Int)).toNat < ns.length := by omega
  refine ⟨ns[(spot % (ns.length : Int)).toNat], at_of (j := (spot % (ns.length : Int)).toNat) (by omega) ?_⟩
  rw [List.getElem?_map, List.getElem?_eq_getElem h3]
  rfl
theorem log2_small {m : Int} (h0 : 0 < m) (h : m < 2 ^ 8000) : m.natAbs.log2 < 9000 := by
  have h2 : m.natAbs < 2 ^ 8000 := by
    have e : ((2 ^ 8000 : Nat) : Int) = (2 : Int) ^ 8000 := by rw [Int.natCast_pow]; rfl
    omega
  exact Nat.lt_of_lt_of_le (PySem.Flt.log2_lt_of (by decide) h2) (by decide)
theorem pow_ok {x spot : Int} {n : Nat} (h0 : 0 ≤ spot) (h1 : spot ≤ n) (h2 : n < 2 ^ 40) : CPow (x % 2147483647 + 69621 * spot + 48271) 17 := by
  have a := Int.emod_nonneg x (show (2147483647 : Int) ≠ 0 by decide)
  have b := Int.emod_lt_of_pos x (show (0 : Int) < 2147483647 by decide)
  refine ⟨by decide, by decide, ?_⟩
  have e : (2 : Nat) ^ 64 = 18446744073709551616 := by decide
  rw [e]
  omega
section
variable {P : Program} {w : World} {K : PySem.W.Frag} {mg : Str → Option Value} {base : Heap}
theorem has_draw {cs : Nat → Addr} (T : Top K mg cs) : Has P w K mg base 1 "_law_draw" ["_law_tape", "_law_many"] spDraw := by
  refine has_of T.d__law_draw sc__law_draw bd__law_draw (fun vs H Q E h => ?_) (fun f cdv A outer s H vs Q E hr h => ?_)
  · obtain ⟨t, c, m, n, rfl, _⟩ := h
    rfl
  · have hu := hu_of hr
    have nd := sc__law_draw.nd
    obtain ⟨t, c, m, n, rfl, ⟨ns, spot, left, tp, hs⟩, hn, hm, hm2, k⟩ := h
    refine ⟨_, (C8.pss_cut (ps_if (pt_cmpR op_lt (pe_dget hu (pv 0) pe_str (fun _ _ => rfl)) (pv 1) (nomark _)) (pss_cons (ps_par (i := 2) (j := 3) (by rfl) nd rfl rfl (by decide) rfl rfl (pa_cons (pe_dget hu (pv 0) pe_str (fun _ _ => rfl)) (pa_cons (pe_callB call_len_seq (by rfl) T.b_len (by decide +kernel) (pa_cons (pe_dget hu (pv 0) pe_str (fun _ _ => rfl)) pa_nil)) pa_nil)) (by rfl))
    (pss_cons (ps_asg (pe_tup (pa_cons (pe_ix ix_list (pe_dget hu (pv 0) pe_str (fun _ _ => rfl)) (pe_op op_mod (pv 2) (pv 3)) (fun _ _ => rfl)) (pa_cons (pe_op op_add (pv 2) pe_int) pa_nil))) (pg_tup (by rfl) (pgs_cons (pg_name (i := 4) nd rfl (.inl rfl)) (pgs_cons (pg_sub (pv 0) pe_str (set_dict hu)) pgs_nil))))
    (pss_cons (ps_dput hu (pv 0) pe_str (pe_op op_mod (pe_op op_pow (pe_op op_add (pe_op op_add (pe_op op_mod (pv 4) pe_int) (pe_op op_mul pe_int (pv 2))) pe_int) pe_int) (pe_op op_add (pe_op op_pow pe_int pe_int) pe_int)) rfl)
    (pss_one (ps_if (PW.pt (pw_and (pt_cmpR op_ge (pv 4) (pe_op op_pow pe_int pe_int) (nomark _)) (pw_and1 (pt_cmpR op_lt (pv 2) (pv 3) (nomark _))))) (pss_one (ps_dput hu (pv 0) pe_str (pe_op op_sub (pv 4) (pe_op op_pow pe_int pe_int)) rfl)) pss_nil))))) pss_nil)
    (pss_cons (ps_asg (pe_tup (pa_cons (pe_op op_mod (pe_dget hu (pv 0) pe_str (fun _ _ => rfl)) (pv 1)) (pa_cons (pe_op op_fdivW (pe_dget hu (pv 0) pe_str (fun _ _ => rfl)) (pv 1)) pa_nil))) (pg_tup (by rfl) (pgs_cons (pg_name (i := 5) nd rfl (.inl rfl)) (pgs_cons (pg_sub (pv 0) pe_str (set_dict hu)) pgs_nil))))
    (pss_one (ps_ret (pv 5))))), ?_⟩
    refine ⟨fun σ' H' => ∃ (v2 v3 v4 v5 : Option V) (spot' left' : Int), σ' = [some (.ref t), some (.int m), v2, v3, v4, v5] ∧ TapeC H' t c ns spot' left' ∧ spot' ≤ ((n + 1 : Nat) : Int) ∧ Kp t H H', ?_, ?_⟩
    · refine ⟨_, rfl, t, _, rfl, dg_left tp.d, _, rfl, _, _, rfl, rfl, _, rfl, ite2 (fun _ => ?_) (fun _ => ?_)⟩
      · obtain ⟨x, hx⟩ := cell_at tp.ne tp.s0
        refine ⟨_, rfl, t, _, rfl, dg_spot tp.d, _, rfl, t, _, rfl, dg_cells tp.d, c, _, rfl, .inl (SqL.of tp.l), _, _, rfl, ?_⟩
        refine ⟨_, rfl, t, _, rfl, dg_cells tp.d, _, rfl, _, rfl, _, _, rfl, rfl, ?_, c, _, _, _, rfl, rfl, SqL.of tp.l, hx, _, rfl, _, _, rfl, rfl, by show 2 ≤ sizeLine; decide, fun p hp => ?_⟩
        · show (0 : Int) < ((ns.map V.int).length : Int)
          rw [List.length_map]
          have := tp.ne
          omega
        have h1 : (upd H p (.tup [.int x, .int (spot + 1)])) t = some (.dK (tk c spot left)) := by
          rw [upd_ne (ne_of_none tp.d hp)]
          exact tp.d
        refine ⟨p, _, rfl, SqT.of upd_same, rfl, _, _, rfl, _, _, rfl, _, rfl, t, _, rfl, dp_spot _ h1, rfl, ?_⟩
        have c1 : (upd (upd H p (.tup [.int x, .int (spot + 1)])) t (.dK (tk c (spot + 1) left))) c = some (.lst (ns.map V.int)) := by
          rw [upd_ne (show c ≠ t from ne_of tp.l tp.d (by intro z; cases z)), upd_ne (ne_of_none tp.l hp)]
          exact tp.l
        refine ⟨_, rfl, _, _, rfl, rfl, by show (0 : Int) < 2147483647; decide, _, rfl, _, _, rfl, rfl, .inl ⟨by decide, by decide⟩, _, _, rfl, rfl, _, _, rfl, rfl, _, _, rfl, rfl, pow_ok tp.s0 hs hn, _, _, rfl, rfl, ⟨by decide, by decide, by decide⟩, _, _, rfl, rfl, _, _, rfl, rfl, ?_, _, rfl, t, _, rfl, dp_left _ upd_same, ?_⟩
        · show (0 : Int) < 10 ^ (50 : Int).toNat + 151
          decide
        have kp : ∀ z, Kp t H (upd (upd (upd H p (.tup [.int x, .int (spot + 1)])) t (.dK (tk c (spot + 1) left))) t (.dK (tk c (spot + 1) z))) := fun z => ((Kp.new hp).trans Kp.at).trans Kp.at
        have tq : ∀ z, 0 ≤ z → TapeC (upd (upd (upd H p (.tup [.int x, .int (spot + 1)])) t (.dK (tk c (spot + 1) left))) t (.dK (tk c (spot + 1) z))) t c ns (spot + 1) z := fun z hz =>
          ⟨upd_same, by rw [upd_ne (show c ≠ t from ne_of tp.l tp.d (by intro z; cases z))]; exact c1, tp.ne, tp.lt, by have := tp.s0; omega, hz⟩
        have h0 : ∀ a : Int, 0 ≤ a % (10 ^ (50 : Int).toNat + 151) := fun a => Int.emod_nonneg _ (by decide)
        refine ⟨_, rfl, _, _, rfl, rfl, ⟨by decide, by decide, by decide⟩, _, _, rfl, rfl, _, rfl, ite2 (fun hc => ?_) (fun _ => iteF ?_)⟩
        · refine ⟨_, rfl, _, rfl, _, _, rfl, rfl, _, rfl, ite2 (fun _ => ?_) (fun _ => ?_)⟩
          · refine ⟨_, rfl, _, _, rfl, rfl, ⟨by decide, by decide, by decide⟩, _, _, rfl, rfl, _, rfl, t, _, rfl, dp_left _ upd_same, ?_⟩
            have hz : (10 : Int) ^ (18 : Int).toNat ≤ x := of_decide_eq_true hc
            exact ⟨_, _, _, _, spot + 1, x - 10 ^ (18 : Int).toNat, rfl, ⟨upd_same, by rw [upd_ne (show c ≠ t from ne_of tp.l tp.d (by intro z; cases z))]; exact (tq _ (h0 _)).l, tp.ne, tp.lt, by have := tp.s0; omega, by omega⟩, by omega, (kp _).trans Kp.at⟩
          · exact ⟨_, _, _, _, _, _, rfl, tq _ (h0 _), by omega, kp _⟩
        · exact ⟨_, _, _, _, _, _, rfl, tq _ (h0 _), by omega, kp _⟩
      · exact ⟨_, _, _, _, _, _, rfl, tp, by omega, Kp.refl _⟩
    · rintro σ' H' ⟨v2, v3, v4, v5, spot', left', rfl, tp', hs', kp⟩
      refine ⟨_, rfl, t, _, rfl, dg_left tp'.d, _, rfl, _, _, rfl, rfl, hm, _, rfl, t, _, rfl, dg_left tp'.d, _, rfl, _, _, rfl, rfl, ⟨hm, ?_⟩, by show 2 ≤ sizeLine; decide, fun p hp => ?_⟩
      · exact log2_small hm hm2
      have h1 : ∀ o, (upd H' p o) t = some (.dK (tk c spot' left')) := fun o => by
          rw [upd_ne (ne_of_none tp'.d hp)]
          exact tp'.d
      refine ⟨p, _, rfl, SqT.of upd_same, rfl, _, _, rfl, _, _, rfl, _, rfl, t, _, rfl, dp_left _ (h1 _), rfl, ?_⟩
      refine ⟨_, rfl, k _ _ (Int.emod_nonneg _ (by omega)) (Int.emod_lt_of_pos _ hm) ?_ ?_⟩
      · exact ⟨ns, spot', _, ⟨upd_same, by rw [upd_ne (show c ≠ t from ne_of tp'.l tp'.d (by intro z; cases z)), upd_ne (ne_of_none tp'.l hp)]; exact tp'.l, tp'.ne, tp'.lt, tp'.s0, Int.ediv_nonneg tp'.l0 (by omega)⟩, hs'⟩
      · exact (kp.trans (Kp.new hp)).trans Kp.at
/-- a pick from a list or a tuple -/
def spPick (K : PySem.W.Frag) : Sp := fun vs H Q _ => ∃ (t c a : Addr) (xs : List V) (n : Nat), vs = [.ref t, .ref a] ∧ Tape H t c n ∧ n < 2 ^ 40 ∧ (∀ H', Kp t H H' → SqL K H' a xs ∨ SqT K H' a xs) ∧ 0 < xs.length ∧ xs.length ≤ 1000000 ∧
  ∀ (H' : Hp) (i : Nat) (v : V), xs[i]? = some v → Tape H' t c (n + 1) → Kp t H H' → Q v H'
theorem has_pick {cs : Nat → Addr} (T : Top K mg cs) (h__law_draw : Has P w K mg base 1 "_law_draw" ["_law_tape", "_law_many"] spDraw) : Has P w K mg base 2 "_law_pick" ["_law_tape", "_law_some"] (spPick K) := by
  refine has_of T.d__law_pick sc__law_pick bd__law_pick (fun vs H Q E h => ?_) (fun f cdv A outer s H vs Q E hr h => ?_)
  · obtain ⟨t, c, a, xs, n, rfl, _⟩ := h
    rfl
  · have hu := hu_of hr
    have nd := sc__law_pick.nd
    obtain ⟨t, c, a, xs, n, rfl, tp, hn, hs, h0, h1, k⟩ := h
    refine ⟨_, (pss_one (ps_ret (pe_ix ix_seq (pv 1) (pe_has h__law_draw (hr.mono (by omega)) (by rfl) (pa_cons (pv 0) (pa_cons (pe_callB call_len_seq (by rfl) T.b_len (by decide +kernel) (pa_cons (pv 1) pa_nil)) pa_nil))) (fun _ _ => rfl)))), ?_⟩
    refine ⟨_, rfl, _, rfl, _, rfl, a, xs, rfl, hs H (Kp.refl _), t, c, _, n, rfl, tp, hn, by omega, ?_, fun H' r r0 r1 tp' kp => ?_⟩
    · exact Int.lt_of_le_of_lt (Int.ofNat_le.mpr h1) (by decide +kernel)
    have hi : r.toNat < xs.length := by omega
    have g : xs[r.toNat]? = some xs[r.toNat] := List.getElem?_eq_getElem hi
    rcases hs H' kp with z | z
    · exact .inl ⟨a, xs, r, _, rfl, rfl, z, at_of (by omega) g, k H' _ _ g tp' kp⟩
    · exact .inr (.inl ⟨a, xs, r, _, rfl, rfl, z, at_of (by omega) g, k H' _ _ g tp' kp⟩)
/-- the tape's beginning -/
def spBegun (K : PySem.W.Frag) : Sp := fun vs H Q _ => ∃ (a : Addr) (ns : List Int), vs = [.ref a] ∧ SqL K H a (ns.map V.int) ∧ ns.length ≤ 63 ∧
  ∀ (H' : Hp) (t c : Addr), H t = none → H c = none → Same H H' → Tape H' t c 0 → Q (.ref t) H'
theorem has_begun {cs : Nat → Addr} (T : Top K mg cs) : Has P w K mg base 1 "_law_begun" ["_law_script"] (spBegun K) := by
  refine has_of T.d__law_begun sc__law_begun bd__law_begun (fun vs H Q E h => ?_) (fun f cdv A outer s H vs Q E hr h => ?_)
  · obtain ⟨a, ns, rfl, _⟩ := h
    rfl
  · have hu := hu_of hr
    have nd := sc__law_begun.nd
    obtain ⟨a, ns, rfl, hS, hl, k⟩ := h
    refine ⟨_, (pss_one (ps_ret (pe_disp (pps_cons pe_str (pe_orT (pe_slice sl_list (pv 0) po_none (po_some pe_int)) (pe_one (pe_lst (pa_cons pe_int pa_nil)))) (pps_cons pe_str pe_int (pps_cons pe_str pe_int pps_nil))) (by rfl) (by rfl) (fun z => by cases z) (by decide)))), ?_⟩
    intro t ht
    have s1 := same_new (o := .dK []) ht
    refine ⟨_, rfl, 63, rfl, a, _, rfl, s1.seq hS, fun q hq => ?_⟩
    have ec : cutV (ns.map V.int) none (some 63) = ns.map V.int := by
      unfold cutV
      rw [HT.sIx_none, show HT.sIx (ns.map V.int).length (ns.map V.int).length (some 63) = min 63 (ns.map V.int).length from HT.sIx_nat _ _ 63, List.drop_zero, List.length_map]
      refine List.take_of_length_le ?_
      rw [List.length_map]
      omega
    rw [ec]
    have nqt : q ≠ t := fun e => by
      rw [e, upd_same] at hq
      cases hq
    have nq : H q = none := by
      rw [← hq, upd_ne nqt]
    cases hns : ns with
    | cons z zs =>
      refine ⟨true, .inl ⟨_, SqL.of upd_same, rfl⟩, iteT ?_⟩
      refine ⟨by rw [upd_ne nqt.symm]; exact upd_same, tk q 0 0, rfl, by show 3 ≤ 15; decide, ?_⟩
      refine k _ t q ht nq (fun b o e => ?_) ⟨z :: zs, 0, 0, ⟨upd_same, by rw [upd_ne nqt]; exact upd_same, by rw [List.length_cons]; omega, by rw [← hns]; exact hl, by decide, by decide⟩, by decide⟩
      rw [upd_ne (ne_of_none e ht), upd_ne (ne_of_none e nq), upd_ne (ne_of_none e ht)]
      exact e
    | nil =>
      refine ⟨false, .inl ⟨_, SqL.of upd_same, rfl⟩, iteF ?_⟩
      refine ⟨by show 1 ≤ sizeLine; decide, fun p hp => ?_⟩
      have npq : p ≠ q := fun e => by
        rw [e, upd_same] at hp
        cases hp
      have npt : p ≠ t := fun e => by
        rw [e, upd_ne nqt.symm, upd_same] at hp
        cases hp
      have np : H p = none := by
        rw [← hp, upd_ne npq, upd_ne npt]
      refine ⟨by rw [upd_ne npt.symm, upd_ne nqt.symm]; exact upd_same, tk p 0 0, rfl, by show 3 ≤ 15; decide, ?_⟩
      refine k _ t p ht np (fun b o e => ?_) ⟨[0], 0, 0, ⟨upd_same, by rw [upd_ne npt]; exact upd_same, by decide, by decide, by decide, by decide⟩, by decide⟩
      rw [upd_ne (ne_of_none e ht), upd_ne (ne_of_none e np), upd_ne (ne_of_none e nq), upd_ne (ne_of_none e ht)]
      exact e
end

/-! ### steps by clauses, as plain functions -/
def tru (on : List Int) : List (Key × V) := on.map fun k => ((Sum.inl k : Key), V.bl true)
def ins (on : List Int) (k : Int) : List Int := if k ∈ on then on else on ++ [k]
theorem tru_val (on : List Int) (k : Int) : valV (tru on) (Sum.inl k : Key) = if k ∈ on then some (V.bl true) else none := by
  induction on with
  | nil => rfl
  | cons a r ih =>
    show valV (((Sum.inl a : Key), V.bl true) :: tru r) (Sum.inl k : Key) = _
    by_cases h : a = k
    · rw [valV_pos (by rw [h]), if_pos (by rw [h]; exact List.mem_cons_self)]
    · rw [valV_neg (fun e => h (Sum.inl.inj e)), ih]
      by_cases hm : k ∈ r
      · rw [if_pos hm, if_pos (List.mem_cons_of_mem _ hm)]
      · rw [if_neg hm, if_neg]
        intro z
        rcases List.mem_cons.mp z with e | e
        · exact h e.symm
        · exact hm e
theorem tru_some (on : List Int) (k : Int) : (valV (tru on) (Sum.inl k : Key)).isSome = decide (k ∈ on) := by
  rw [tru_val]
  by_cases h : k ∈ on
  · rw [if_pos h, decide_eq_true h]
    rfl
  · rw [if_neg h, decide_eq_false h]
    rfl
theorem tru_put (on : List Int) (k : Int) : putK (tru on) (Sum.inl k : Key) (V.bl true) = tru (ins on k) := by
  unfold ins
  by_cases h : k ∈ on
  · rw [if_pos h]
    unfold putK
    rw [if_pos (by rw [valV_any, tru_some, decide_eq_true h])]
    unfold tru
    rw [List.map_map]
    refine List.map_congr_left fun a ha => ?_
    show (if ((Sum.inl a : Key), V.bl true).1 = Sum.inl k then _ else _) = _
    by_cases e : (Sum.inl a : Key) = Sum.inl k
    · rw [if_pos e]
    · rw [if_neg e]
  · rw [if_neg h, putK_new _ (by rw [tru_val, if_neg h])]
    unfold tru
    rw [List.map_append]
    rfl
theorem tru_merge : ∀ (b a : List Int), mergeK (tru a) (tru b) = tru (b.foldl ins a)
  | [], a => rfl
  | k :: r, a => by
    show mergeK (putK (tru a) (Sum.inl k : Key) (V.bl true)) (tru r) = _
    rw [tru_put, tru_merge r]
    rfl
theorem ins_len (on : List Int) (k : Int) : (ins on k).length ≤ on.length + 1 := by
  unfold ins
  split
  · omega
  · rw [List.length_append]
    exact Nat.le_refl _
theorem fold_len : ∀ (b a : List Int), (b.foldl ins a).length ≤ a.length + b.length
  | [], a => Nat.le_refl _
  | k :: r, a => by
    have h := fold_len r (ins a k)
    have h2 := ins_len a k
    show (r.foldl ins (ins a k)).length ≤ a.length + (r.length + 1)
    omega
/-- the marks of a clause that aren't off -/
def left (on c : List Int) : List Int := c.filter fun m => !decide (-m ∈ on)
/-- the clause of a number -/
def clAt (cs : List (List Int)) (r : Int) : Option (List Int) := if 0 ≤ r ∧ r < cs.length then cs[r.toNat]? else none
def step (cs : List (List Int)) (on : List Int) (r : Int) : Option (List Int) :=
  match clAt cs r with
  | none => none
  | some c => match left on c with
    | [x] => if x ∈ on then none else some (ins on x)
    | _ => none
def bring (cs : List (List Int)) : List Int → List Int → Option (List Int)
  | [], on => some on
  | r :: rs, on => match step cs on r with
    | none => none
    | some on' => bring cs rs on'
def broken (cs : List (List Int)) (on : List Int) (r : Int) : Bool :=
  match clAt cs r with
  | none => false
  | some c => (left on c).isEmpty
/-- what the program tells -/
def shownP (cs : List (List Int)) (ps rs : List Int) : Option Int → Bool
  | none => match rs.getLast? with
    | none => false
    | some r => match bring cs rs.dropLast (ps.foldl ins []) with
      | none => false
      | some on => broken cs on r
  | some m => match bring cs rs (ps.foldl ins []) with
    | none => false
    | some on => decide (m ∈ on)
/-- the law's own walk -/
def stepL (cs : List (List Int)) (on : List Int) (r : Int) : Option (List Int × Bool) :=
  match clAt cs r with
  | none => none
  | some c => if (left on c).length > 1 ∨ ((left on c).filter fun m => decide (m ∈ on)) ≠ [] then none else some ((left on c).foldl ins on, (left on c).isEmpty)
def walkL (cs : List (List Int)) : List Int → List Int → Bool → Option (List Int × Bool)
  | [], on, e => some (on, e)
  | r :: rs, on, e => if e = true then none else match stepL cs on r with
    | none => none
    | some (on', e') => walkL cs rs on' e'
def shownL (cs : List (List Int)) (ps rs : List Int) (m : Option Int) : Bool :=
  match walkL cs rs (ps.foldl ins []) false with
  | none => false
  | some (on, e) => match m with
    | none => e
    | some k => !e && decide (k ∈ on)
theorem stepL_of (cs : List (List Int)) (on : List Int) (r : Int) : stepL cs on r = match step cs on r with
    | some on' => some (on', false)
    | none => if broken cs on r = true then some (on, true) else none := by
  unfold stepL step broken
  cases clAt cs r with
  | none => rfl
  | some c =>
    show (if (left on c).length > 1 ∨ ((left on c).filter fun m => decide (m ∈ on)) ≠ [] then none else some ((left on c).foldl ins on, (left on c).isEmpty)) = match (match left on c with | [x] => if x ∈ on then none else some (ins on x) | _ => none) with
      | some on' => some (on', false)
      | none => if (left on c).isEmpty = true then some (on, true) else none
    cases left on c with
    | nil => simp
    | cons x r =>
      cases r with
      | nil =>
        by_cases h : x ∈ on
        · simp [h]
        · simp [h, ins]
      | cons y r => simp
theorem walk_ended (cs : List (List Int)) (rs on : List Int) : walkL cs rs on true = if rs = [] then some (on, true) else none := by
  cases rs with
  | nil => rfl
  | cons r rs => simp [walkL]
theorem walk_mark (cs : List (List Int)) (k : Int) : ∀ (rs on : List Int), (match walkL cs rs on false with
    | none => false
    | some (o, e) => !e && decide (k ∈ o)) = match bring cs rs on with
    | none => false
    | some o => decide (k ∈ o)
  | [], on => rfl
  | r :: rs, on => by
    simp only [walkL, bring]
    rw [if_neg Bool.false_ne_true, stepL_of]
    cases step cs on r with
    | some on' => exact walk_mark cs k rs on'
    | none =>
      by_cases hb : broken cs on r = true
      · simp only [hb, if_true]
        rw [walk_ended]
        cases rs with
        | nil => rfl
        | cons a b => rfl
      · simp only [hb]
        rfl
theorem walk_none (cs : List (List Int)) : ∀ (rs on : List Int), (match walkL cs rs on false with
    | none => false
    | some (_, e) => e) = match rs.getLast? with
    | none => false
    | some r => match bring cs rs.dropLast on with
      | none => false
      | some o => broken cs o r
  | [], on => rfl
  | [r], on => by
    simp only [walkL, bring, List.getLast?_singleton, List.dropLast_singleton]
    rw [if_neg Bool.false_ne_true, stepL_of]
    cases hs : step cs on r with
    | some on' =>
      have nb : broken cs on r = false := by
        unfold step at hs
        unfold broken
        cases hc : clAt cs r with
        | none => rfl
        | some c =>
          rw [hc] at hs
          simp only at hs ⊢
          cases hl : left on c with
          | nil =>
            rw [hl] at hs
            cases hs
          | cons x y => rfl
      rw [nb]
    | none =>
      by_cases hb : broken cs on r = true
      · simp only [hb, if_true]
      · simp only [hb]
        simp
  | r :: r2 :: rs, on => by
    have e1 : (r :: r2 :: rs).getLast? = (r2 :: rs).getLast? := by rw [List.getLast?_cons_cons]
    have e2 : (r :: r2 :: rs).dropLast = r :: (r2 :: rs).dropLast := rfl
    rw [e1, e2]
    simp only [bring]
    rw [show walkL cs (r :: r2 :: rs) on false = match stepL cs on r with | none => none | some (on', e') => walkL cs (r2 :: rs) on' e' by
      show (if false = true then none else _) = _
      rw [if_neg Bool.false_ne_true]]
    rw [stepL_of]
    cases step cs on r with
    | some on' => exact walk_none cs (r2 :: rs) on'
    | none =>
      have z : (match (r2 :: rs).getLast? with | none => false | some r => false) = false := by
        cases (r2 :: rs).getLast? <;> rfl
      by_cases hb : broken cs on r = true
      · simp only [hb, if_true]
        rw [walk_ended]
        simp only [reduceCtorEq, if_false]
        exact z.symm
      · simp only [hb]
        exact z.symm
theorem shown_eq (cs : List (List Int)) (ps rs : List Int) (m : Option Int) : shownL cs ps rs m = shownP cs ps rs m := by
  unfold shownL shownP
  cases m with
  | none => exact walk_none cs rs _
  | some k => exact walk_mark cs k rs _

/-! ### clauses as they stand in the heap -/
structure Cs (H : Hp) (a : Addr) (qs : List Addr) (cs : List (List Int)) : Prop where
  l : H a = some (.lst (qs.map V.ref))
  n : qs.length = cs.length
  t : ∀ (i : Nat) q c, qs[i]? = some q → cs[i]? = some c → H q = some (.tup (c.map V.int))
theorem Cs.same {H H' : Hp} {a : Addr} {qs : List Addr} {cs : List (List Int)} (h : Cs H a qs cs) (s : Same H H') : Cs H' a qs cs := ⟨s _ _ h.l, h.n, fun i q c hq hc => s _ _ (h.t i q c hq hc)⟩
theorem Cs.kp {H H' : Hp} {a d : Addr} {qs : List Addr} {cs : List (List Int)} {kvs : List (Key × V)} (h : Cs H a qs cs) (hd : H d = some (.dK kvs)) (k : Kp d H H') : Cs H' a qs cs :=
  ⟨k _ _ h.l (ne_of h.l hd (by intro z; cases z)), h.n, fun i q c hq hc => k _ _ (h.t i q c hq hc) (ne_of (h.t i q c hq hc) hd (by intro z; cases z))⟩
theorem clAt_some {cs : List (List Int)} {r : Int} {c : List Int} (h : clAt cs r = some c) : 0 ≤ r ∧ r < cs.length ∧ cs[r.toNat]? = some c := by
  unfold clAt at h
  split at h
  · rename_i e
    exact ⟨e.1, e.2, h⟩
  · cases h
theorem clAt_in {cs : List (List Int)} {r : Int} (h0 : 0 ≤ r) (h1 : r < cs.length) : ∃ c, clAt cs r = some c := by
  unfold clAt
  rw [if_pos ⟨h0, h1⟩]
  exact ⟨_, List.getElem?_eq_getElem (by omega)⟩
theorem Cs.at {H : Hp} {a : Addr} {qs : List Addr} {cs : List (List Int)} (h : Cs H a qs cs) {r : Int} {c : List Int} (hc : clAt cs r = some c) : ∃ q, atI (qs.map V.ref) r = some (.ref q) ∧ H q = some (.tup (c.map V.int)) := by
  obtain ⟨h0, h1, h2⟩ := clAt_some hc
  have hn := h.n
  have l : r.toNat < qs.length := by omega
  refine ⟨qs[r.toNat], at_of (j := r.toNat) (by omega) ?_, h.t _ _ _ (List.getElem?_eq_getElem l) h2⟩
  rw [List.getElem?_map, List.getElem?_eq_getElem l]
  rfl
theorem len_zero (l : List Int) : decide (V.int ((l.map V.int).length : Nat) = V.int 0) = l.isEmpty := by
  cases l with
  | nil => rfl
  | cons y r =>
    refine decide_eq_false fun z => ?_
    have z2 := V.int.inj z
    rw [List.length_map, List.length_cons] at z2
    omega
theorem drop_at {α : Type} {xs : List α} {i : Nat} {x : α} (h : xs[i]? = some x) : xs.drop i = x :: xs.drop (i + 1) := by
  obtain ⟨l, e⟩ := List.getElem?_eq_some_iff.mp h
  rw [List.drop_eq_getElem_cons l, e]
theorem int_at {rs : List Int} {i : Nat} {x : V} (h : (rs.map V.int)[i]? = some x) : ∃ r, x = .int r ∧ rs[i]? = some r := by
  rw [List.getElem?_map] at h
  cases e : rs[i]? with
  | none =>
    rw [e] at h
    cases h
  | some r =>
    rw [e] at h
    exact ⟨r, (Option.some.inj h).symm, rfl⟩

/-! ### small things -/
theorem pick_int {zs : List Int} {i : Nat} {v : V} (h : (zs.map V.int)[i]? = some v) : ∃ z, v = .int z ∧ z ∈ zs := by
  obtain ⟨r, e, hr⟩ := int_at h
  exact ⟨r, e, List.mem_of_getElem? hr⟩
theorem seq_in {n : Nat} {i : Int} (h0 : 0 ≤ i) (h1 : i < n) : seqIndex? i n = some i.toNat := by
  have e : ixN n i = some i.toNat := by
    unfold ixN
    rw [if_pos h0, if_pos h1]
  exact (ixN_seq e).1
theorem pow8000 {x : Int} (h : x ≤ 1000000) : x < 2 ^ 8000 := Int.lt_of_le_of_lt h (by decide +kernel)
theorem Tape.sq {H : Hp} {t c p : Addr} {n : Nat} {xs : List V} (h : Tape H t c n) (e : H p = some (.lst xs)) {H' : Hp} (k : Kp t H H') : H' p = some (.lst xs) := k p _ e (by
  obtain ⟨ns, spot, left, tc, _⟩ := h
  exact ne_of e tc.d (by intro z; cases z))
theorem Tape.ne_lst' {H : Hp} {t c p : Addr} {n : Nat} {xs : List V} (h : Tape H t c n) (e : H p = some (.lst xs)) : p ≠ t := by
  obtain ⟨ns, spot, left, tc, _⟩ := h
  exact ne_of e tc.d (by intro z; cases z)
theorem getElem_snoc {α : Type} {xs : List α} {x y : α} {i : Nat} (h : (xs ++ [x])[i]? = some y) : (i < xs.length ∧ xs[i]? = some y) ∨ (i = xs.length ∧ x = y) := by
  by_cases c : i < xs.length
  · rw [List.getElem?_append_left c] at h
    exact .inl ⟨c, h⟩
  · rw [List.getElem?_append_right (by omega)] at h
    have l := (List.getElem?_eq_some_iff.mp h).1
    simp only [List.length_cons, List.length_nil] at l
    have e : i - xs.length = 0 := by omega
    rw [e] at h
    exact .inr ⟨by omega, Option.some.inj h⟩
theorem same_mut {H H' : Hp} {D : Addr} {o : HO} (s : Same H H') (h : H D = none) : Same H (upd H' D o) := fun b u e => by
  rw [upd_ne (ne_of_none e h)]
  exact s b u e
theorem take_snoc {xs : List Int} {i : Nat} {x : Int} (h : xs[i]? = some x) : xs.take (i + 1) = xs.take i ++ [x] := by
  rw [List.take_add_one, h]
  rfl

/-! ### sorted(xs, key=abs), xs of whole numbers, any length -/
def byAbs (ns : List Int) : List Int := ns.mergeSort fun a b => decide ((if a < 0 then -a else a) ≤ (if b < 0 then -b else b))
def tSortAbs (K : PySem.W.Frag) (t : TA) : TE := fun σ H Q => t σ H fun vs H1 => ∃ (a : Addr) (ns : List Int), vs = [.ref a] ∧ SqL K H1 a (ns.map V.int) ∧ ∀ p, H1 p = none → Q (.ref p) (upd H1 p (.lst ((byAbs ns).map V.int)))
theorem each_ints : ∀ {vs : List Value} {ns : List Int}, IntsAre vs ns → PySem.W.EachIs (fun v (n : Int) => ∃ t, v = Value.int n t) vs ns
  | _, _, .nil => .nil
  | _, _, .cons _ u t => .cons ⟨u, rfl⟩ (each_ints t)
theorem vals_each : ∀ {vs : List Value} {ns : List Int}, PySem.W.EachIs (fun v (n : Int) => ∃ t, v = Value.int n t) vs ns → Vals (ns.map V.int) vs
  | _, _, .nil => .nil
  | _, _, .cons h t => .cons h (vals_each t)
section
variable {X : Cx}
theorem pe_sortAbs {e : Expr} {t : TA} {p p2 kpos pos : Pos} (hu : X.A.units + 64 < cLine) (hg : Gl X "sorted") (hm : X.mg "sorted" = none) (ha : Gl X "abs") (hma : X.mg "abs" = none) (he : PA X [e] t)
    (h1 : backTo pos (starEach [e] X.env) = (false, eval e X.env) :: backTo pos (starEach [] X.env) := by rfl) (hpl : (backTo pos (starEach [e] X.env)).any (·.1) = false := by rfl)
    (hall : (backToKw pos (keywordEach [⟨some "key", .Name "abs" p2, kpos⟩] X.env)).all (·.1.isSome) = true := by rfl) (hnone : (backToKw pos (keywordEach [⟨some "key", .Name "abs" p2, kpos⟩] X.env)).any (·.1.isNone) = false := by rfl)
    (hks : (backToKw pos (keywordEach [⟨some "key", .Name "abs" p2, kpos⟩] X.env)).filterMap (·.1) = [Str.ofString "key"] := by rfl) :
    PE X (.Call (.Name "sorted" p) [e] [⟨some "key", .Name "abs" p2, kpos⟩] pos) (tSortAbs X.K t) := by
  refine ⟨fun pins s σ H Q I h => ?_⟩
  refine wpAny_Call_Name_kw (ld_blt I hg hm (u := .builtin "sorted") (by decide +kernel) ?_ (by decide) (by decide))
  refine PyProof.Rows.callWith_kw (thn (he.run pos pins s σ H _ I h) fun us s1 ⟨vs, H1, I1, r1, q1⟩ => ?_) h1 hpl hall hnone
  obtain ⟨a, ns, ev, hs, q⟩ := q1
  rw [hks]
  show wpAny _ _ (evalAll ((do let v ← eval (.Name "abs" p2) X.env; standAt pos; pure v) :: [])) _ _ s1
  refine wpAny_evalAll_cons (wpAny_bind (ld_blt I1 ha hma (u := .builtin "abs") (by decide +kernel) (wpAny_bind (wpAny_standAt (wpAny_pure ?_))) (by decide) (by decide)))
  refine wpAny_evalAll_nil ?_
  subst ev
  obtain rfl := Vals.ref1 r1
  obtain ⟨its, rv, hl, hz⟩ := I1.list hs
  rw [List.length_map] at hz
  refine PySem.W.sorted_key_data (b := false) (bs := ns) (R := fun v (n : Int) => ∃ t, v = Value.int n t) (fun z => PyData.int (if z < 0 then -z else z)) hl.isList (each_ints rv.ints) (PySem.W.AllAlike.of fun _ _ => by simp [PySem.W.alike])
    (PySem.W.Sortable.others fun _ => ⟨by simp, by simp⟩) hz (fun x _ => ?_) (ksk_s1 _ _) (fun _ => ksk_l1 _ _) (fun a => ksk_t4 "abs" a) (fun v x hv hx h' tk hk => ?_) fun out c h' tk hk fr hD _ eo => ?_
  · have e0 : (PyData.int (if x < 0 then -x else x)).depth = 0 := rfl
    rw [e0]
    omega
  · obtain ⟨t', rfl⟩ := hv
    exact call_abs_int fun u tk' => ⟨h', tk', rfl, fun _ _ e => e, .int _ _⟩
  · rw [PySem.W.dataLe_int] at eo
    have rv2 : Vals ((byAbs ns).map V.int) out := vals_each eo
    have hlen : ((byAbs ns).map V.int).length ≤ sizeLine := by
      rw [List.length_map]
      unfold byAbs
      rw [List.length_mergeSort]
      exact hz
    exact ⟨.ref _, upd H1 (s1.heap.objs.size + 1) (.lst ((byAbs ns).map V.int)), I1.laid (t' := tk) hk (Nat.le_succ _) ⟨hlen, _, c, rv2, hD⟩, rfl, q _ (I1.hok.fresh (Nat.le_succ _))⟩
end

/-! ### what follows at once, as plain functions and sets -/
theorem mem_left {tr c : List Int} {x : Int} : x ∈ left tr c ↔ x ∈ c ∧ -x ∉ tr := by
  unfold left
  rw [List.mem_filter]
  simp
def offC (tr c : List Int) : Int := ((c.filter fun m => decide (-m ∈ tr)).length : Int)
theorem off_left (tr : List Int) : ∀ c : List Int, offC tr c + ((left tr c).length : Int) = (c.length : Int)
  | [] => rfl
  | x :: r => by
    have ih := off_left tr r
    unfold offC left at ih ⊢
    by_cases h : -x ∈ tr
    · rw [List.filter_cons_of_pos (by simp [h]), List.filter_cons_of_neg (by simp [h]), List.length_cons, List.length_cons]
      omega
    · rw [List.filter_cons_of_neg (by simp [h]), List.filter_cons_of_pos (by simp [h]), List.length_cons, List.length_cons]
      omega
theorem left_snoc (tr c : List Int) (m : Int) : left (tr ++ [m]) c = (left tr c).filter fun x => decide (x ≠ -m) := by
  unfold left
  rw [List.filter_filter]
  refine List.filter_congr fun x _ => ?_
  by_cases h1 : -x ∈ tr
  · simp [h1]
  · by_cases h2 : x = -m
    · simp [h1, h2]
    · have h3 : -x ≠ m := fun e => h2 (by omega)
      simp [h1, h2, h3]
def Quiet (tr c : List Int) : Prop := left tr c ≠ [] ∧ ∀ x, left tr c = [x] → x ∈ tr
def Closed (cs : List (List Int)) (tr : List Int) : Prop := ∀ c ∈ cs, Quiet tr c
theorem quiet_big {tr c : List Int} (h : 2 ≤ (left tr c).length) : Quiet tr c := by
  refine ⟨fun e => ?_, fun x e => ?_⟩
  · rw [e] at h
    exact absurd h (by decide)
  · rw [e] at h
    exact absurd h (by simp)
theorem left_other {tr c : List Int} {m : Int} (h : -m ∉ c) : left (tr ++ [m]) c = left tr c := by
  rw [left_snoc]
  refine List.filter_eq_self.mpr fun x hx => ?_
  have hc := (mem_left.mp hx).1
  exact decide_eq_true fun e => h (e ▸ hc)
theorem quiet_other {tr c : List Int} {m : Int} (h : -m ∉ c) (q : Quiet tr c) : Quiet (tr ++ [m]) c := by
  unfold Quiet
  rw [left_other h]
  exact ⟨q.1, fun x e => List.mem_append_left _ (q.2 x e)⟩
theorem len_drop_one {l : List Int} {y : Int} (hn : l.Nodup) (hy : y ∈ l) : (l.filter fun x => decide (x ≠ y)).length + 1 = l.length := by
  induction l with
  | nil => cases hy
  | cons a r ih =>
    have hn' := List.nodup_cons.mp hn
    by_cases e : a = y
    · subst e
      rw [List.filter_cons_of_neg (by simp), List.length_cons]
      have : r.filter (fun x => decide (x ≠ a)) = r := List.filter_eq_self.mpr fun x hx => decide_eq_true fun z => hn'.1 (z ▸ hx)
      rw [this]
    · rw [List.filter_cons_of_pos (by simpa using e), List.length_cons, List.length_cons, ih hn'.2 ((List.mem_cons.mp hy).resolve_left fun z => e z.symm)]
theorem left_has {tr c : List Int} {m : Int} (hn : c.Nodup) (hm : m ∉ tr) (h : -m ∈ c) : (left (tr ++ [m]) c).length + 1 = (left tr c).length := by
  rw [left_snoc]
  exact len_drop_one (hn.sublist List.filter_sublist) (mem_left.mpr ⟨h, by rw [Int.neg_neg]; exact hm⟩)
/-- the numbers of the clauses that have a mark -/
def nums (cs : List (List Int)) (x : Int) : List Nat := (List.range cs.length).filter fun i => decide (x ∈ cs.getD i [])
theorem nums_snoc (cs : List (List Int)) (c : List Int) (x : Int) : nums (cs ++ [c]) x = nums cs x ++ (if x ∈ c then [cs.length] else []) := by
  unfold nums
  rw [List.length_append, List.length_singleton, List.range_succ, List.filter_append]
  congr 1
  · refine List.filter_congr fun i hi => ?_
    have hl := List.mem_range.mp hi
    rw [List.getD_eq_getElem?_getD, List.getD_eq_getElem?_getD, List.getElem?_append_left hl]
  · have e : (cs ++ [c]).getD cs.length [] = c := by
      rw [List.getD_eq_getElem?_getD, List.getElem?_append_right (Nat.le_refl _), Nat.sub_self]
      rfl
    by_cases h : x ∈ c
    · rw [if_pos h, List.filter_cons_of_pos (by rw [e]; exact decide_eq_true h)]
      rfl
    · rw [if_neg h, List.filter_cons_of_neg (by rw [e]; simpa using h)]
      rfl
theorem mem_nums {cs : List (List Int)} {x : Int} {i : Nat} : i ∈ nums cs x ↔ ∃ c, cs[i]? = some c ∧ x ∈ c := by
  unfold nums
  rw [List.mem_filter, List.mem_range]
  constructor
  · rintro ⟨h, hx⟩
    refine ⟨cs[i], List.getElem?_eq_getElem h, ?_⟩
    have := of_decide_eq_true hx
    rw [List.getD_eq_getElem?_getD, List.getElem?_eq_getElem h] at this
    exact this
  · rintro ⟨c, h, hx⟩
    have hl := (List.getElem?_eq_some_iff.mp h).1
    refine ⟨hl, decide_eq_true ?_⟩
    rw [List.getD_eq_getElem?_getD, h]
    exact hx
theorem nums_nodup (cs : List (List Int)) (x : Int) : (nums cs x).Nodup := List.nodup_range.sublist List.filter_sublist
def leftSum (cs : List (List Int)) (tr : List Int) : Nat := (cs.map fun c => (left tr c).length).sum
theorem leftSum_cons (c : List Int) (cs : List (List Int)) (tr : List Int) : leftSum (c :: cs) tr = (left tr c).length + leftSum cs tr := by
  unfold leftSum
  rw [List.map_cons, List.sum_cons]
theorem leftSum_append (a b : List (List Int)) (tr : List Int) : leftSum (a ++ b) tr = leftSum a tr + leftSum b tr := by
  unfold leftSum
  rw [List.map_append, List.sum_append]
theorem rev_ind {α : Type} {P : List α → Prop} (h0 : P []) (h1 : ∀ xs x, P xs → P (xs ++ [x])) : ∀ xs, P xs := by
  intro xs
  have h : ∀ ys : List α, P ys.reverse := by
    intro ys
    induction ys with
    | nil => exact h0
    | cons a r ih =>
      rw [List.reverse_cons]
      exact h1 _ _ ih
  have := h xs.reverse
  rw [List.reverse_reverse] at this
  exact this
theorem leftSum_snoc {m : Int} {tr : List Int} (hm : m ∉ tr) : ∀ cs : List (List Int), (∀ c ∈ cs, c.Nodup) → leftSum cs (tr ++ [m]) + (nums cs (-m)).length = leftSum cs tr := by
  refine rev_ind (fun _ => rfl) fun xs c ih hn => ?_
  have ih' := ih fun d hd => hn d (List.mem_append_left _ hd)
  have hc := hn c (List.mem_append_right _ List.mem_cons_self)
  rw [leftSum_append, leftSum_append, nums_snoc, List.length_append]
  have one : ∀ t, leftSum [c] t = (left t c).length := fun t => by
    rw [leftSum_cons]
    rfl
  rw [one, one]
  by_cases h : -m ∈ c
  · rw [if_pos h]
    have := left_has hc hm h
    simp only [List.length_singleton]
    omega
  · rw [if_neg h, left_other h]
    simp only [List.length_nil]
    omega
theorem leftSum_le (cs : List (List Int)) (tr : List Int) : leftSum cs tr ≤ cs.flatten.length := by
  induction cs with
  | nil => exact Nat.le_refl _
  | cons c r ih =>
    rw [leftSum_cons, List.flatten_cons, List.length_append]
    have : (left tr c).length ≤ c.length := List.length_filter_le _ _
    omega
/-! ### derived marks -/
inductive Der (cs : List (List Int)) (ps : List Int) : Int → Prop
  | put {m : Int} : m ∈ ps → Der cs ps m
  | cl {m : Int} {c : List Int} : c ∈ cs → m ∈ c → (∀ x ∈ c, x ≠ m → Der cs ps (-x)) → Der cs ps m
def Brk (cs : List (List Int)) (ps : List Int) : Prop := ∃ c ∈ cs, ∀ x ∈ c, Der cs ps (-x)
/-- each mark of a trail came by a row or was put -/
def Just (cs : List (List Int)) (ps tr : List Int) (rw : List (Option Int)) : Prop :=
  ∀ (i : Nat) (m : Int), tr[i]? = some m → (rw[i]? = some none ∧ m ∈ ps) ∨ ∃ (k : Nat) (c : List Int), rw[i]? = some (some (k : Int)) ∧ cs[k]? = some c ∧ m ∈ c ∧ ∀ x ∈ c, x ≠ m → -x ∈ tr.take i
theorem mem_take {α : Type} {l : List α} {i : Nat} {x : α} (h : x ∈ l.take i) : ∃ j, j < i ∧ l[j]? = some x := by
  obtain ⟨j, hj⟩ := List.mem_iff_getElem?.mp h
  rw [List.getElem?_take] at hj
  by_cases c : j < i
  · rw [if_pos c] at hj
    exact ⟨j, c, hj⟩
  · rw [if_neg c] at hj
    cases hj
theorem just_der {cs : List (List Int)} {ps tr : List Int} {rw : List (Option Int)} (h : Just cs ps tr rw) : ∀ (n i : Nat) (m : Int), i < n → tr[i]? = some m → Der cs ps m := by
  intro n
  induction n with
  | zero => intro i m hi; exact absurd hi (Nat.not_lt_zero _)
  | succ n ih =>
    intro i m hi hm
    rcases h i m hm with ⟨_, hp⟩ | ⟨k, c, _, hc, hmc, ho⟩
    · exact .put hp
    · refine .cl (List.mem_of_getElem? hc) hmc fun x hx hne => ?_
      obtain ⟨j, hj, e⟩ := mem_take (ho x hx hne)
      exact ih j (-x) (by omega) e
theorem Just.der {cs : List (List Int)} {ps tr : List Int} {rw : List (Option Int)} (h : Just cs ps tr rw) {m : Int} (hm : m ∈ tr) : Der cs ps m := by
  obtain ⟨i, e⟩ := List.mem_iff_getElem?.mp hm
  exact just_der h (i + 1) i m (Nat.lt_succ_self _) e
theorem der_in {cs : List (List Int)} {ps tr : List Int} (hn : ∀ c ∈ cs, c.Nodup) (hp : ∀ m ∈ ps, m ∈ tr) (hc : Closed cs tr) {m : Int} (h : Der cs ps m) : m ∈ tr := by
  induction h with
  | put h => exact hp _ h
  | @cl m c hm hmc _ ih =>
    have q := hc c hm
    have sub : ∀ x ∈ left tr c, x = m := fun x hx => by
      obtain ⟨h1, h2⟩ := mem_left.mp hx
      by_cases e : x = m
      · exact e
      · exact absurd (ih x h1 e) h2
    have nd : (left tr c).Nodup := (hn c hm).sublist List.filter_sublist
    cases e : left tr c with
    | nil => exact absurd e q.1
    | cons a r =>
      rw [e] at sub nd
      have ha := sub a List.mem_cons_self
      cases r with
      | nil => exact ha ▸ q.2 a e
      | cons b r2 =>
        have hb := sub b (List.mem_cons_of_mem _ List.mem_cons_self)
        exact absurd (List.mem_cons_self : b ∈ b :: r2) ((List.nodup_cons.mp nd).1 |> fun z => by rw [ha, ← hb] at z; exact z)
theorem not_brk {cs : List (List Int)} {ps tr : List Int} (hn : ∀ c ∈ cs, c.Nodup) (hp : ∀ m ∈ ps, m ∈ tr) (hc : Closed cs tr) : ¬ Brk cs ps := by
  rintro ⟨c, hm, h⟩
  refine (hc c hm).1 (List.filter_eq_nil_iff.mpr fun x hx => ?_)
  have := der_in hn hp hc (h x hx)
  simp [this]
theorem Der.more {cs cs' : List (List Int)} {ps ps' : List Int} (hc : ∀ c ∈ cs, c ∈ cs') (hp : ∀ m ∈ ps, m ∈ ps') {m : Int} (h : Der cs ps m) : Der cs' ps' m := by
  induction h with
  | put h => exact .put (hp _ h)
  | cl h1 h2 _ ih => exact .cl (hc _ h1) h2 ih
theorem nodup_le {α : Type} [DecidableEq α] : ∀ {xs ys : List α}, xs.Nodup → (∀ x ∈ xs, x ∈ ys) → xs.length ≤ ys.length
  | [], _, _, _ => Nat.zero_le _
  | a :: r, ys, hn, h => by
    have hn' := List.nodup_cons.mp hn
    have ha := h a List.mem_cons_self
    have l := nodup_le (ys := ys.erase a) hn'.2 fun x hx => (List.mem_erase_of_ne (fun e : x = a => hn'.1 (by rw [← e]; exact hx))).mpr (h x (List.mem_cons_of_mem _ hx))
    rw [List.length_erase_of_mem ha] at l
    have := List.length_pos_of_mem ha
    rw [List.length_cons]
    omega
/-! ### sorted by names -/
def ab (a : Int) : Int := if a < 0 then -a else a
theorem byAbs_perm (ns : List Int) : (byAbs ns).Perm ns := List.mergeSort_perm _ _
theorem byAbs_sorted (ns : List Int) : (byAbs ns).Pairwise fun a b => ab a ≤ ab b := by
  have h := List.pairwise_mergeSort (le := fun a b => decide (ab a ≤ ab b)) (fun a b c h1 h2 => by
    have := of_decide_eq_true h1
    have := of_decide_eq_true h2
    exact decide_eq_true (by omega)) (fun a b => by
    by_cases c : ab a ≤ ab b
    · simp [c]
    · have : ab b ≤ ab a := by omega
      simp [this]) ns
  exact h.imp fun h => of_decide_eq_true h
theorem sorted_one : ∀ {xs ys : List Int}, xs.Perm ys → xs.Pairwise (fun a b => ab a ≤ ab b) → ys.Pairwise (fun a b => ab a ≤ ab b) → (∀ a ∈ xs, ∀ b ∈ xs, ab a = ab b → a = b) → xs = ys
  | [], ys, h, _, _, _ => (List.nil_perm.mp h).symm
  | a :: r, [], h, _, _, _ => absurd h.length_eq (by simp)
  | a :: r, b :: s, h, h1, h2, hi => by
    have p1 := List.pairwise_cons.mp h1
    have p2 := List.pairwise_cons.mp h2
    have ma : a ∈ b :: s := h.mem_iff.mp List.mem_cons_self
    have mb : b ∈ a :: r := h.mem_iff.mpr List.mem_cons_self
    have le1 : ab b ≤ ab a := by
      rcases List.mem_cons.mp ma with e | m
      · rw [e]; exact Int.le_refl _
      · exact p2.1 a m
    have le2 : ab a ≤ ab b := by
      rcases List.mem_cons.mp mb with e | m
      · rw [e]; exact Int.le_refl _
      · exact p1.1 b m
    have e : a = b := hi a List.mem_cons_self b mb (by omega)
    subst e
    rw [sorted_one ((List.perm_cons a).mp h) p1.2 p2.2 fun x hx y hy => hi x (List.mem_cons_of_mem _ hx) y (List.mem_cons_of_mem _ hy)]
theorem perm_of {xs ys : List Int} (hx : xs.Nodup) (hy : ys.Nodup) (h : ∀ x, x ∈ xs ↔ x ∈ ys) : xs.Perm ys := (List.perm_ext_iff_of_nodup hx hy).mpr h
theorem byAbs_eq {xs ys : List Int} (hx : xs.Nodup) (hy : ys.Nodup) (hc : ∀ x ∈ xs, -x ∉ xs) (h : ∀ x, x ∈ xs ↔ x ∈ ys) : byAbs xs = byAbs ys := by
  refine sorted_one (((byAbs_perm xs).trans (perm_of hx hy h)).trans (byAbs_perm ys).symm) (byAbs_sorted xs) (byAbs_sorted ys) fun a ha b hb e => ?_
  have ha' := (byAbs_perm xs).mem_iff.mp ha
  have hb' := (byAbs_perm xs).mem_iff.mp hb
  unfold ab at e
  by_cases c : a = b
  · exact c
  · have : b = -a := by
      split at e <;> split at e <;> omega
    exact absurd (this ▸ hb') (hc a ha')

/-! ### a follower in the heap -/
structure FA where
  f : Addr
  dx : Addr
  cl : Addr
  ofs : Addr
  hv : Addr
  tr : Addr
  pl : Addr
  rw : Addr
  pu : Addr
  ip : Addr
  ah : Addr
def fas (A : FA) : List Addr := [A.f, A.cl, A.ofs, A.hv, A.tr, A.pl, A.rw, A.pu, A.ip, A.ah]
def optI : Option Int → V
  | none => .non
  | some i => .int i
def fl (A : FA) (br : Option Int) : List (Str × V) := [("_clauses", .ref A.cl), ("_offs", .ref A.ofs), ("_having", .ref A.hv), ("_trail", .ref A.tr), ("_place", .ref A.pl), ("_rows", .ref A.rw), ("_puts", .ref A.pu), ("_is_put", .ref A.ip), ("_ahead", .ref A.ah), ("_broken_row", optI br)]
theorem put_br (A : FA) (br b : Option Int) : putF "_broken_row" (optI b) (fl A br) = fl A b := by rfl
/-- the places of a trail's marks -/
def plD (tr : List Int) : List (Key × V) := tr.zipIdx.map fun p => ((Sum.inl p.1 : Key), V.int (p.2 : Nat))
theorem plD_snoc (tr : List Int) (m : Int) : plD (tr ++ [m]) = plD tr ++ [((Sum.inl m : Key), V.int (tr.length : Nat))] := by
  unfold plD
  rw [List.zipIdx_append, List.map_append]
  simp
theorem plD_none {tr : List Int} {m : Int} (h : m ∉ tr) : valV (plD tr) (Sum.inl m : Key) = none := by
  revert h
  refine rev_ind (P := fun tr => m ∉ tr → valV (plD tr) (Sum.inl m : Key) = none) (fun _ => rfl) (fun xs x ih h => ?_) tr
  rw [plD_snoc]
  have hx : x ≠ m := fun e => h (by rw [e]; exact List.mem_append_right _ List.mem_cons_self)
  have ih' := ih fun z => h (List.mem_append_left _ z)
  unfold valV at ih' ⊢
  rw [List.find?_append]
  cases e : (plD xs).find? (fun kv => decide (kv.1 = (Sum.inl m : Key))) with
  | some v => rw [e] at ih'; cases ih'
  | none =>
    simp [List.find?_cons, hx]
theorem plD_some {tr : List Int} (hn : tr.Nodup) {i : Nat} {m : Int} (h : tr[i]? = some m) : valV (plD tr) (Sum.inl m : Key) = some (.int (i : Nat)) := by
  revert hn h
  refine rev_ind (P := fun tr => tr.Nodup → tr[i]? = some m → valV (plD tr) (Sum.inl m : Key) = some (.int (i : Nat))) (fun _ h => by simp at h) (fun xs x ih hn h => ?_) tr
  rw [plD_snoc]
  rcases getElem_snoc h with ⟨hl, e⟩ | ⟨hl, e⟩
  · have ih' := ih (hn.sublist (List.sublist_append_left _ _)) e
    unfold valV at ih' ⊢
    rw [List.find?_append]
    cases e2 : (plD xs).find? (fun kv => decide (kv.1 = (Sum.inl m : Key))) with
    | none => rw [e2] at ih'; cases ih'
    | some v => rw [e2] at ih'; exact ih'
  · subst e hl
    have nx : x ∉ xs := fun z => by
      have := List.nodup_append.mp hn
      exact this.2.2 x z x List.mem_cons_self rfl
    have n := plD_none nx
    unfold valV at n ⊢
    rw [List.find?_append]
    cases e2 : (plD xs).find? (fun kv => decide (kv.1 = (Sum.inl x : Key))) with
    | some v => rw [e2] at n; cases n
    | none => simp
theorem plD_is {tr : List Int} (hn : tr.Nodup) (m : Int) : (valV (plD tr) (Sum.inl m : Key)).isSome = decide (m ∈ tr) := by
  by_cases h : m ∈ tr
  · obtain ⟨i, e⟩ := List.mem_iff_getElem?.mp h
    rw [plD_some hn e, decide_eq_true h]
    rfl
  · rw [plD_none h, decide_eq_false h]
    rfl
theorem plD_len (tr : List Int) : (plD tr).length = tr.length := by
  unfold plD
  rw [List.length_map, List.length_zipIdx]
/-! ### the ten objects -/
structure Core (H : Hp) (as : List Addr) (obs : List HO) : Prop where
  nd : as.Nodup
  le : as.length = obs.length
  at_ : ∀ (i : Nat) (a : Addr) (o : HO), as[i]? = some a → obs[i]? = some o → H a = some o
theorem Core.put {H : Hp} {as : List Addr} {obs : List HO} (h : Core H as obs) (i : Nat) {a : Addr} (ha : as[i]? = some a) (o : HO) : Core (upd H a o) as (obs.set i o) := by
  refine ⟨h.nd, by rw [List.length_set]; exact h.le, fun j b u hb hu => ?_⟩
  by_cases e : i = j
  · subst e
    rw [ha] at hb
    cases hb
    have hl := (List.getElem?_eq_some_iff.mp ha).1
    rw [List.getElem?_set_self (by rw [← h.le]; exact hl)] at hu
    cases hu
    exact upd_same
  · rw [List.getElem?_set_ne e] at hu
    have ne : b ≠ a := fun z => by
      subst z
      have h1 := (List.getElem?_eq_some_iff.mp ha)
      have h2 := (List.getElem?_eq_some_iff.mp hb)
      obtain ⟨l1, e1⟩ := h1
      obtain ⟨l2, e2⟩ := h2
      exact e ((List.getElem_inj h.nd).mp (e1.trans e2.symm))
    rw [upd_ne ne]
    exact h.at_ j b u hb hu
theorem Core.has {H : Hp} {as : List Addr} {obs : List HO} (h : Core H as obs) {a : Addr} (ha : a ∈ as) : ∃ o, o ∈ obs ∧ H a = some o := by
  obtain ⟨i, e⟩ := List.mem_iff_getElem?.mp ha
  have l := (List.getElem?_eq_some_iff.mp e).1
  have l2 : i < obs.length := by rw [← h.le]; exact l
  exact ⟨obs[i], List.getElem_mem l2, h.at_ i a _ e (List.getElem?_eq_getElem l2)⟩
theorem Core.keep {H H' : Hp} {as : List Addr} {obs : List HO} (h : Core H as obs) (k : ∀ a ∈ as, ∀ o, H a = some o → H' a = some o) : Core H' as obs :=
  ⟨h.nd, h.le, fun i a o ha ho => k a (List.mem_of_getElem? ha) o (h.at_ i a o ha ho)⟩
/-- the lists of numbers -/
structure Hv (H : Hp) (as : List Addr) (kvs : List (Key × V)) (g : Int → List Nat) : Prop where
  at_ : ∀ m : Int, (valV kvs (Sum.inl m : Key) = none ∧ g m = []) ∨ ∃ l, valV kvs (Sum.inl m : Key) = some (.ref l) ∧ H l = some (.lst ((g m).map fun i => V.int (i : Nat))) ∧ l ∉ as
  one : ∀ (m m' : Int) (l : Addr), valV kvs (Sum.inl m : Key) = some (.ref l) → valV kvs (Sum.inl m' : Key) = some (.ref l) → m = m'
theorem Hv.keep {H H' : Hp} {as : List Addr} {kvs : List (Key × V)} {g : Int → List Nat} (h : Hv H as kvs g) (k : ∀ (m : Int) l, valV kvs (Sum.inl m : Key) = some (.ref l) → ∀ o, H l = some o → H' l = some o) : Hv H' as kvs g := by
  refine ⟨fun m => ?_, h.one⟩
  rcases h.at_ m with z | ⟨l, e, hl, nl⟩
  · exact .inl z
  · exact .inr ⟨l, e, k m l e _ hl, nl⟩
/-- what lies about the ten -/
structure Rest (H : Hp) (A : FA) (D : Addr → Prop) (qs aq : List Addr) (kvs : List (Key × V)) (cs : List (List Int)) (g : Int → List Nat) (ah : List (Int × Int)) : Prop where
  cn : qs.length = cs.length
  ct : ∀ (i : Nat) q c, qs[i]? = some q → cs[i]? = some c → H q = some (.tup (c.map V.int))
  an : aq.length = ah.length
  at_ : ∀ (i : Nat) q z, aq[i]? = some q → ah[i]? = some z → H q = some (.tup [.int z.1, .int z.2])
  hv : Hv H (fas A) kvs g
  dd : ∀ b, D b ↔ b ∈ fas A ∨ ∃ m : Int, valV kvs (Sum.inl m : Key) = some (.ref b)
def NT (o : HO) : Prop := ∀ xs, o ≠ .tup xs
theorem Rest.keep {H H' : Hp} {A : FA} {D : Addr → Prop} {qs aq : List Addr} {kvs : List (Key × V)} {cs : List (List Int)} {g : Int → List Nat} {ah : List (Int × Int)} (h : Rest H A D qs aq kvs cs g ah)
    (kt : ∀ b xs, H b = some (.tup xs) → H' b = some (.tup xs)) (kd : ∀ b, b ∉ fas A → D b → ∀ o, H b = some o → H' b = some o) : Rest H' A D qs aq kvs cs g ah := by
  refine ⟨h.cn, fun i q c hq hc => kt _ _ (h.ct i q c hq hc), h.an, fun i q z hq hz => kt _ _ (h.at_ i q z hq hz), ?_, h.dd⟩
  refine ⟨fun m => ?_, h.hv.one⟩
  rcases h.hv.at_ m with z | ⟨l, e, hl, nl⟩
  · exact .inl z
  · exact .inr ⟨l, e, kd l nl ((h.dd l).mpr (.inr ⟨m, e⟩)) _ hl, nl⟩
/-- one of the ten is changed -/
theorem Rest.core {H : Hp} {A : FA} {D : Addr → Prop} {qs aq : List Addr} {kvs : List (Key × V)} {cs : List (List Int)} {g : Int → List Nat} {ah : List (Int × Int)} (h : Rest H A D qs aq kvs cs g ah)
    {a : Addr} (ha : a ∈ fas A) {u : HO} (hu : H a = some u) (nu : NT u) (o : HO) : Rest (upd H a o) A D qs aq kvs cs g ah := by
  refine h.keep (fun b xs e => ?_) fun b nb _ v e => ?_
  · rw [upd_ne (ne_of e hu fun z => nu xs z.symm)]
    exact e
  · rw [upd_ne (fun z : b = a => nb (by rw [z]; exact ha))]
    exact e
theorem Rest.same {H H' : Hp} {A : FA} {D : Addr → Prop} {qs aq : List Addr} {kvs : List (Key × V)} {cs : List (List Int)} {g : Int → List Nat} {ah : List (Int × Int)} (h : Rest H A D qs aq kvs cs g ah) (s : Same H H') : Rest H' A D qs aq kvs cs g ah :=
  h.keep (fun b xs e => s _ _ e) fun b _ _ o e => s _ _ e
theorem Core.same {H H' : Hp} {as : List Addr} {obs : List HO} (h : Core H as obs) (s : Same H H') : Core H' as obs := h.keep fun a _ o e => s _ _ e
/-- the whole follower, as it lies -/
structure FolR (H : Hp) (C : Addr) (A : FA) (D : Addr → Prop) (qs aq : List Addr) (kvs : List (Key × V)) (cs : List (List Int)) (o : List Int) (g : Int → List Nat) (tr : List Int) (rw : List (Option Int)) (pu : List Int) (ah : List (Int × Int)) (br : Option Int) : Prop where
  co : Core H (fas A) [.ins C A.dx (fl A br), .lst (qs.map V.ref), .lst (o.map V.int), .dK kvs, .lst (tr.map V.int), .dK (plD tr), .lst (rw.map optI), .lst (pu.map V.int), .dK (tru pu), .lst (aq.map V.ref)]
  re : Rest H A D qs aq kvs cs g ah
/-- what stays behind a deed -/
structure Fr (D D' : Addr → Prop) (H H' : Hp) : Prop where
  k : ∀ b o, H b = some o → ¬ D b → H' b = some o
  d : ∀ b, D' b → D b ∨ H b = none
theorem Fr.refl (D : Addr → Prop) (H : Hp) : Fr D D H H := ⟨fun _ _ e _ => e, fun _ h => .inl h⟩
theorem Fr.trans {D D1 D2 : Addr → Prop} {H H1 H2 : Hp} (a : Fr D D1 H H1) (b : Fr D1 D2 H1 H2) (h : ∀ b, D b → D1 b) : Fr D D2 H H2 := by
  refine ⟨fun x o e n => ?_, fun x hx => ?_⟩
  · refine b.k x o (a.k x o e n) fun z => ?_
    rcases a.d x z with d | d
    · exact n d
    · rw [d] at e
      cases e
  · rcases b.d x hx with d | d
    · exact a.d x d
    · by_cases dx : D x
      · exact .inl dx
      · refine .inr ?_
        cases e : H x with
        | none => rfl
        | some o =>
          rw [a.k x o e dx] at d
          cases d
theorem Fr.same {D : Addr → Prop} {H H' : Hp} (s : Same H H') : Fr D D H H' := ⟨fun b o e _ => s b o e, fun _ h => .inl h⟩
theorem Fr.upd {D : Addr → Prop} {H : Hp} {a : Addr} {o : HO} (h : D a) : Fr D D H (upd H a o) := ⟨fun b u e n => by rw [upd_ne (fun z : b = a => n (by rw [z]; exact h))]; exact e, fun _ h => .inl h⟩
section
variable {H : Hp} {C : Addr} {A : FA} {D : Addr → Prop} {qs aq : List Addr} {kvs : List (Key × V)} {cs : List (List Int)} {o : List Int} {g : Int → List Nat} {tr : List Int} {rw : List (Option Int)} {pu : List Int} {ah : List (Int × Int)} {br : Option Int}
theorem FolR.ins (h : FolR H C A D qs aq kvs cs o g tr rw pu ah br) : H A.f = some (.ins C A.dx (fl A br)) := h.co.at_ 0 _ _ rfl rfl
theorem FolR.cl (h : FolR H C A D qs aq kvs cs o g tr rw pu ah br) : H A.cl = some (.lst (qs.map V.ref)) := h.co.at_ 1 _ _ rfl rfl
theorem FolR.ofs (h : FolR H C A D qs aq kvs cs o g tr rw pu ah br) : H A.ofs = some (.lst (o.map V.int)) := h.co.at_ 2 _ _ rfl rfl
theorem FolR.hvd (h : FolR H C A D qs aq kvs cs o g tr rw pu ah br) : H A.hv = some (.dK kvs) := h.co.at_ 3 _ _ rfl rfl
theorem FolR.trl (h : FolR H C A D qs aq kvs cs o g tr rw pu ah br) : H A.tr = some (.lst (tr.map V.int)) := h.co.at_ 4 _ _ rfl rfl
theorem FolR.pld (h : FolR H C A D qs aq kvs cs o g tr rw pu ah br) : H A.pl = some (.dK (plD tr)) := h.co.at_ 5 _ _ rfl rfl
theorem FolR.rwl (h : FolR H C A D qs aq kvs cs o g tr rw pu ah br) : H A.rw = some (.lst (rw.map optI)) := h.co.at_ 6 _ _ rfl rfl
theorem FolR.pul (h : FolR H C A D qs aq kvs cs o g tr rw pu ah br) : H A.pu = some (.lst (pu.map V.int)) := h.co.at_ 7 _ _ rfl rfl
theorem FolR.ipd (h : FolR H C A D qs aq kvs cs o g tr rw pu ah br) : H A.ip = some (.dK (tru pu)) := h.co.at_ 8 _ _ rfl rfl
theorem FolR.ahl (h : FolR H C A D qs aq kvs cs o g tr rw pu ah br) : H A.ah = some (.lst (aq.map V.ref)) := h.co.at_ 9 _ _ rfl rfl
theorem FolR.same {H' : Hp} (h : FolR H C A D qs aq kvs cs o g tr rw pu ah br) (s : Same H H') : FolR H' C A D qs aq kvs cs o g tr rw pu ah br := ⟨h.co.same s, h.re.same s⟩
theorem FolR.in_ (h : FolR H C A D qs aq kvs cs o g tr rw pu ah br) {a : Addr} (ha : a ∈ fas A) : D a := (h.re.dd a).mpr (.inl ha)
theorem FolR.setBr (h : FolR H C A D qs aq kvs cs o g tr rw pu ah br) (b : Option Int) : FolR (upd H A.f (.ins C A.dx (fl A b))) C A D qs aq kvs cs o g tr rw pu ah b :=
  ⟨h.co.put 0 rfl _, h.re.core (by simp [fas]) h.ins (fun xs z => by cases z) _⟩
theorem FolR.setOf (h : FolR H C A D qs aq kvs cs o g tr rw pu ah br) (o' : List Int) : FolR (upd H A.ofs (.lst (o'.map V.int))) C A D qs aq kvs cs o' g tr rw pu ah br :=
  ⟨h.co.put 2 rfl _, h.re.core (by simp [fas]) h.ofs (fun xs z => by cases z) _⟩
end

section
variable {P : Program} {w : World} {K : PySem.W.Frag} {mg : Str → Option Value} {base : Heap}
/-! ### the small methods -/
def spReady (C : Addr) : Sp := fun vs H Q _ => ∃ (A : FA) (br : Option Int) (qs : List Addr) (o : List Int) (i : Nat) (z : Int) (q : Addr) (c : List Int), vs = [.ref A.f, .int (i : Nat)] ∧ H A.f = some (.ins C A.dx (fl A br)) ∧ H A.ofs = some (.lst (o.map V.int)) ∧ o[i]? = some z ∧
  H A.cl = some (.lst (qs.map V.ref)) ∧ qs[i]? = some q ∧ H q = some (.tup (c.map V.int)) ∧ Q (.bl (decide (z ≥ (c.length : Int) - 1))) H
theorem hm_ready {cs : Nat → Addr} (T : Top K mg cs) : HasM P w K mg base (cs 0) 1 "_is_ready" ["self", "number"] (spReady (cs 0)) := by
  refine has_ofM T.m_Follower__is_ready sc_Follower__is_ready bd_Follower__is_ready (fun vs H Q E h => ?_) (fun f cdv Ar outer s H vs Q E hr h => ?_)
  · obtain ⟨A, br, qs, o, i, z, q, c, rfl, _⟩ := h
    rfl
  · have hu := hu_of hr
    have nd := sc_Follower__is_ready.nd
    obtain ⟨A, br, qs, o, i, z, q, c, rfl, hf, ho, hz, hc, hq, ht, k⟩ := h
    refine ⟨_, (pss_one (ps_ret (pe_cmpR op_ge (pe_ix ix_list (pe_fld (pv 0) rfl) (pv 1) (fun _ _ => rfl)) (pe_op op_sub (pe_callB call_len_seq (by rfl) T.b_len (by decide +kernel) (pa_cons (pe_ix ix_list (pe_fld (pv 0) rfl) (pv 1) (fun _ _ => rfl)) pa_nil)) pe_int) (nomark _)))), ?_⟩
    have ez : (o.map V.int)[i]? = some (.int z) := by
      rw [List.getElem?_map, hz]
      rfl
    have eq : (qs.map V.ref)[i]? = some (.ref q) := by
      rw [List.getElem?_map, hq]
      rfl
    refine ⟨_, rfl, A.f, cs 0, A.dx, _, _, rfl, hf, T.cl_Follower, T.n_Follower__offs, rfl, _, rfl, A.ofs, _, _, _, rfl, rfl, SqL.of ho, atI_nat ez, ?_⟩
    refine ⟨_, rfl, A.f, cs 0, A.dx, _, _, rfl, hf, T.cl_Follower, T.n_Follower__clauses, rfl, _, rfl, A.cl, _, _, _, rfl, rfl, SqL.of hc, atI_nat eq, q, _, rfl, .inr (SqT.of ht), _, _, rfl, rfl, _, _, rfl, rfl, ?_⟩
    rw [List.length_map]
    exact k
def spIsBr (C : Addr) : Sp := fun vs H Q _ => ∃ (A : FA) (br : Option Int), vs = [.ref A.f] ∧ H A.f = some (.ins C A.dx (fl A br)) ∧ Q (.bl br.isSome) H
def spRefuse (C : Addr) : Sp := fun vs H Q _ => ∃ (A : FA), vs = [.ref A.f] ∧ H A.f = some (.ins C A.dx (fl A none)) ∧ Q .non H
theorem hm_refuse {cs : Nat → Addr} (T : Top K mg cs) : HasM P w K mg base (cs 0) 1 "_refuse_broken" ["self"] (spRefuse (cs 0)) := by
  refine has_ofM T.m_Follower__refuse_broken sc_Follower__refuse_broken bd_Follower__refuse_broken (fun vs H Q E h => ?_) (fun f cdv Ar outer s H vs Q E hr h => ?_)
  · obtain ⟨A, rfl, _⟩ := h
    rfl
  · have hu := hu_of hr
    have nd := sc_Follower__refuse_broken.nd
    obtain ⟨A, rfl, hf, k⟩ := h
    refine ⟨_, (pss_one (ps_if (pt_cmpR op_notN (pe_fld (pv 0) rfl) pe_non (nomark _)) (pss_one ps_never) pss_nil)), ?_⟩
    exact ⟨_, rfl, A.f, cs 0, A.dx, _, _, rfl, hf, T.cl_Follower, T.n_Follower__broken_row, rfl, rfl, _, rfl, iteF k⟩
def spRowOf (C : Addr) : Sp := fun vs H Q _ => ∃ (A : FA) (br : Option Int) (tr : List Int) (rw : List (Option Int)) (m : Int) (i : Nat) (r : Option Int), vs = [.ref A.f, .int m] ∧ H A.f = some (.ins C A.dx (fl A br)) ∧ H A.pl = some (.dK (plD tr)) ∧ H A.rw = some (.lst (rw.map optI)) ∧
  tr.Nodup ∧ tr[i]? = some m ∧ rw[i]? = some r ∧ Q (optI r) H
theorem hm_rowof {cs : Nat → Addr} (T : Top K mg cs) : HasM P w K mg base (cs 0) 1 "_row_of" ["self", "mark"] (spRowOf (cs 0)) := by
  refine has_ofM T.m_Follower__row_of sc_Follower__row_of bd_Follower__row_of (fun vs H Q E h => ?_) (fun f cdv Ar outer s H vs Q E hr h => ?_)
  · obtain ⟨A, br, tr, rw, m, i, r, rfl, _⟩ := h
    rfl
  · have hu := hu_of hr
    have nd := sc_Follower__row_of.nd
    obtain ⟨A, br, tr, rw, m, i, r, rfl, hf, hp, hw, hn, ht, hr', k⟩ := h
    refine ⟨_, (pss_one (ps_ret (pe_ix ix_list (pe_fld (pv 0) rfl) (pe_dget hu (pe_fld (pv 0) rfl) (pv 1) (fun _ _ => rfl)) (fun _ _ => rfl)))), ?_⟩
    have er : (rw.map optI)[i]? = some (optI r) := by
      rw [List.getElem?_map, hr']
      rfl
    have g := DGet.k (k := (Sum.inl m : Key)) hp
    rw [plD_some hn ht] at g
    exact ⟨_, rfl, A.f, cs 0, A.dx, _, _, rfl, hf, T.cl_Follower, T.n_Follower__rows, rfl, _, rfl, A.f, cs 0, A.dx, _, _, rfl, hf, T.cl_Follower, T.n_Follower__place, rfl, _, rfl, A.pl, _, rfl, g, A.rw, _, _, _, rfl, rfl, SqL.of hw, atI_nat er, k⟩
def spNews (C : Addr) : Sp := fun vs H Q _ => ∃ (A : FA) (br : Option Int) (tr : List Int) (n : Nat), vs = [.ref A.f, .int (n : Nat)] ∧ H A.f = some (.ins C A.dx (fl A br)) ∧ H A.tr = some (.lst (tr.map V.int)) ∧
  ((br ≠ none → Q .non H) ∧ (br = none → ∀ H' p, H p = none → Same H H' → H' p = some (.lst ((byAbs (tr.drop n)).map V.int)) → Q (.ref p) H'))
theorem hm_news {cs : Nat → Addr} (T : Top K mg cs) : HasM P w K mg base (cs 0) 1 "_news" ["self", "ahead"] (spNews (cs 0)) := by
  refine has_ofM T.m_Follower__news sc_Follower__news bd_Follower__news (fun vs H Q E h => ?_) (fun f cdv Ar outer s H vs Q E hr h => ?_)
  · obtain ⟨A, br, tr, n, rfl, _⟩ := h
    rfl
  · have hu := hu_of hr
    have nd := sc_Follower__news.nd
    obtain ⟨A, br, tr, n, rfl, hf, ht, k1, k2⟩ := h
    refine ⟨_, (pss_cons (ps_if (pt_cmpR op_notN (pe_fld (pv 0) rfl) pe_non (nomark _)) (pss_one (ps_ret pe_non)) pss_nil)
    (pss_one (ps_ret (pe_sortAbs hr.units (by rfl) T.b_sorted (by rfl) T.b_abs (pa_cons (pe_slice sl_list (pe_fld (pv 0) rfl) (po_some (pv 1)) po_none) pa_nil))))), ?_⟩
    refine ⟨_, rfl, A.f, cs 0, A.dx, _, _, rfl, hf, T.cl_Follower, T.n_Follower__broken_row, rfl, rfl, _, rfl, ?_⟩
    cases br with
    | some r => exact iteT (k1 (by simp))
    | none =>
      refine iteF ⟨_, rfl, A.f, cs 0, A.dx, _, _, rfl, hf, T.cl_Follower, T.n_Follower__trail, rfl, _, rfl, _, rfl, A.tr, _, rfl, SqL.of ht, fun p hp => ?_⟩
      have ec : cutV (tr.map V.int) (some (n : Int)) none = (tr.drop n).map V.int := by
        unfold cutV
        rw [HT.sIx_nat, HT.sIx_none, List.length_map, List.map_drop]
        by_cases c : n ≤ tr.length
        · rw [Nat.min_eq_left c]
          exact List.take_of_length_le (by rw [List.length_drop, List.length_map]; exact Nat.le_refl _)
        · rw [Nat.min_eq_right (by omega), Nat.sub_self, List.take_zero, List.drop_eq_nil_of_le (by rw [List.length_map]; omega)]
      refine ⟨p, tr.drop n, rfl, by rw [ec]; exact SqL.of upd_same, fun q hq => ?_⟩
      have np : q ≠ p := fun e => by
        rw [e, upd_same] at hq
        cases hq
      exact k2 rfl _ q (by rw [← hq, upd_ne np]) ((same_new hp).trans (same_new hq)) upd_same
def spOn (C : Addr) : Sp := fun vs H Q _ => ∃ (A : FA) (tr : List Int), vs = [.ref A.f] ∧ H A.f = some (.ins C A.dx (fl A none)) ∧ H A.tr = some (.lst (tr.map V.int)) ∧
  (∀ H' p, H p = none → Same H H' → H' p = some (.lst ((byAbs tr).map V.int)) → Q (.ref p) H')
theorem hm_on {cs : Nat → Addr} (T : Top K mg cs) (h_Follower__refuse_broken : HasM P w K mg base (cs 0) 1 "_refuse_broken" ["self"] (spRefuse (cs 0))) : HasM P w K mg base (cs 0) 2 "on" ["self"] (spOn (cs 0)) := by
  refine has_ofM T.m_Follower_on sc_Follower_on bd_Follower_on (fun vs H Q E h => ?_) (fun f cdv Ar outer s H vs Q E hr h => ?_)
  · obtain ⟨A, tr, rfl, _⟩ := h
    rfl
  · have hu := hu_of hr
    have nd := sc_Follower_on.nd
    obtain ⟨A, tr, rfl, hf, ht, k⟩ := h
    refine ⟨_, (pss_cons (ps_expr (pe_hasM0 T.cl_Follower h_Follower__refuse_broken (hr.mono (by omega)) (pv 0)))
    (pss_one (ps_ret (pe_sortAbs hr.units (by rfl) T.b_sorted (by rfl) T.b_abs (pa_cons (pe_fld (pv 0) rfl) pa_nil))))), ?_⟩
    refine ⟨_, rfl, A.f, A.dx, _, rfl, hf, rfl, A, rfl, hf, ?_⟩
    exact ⟨_, rfl, A.f, cs 0, A.dx, _, _, rfl, hf, T.cl_Follower, T.n_Follower__trail, rfl, A.tr, tr, rfl, SqL.of ht, fun q hq => k _ q hq (same_new hq) upd_same⟩
end

theorem plD_put {tr : List Int} {m : Int} (h : m ∉ tr) : putK (plD tr) (Sum.inl m : Key) (.int (tr.length : Nat)) = plD (tr ++ [m]) := by
  rw [putK_new _ (plD_none h), plD_snoc]
theorem ints_snoc (l : List Int) (m : Int) : l.map V.int ++ [V.int m] = (l ++ [m]).map V.int := by
  rw [List.map_append]
  rfl
theorem opts_snoc (l : List (Option Int)) (r : Option Int) : l.map optI ++ [optI r] = (l ++ [r]).map optI := by
  rw [List.map_append]
  rfl
theorem refs_snoc (l : List Addr) (q : Addr) : l.map V.ref ++ [V.ref q] = (l ++ [q]).map V.ref := by
  rw [List.map_append]
  rfl
theorem nats_snoc (l : List Nat) (n : Nat) : l.map (fun i => V.int (i : Nat)) ++ [V.int (n : Nat)] = (l ++ [n]).map fun i => V.int (i : Nat) := by
  rw [List.map_append]
  rfl
theorem FolR.known {H : Hp} {C : Addr} {A : FA} {D : Addr → Prop} {qs aq : List Addr} {kvs : List (Key × V)} {cs : List (List Int)} {o : List Int} {g : Int → List Nat} {tr : List Int} {rw : List (Option Int)} {pu : List Int} {ah : List (Int × Int)} {br : Option Int}
    (h : FolR H C A D qs aq kvs cs o g tr rw pu ah br) {b : Addr} (hb : D b) : ∃ u, H b = some u := by
  rcases (h.re.dd b).mp hb with z | ⟨m, z⟩
  · obtain ⟨u, _, e⟩ := h.co.has z
    exact ⟨u, e⟩
  · rcases h.re.hv.at_ m with ⟨e, _⟩ | ⟨l, e, hl, _⟩
    · rw [z] at e
      cases e
    · rw [z] at e
      cases e
      exact ⟨_, hl⟩
theorem FolR.not_new {H : Hp} {C : Addr} {A : FA} {D : Addr → Prop} {qs aq : List Addr} {kvs : List (Key × V)} {cs : List (List Int)} {o : List Int} {g : Int → List Nat} {tr : List Int} {rw : List (Option Int)} {pu : List Int} {ah : List (Int × Int)} {br : Option Int}
    (h : FolR H C A D qs aq kvs cs o g tr rw pu ah br) {b : Addr} (hb : H b = none) : ¬ D b := fun z => by
  obtain ⟨u, e⟩ := h.known z
  rw [hb] at e
  cases e
/-- a filter of what is off -/
theorem off_filter (tr c : List Int) : ((c.map V.int).filter fun x => match x with | .int m => decide (-m ∈ tr) | _ => false) = (c.filter fun m => decide (-m ∈ tr)).map V.int := by
  rw [List.filter_map]
  rfl
section
variable {P : Program} {w : World} {K : PySem.W.Frag} {mg : Str → Option Value} {base : Heap}
def gJ (cs : List (List Int)) (c : List Int) (j : Nat) : Int → List Nat := fun m => nums cs m ++ (if m ∈ c.take j then [cs.length] else [])
theorem gJ_end (cs : List (List Int)) (c : List Int) : gJ cs c c.length = nums (cs ++ [c]) := by
  funext m
  unfold gJ
  rw [List.take_length, nums_snoc]
theorem gJ_zero (cs : List (List Int)) (c : List Int) : gJ cs c 0 = nums cs := by
  funext m
  unfold gJ
  rw [List.take_zero, if_neg (by simp), List.append_nil]
theorem gJ_at {cs : List (List Int)} {c : List Int} {j : Nat} {m : Int} (hn : c.Nodup) (h : c[j]? = some m) (x : Int) : gJ cs c (j + 1) x = if x = m then gJ cs c j m ++ [cs.length] else gJ cs c j x := by
  have nt : m ∉ c.take j := fun z => by
    obtain ⟨i, hi, e⟩ := mem_take z
    have l1 := (List.getElem?_eq_some_iff.mp e)
    have l2 := (List.getElem?_eq_some_iff.mp h)
    obtain ⟨a1, a2⟩ := l1
    obtain ⟨b1, b2⟩ := l2
    have := (List.getElem_inj hn).mp (a2.trans b2.symm)
    omega
  unfold gJ
  rw [take_snoc h]
  by_cases e : x = m
  · subst e
    rw [if_pos rfl, if_pos (List.mem_append_right _ List.mem_cons_self), if_neg nt, List.append_nil]
  · rw [if_neg e]
    congr 1
    by_cases z : x ∈ c.take j
    · rw [if_pos (List.mem_append_left _ z), if_pos z]
    · rw [if_neg fun y => (List.mem_append.mp y).elim z fun y => e (List.mem_singleton.mp y), if_neg z]
def spTake (C : Addr) : Sp := fun vs H Q _ => ∃ (A : FA) (D : Addr → Prop) (qs aq : List Addr) (kvs : List (Key × V)) (cs : List (List Int)) (tr : List Int) (rw : List (Option Int)) (pu : List Int) (ah : List (Int × Int)) (br : Option Int) (q : Addr) (c : List Int),
  vs = [.ref A.f, .ref q] ∧ FolR H C A D qs aq kvs cs (cs.map (offC tr)) (nums cs) tr rw pu ah br ∧ H q = some (.tup (c.map V.int)) ∧ c.Nodup ∧ tr.Nodup ∧ cs.length ≤ 100000 ∧ c.length ≤ 1000 ∧ kvs.length ≤ 1000000 ∧
  ∀ (H' : Hp) (D' : Addr → Prop) (kvs' : List (Key × V)), FolR H' C A D' (qs ++ [q]) aq kvs' (cs ++ [c]) ((cs ++ [c]).map (offC tr)) (nums (cs ++ [c])) tr rw pu ah br → kvs'.length ≤ kvs.length + c.length → Fr D D' H H' → (∀ b, D b → D' b) → Q .non H'
theorem hm_take {cs : Nat → Addr} (T : Top K mg cs) : HasM P w K mg base (cs 0) 1 "_take_in" ["self", "clause"] (spTake (cs 0)) := by
  refine has_ofM T.m_Follower__take_in sc_Follower__take_in bd_Follower__take_in (fun vs H Q E h => ?_) (fun f cdv Ar outer s H vs Q E hr h => ?_)
  · obtain ⟨A, D, qs, aq, kvs, ks, tr, rw, pu, ah, br, q, c, rfl, _⟩ := h
    rfl
  · have hu := hu_of hr
    have nd := sc_Follower__take_in.nd
    obtain ⟨A, D, qs, aq, kvs, ks, tr, rw, pu, ah, br, q, c, rfl, F, hq, hn, ht, lc, l2, l3, k⟩ := h
    refine ⟨_, (pss_cons (ps_set (i := 2) nd rfl (.inl rfl) (pe_callB call_len_seq (by rfl) T.b_len (by decide +kernel) (pa_cons (pe_fld (pv 0) rfl) pa_nil)))
    (pss_cons (ps_expr (pe_bm PySem.F.plainAttrs_list PySem.F.slot_list_append PySem.F.type_list_append mt_append (pe_fld (pv 0) rfl) (pa_cons (pv 1) pa_nil)))
    (pss_cons (ps_expr (pe_bm PySem.F.plainAttrs_list PySem.F.slot_list_append PySem.F.type_list_append mt_append (pe_fld (pv 0) rfl) (pa_cons (pe_callB call_len_seq (by rfl) T.b_len (by decide +kernel) (pa_cons (pe_lc (own := [("mark", 3)]) (by rfl) nd (pi_tup (pv 1)) (blkOk_by (own := [("mark", 3)]) (N := nm_Follower__take_in) (sc := defScope s_Follower__take_in) (by decide +kernel)) (fun _ _ _ _ _ => pg_name (i := 3) nd rfl (.inl rfl)) (fun _ _ _ _ _ => pts_one (pt_cmp (pc_din hu (pe_un un_neg (pv 3)) (pe_fldK (K := K) rfl (pv 0) rfl)))) (fun _ _ _ _ _ => (pv 3))) pa_nil)) pa_nil)))
    (pss_one (ps_for PassesOwn.never rfl (pi_tup (pv 1)) (pg_name (i := 3) nd rfl (.inl rfl))
      (pss_one (ps_expr (pe_bm PySem.F.plainAttrs_list PySem.F.slot_list_append PySem.F.type_list_append mt_append (pe_dsetd (pe_fld (pv 0) rfl) (pv 3) (pe_lst pa_nil) ⟨rfl, rfl, rfl, rfl⟩) (pa_cons (pv 2) pa_nil))))))))), ?_⟩
    have line : 1100000 < sizeLine := by decide
    have cn := F.re.cn
    refine ⟨_, rfl, A.f, cs 0, A.dx, _, _, rfl, F.ins, T.cl_Follower, T.n_Follower__clauses, rfl, A.cl, _, rfl, .inl (SqL.of F.cl), ?_⟩
    refine ⟨_, rfl, A.f, cs 0, A.dx, _, _, rfl, F.ins, T.cl_Follower, T.n_Follower__clauses, rfl, .inl ⟨rfl, _, SqL.of F.cl⟩, _, rfl, A.cl, _, _, rfl, rfl, F.cl, by rw [List.length_map]; omega, ?_⟩
    have c1 := F.co.put 1 rfl (.lst (qs.map V.ref ++ [.ref q]))
    have r1 := F.re.core (by simp [fas]) F.cl (fun xs z => by cases z) (.lst (qs.map V.ref ++ [.ref q]))
    have f1 : Fr D D H (upd H A.cl (.lst (qs.map V.ref ++ [.ref q]))) := Fr.upd (F.in_ (by simp [fas]))
    have hq1 : (upd H A.cl (.lst (qs.map V.ref ++ [.ref q]))) q = some (.tup (c.map V.int)) := by
      rw [upd_ne (ne_of hq F.cl (by intro z; cases z))]
      exact hq
    generalize upd H A.cl (.lst (qs.map V.ref ++ [.ref q])) = H1 at c1 r1 f1 hq1
    rw [refs_snoc] at c1
    have i1 : H1 A.f = some (.ins (cs 0) A.dx (fl A br)) := c1.at_ 0 _ _ rfl rfl
    have o1 : H1 A.ofs = some (.lst ((ks.map (offC tr)).map V.int)) := c1.at_ 2 _ _ rfl rfl
    have p1 : H1 A.pl = some (.dK (plD tr)) := c1.at_ 5 _ _ rfl rfl
    -- offs
    refine ⟨_, rfl, A.f, cs 0, A.dx, _, _, rfl, i1, T.cl_Follower, T.n_Follower__offs, rfl, .inl ⟨rfl, _, SqL.of o1⟩, ?_⟩
    refine ⟨_, rfl, q, rfl, ⟨_, SqT.of hq1⟩, fun L hL => lc_sel_tup (fun x => match x with | .int m => decide (-m ∈ tr) | _ => false) (fun x => x) (SqT.of hq1) hL (by rw [List.length_map]; omega) (fun x hm => ?_) fun H2 s2 h2 => ?_⟩
    · obtain ⟨m, _, rfl⟩ := List.mem_map.mp hm
      refine ⟨rfl, fun H' s' R r => ⟨_, rfl, m, rfl, _, rfl, A.f, cs 0, A.dx, _, _, rfl, s' _ _ i1, T.cl_Follower, T.n_Follower__place, rfl, A.pl, _, rfl, DGet.k (k := Sum.inl (-m)) (s' _ _ p1), _, rfl, ?_⟩, fun _ H' s' R r => ⟨_, rfl, r H' (Same.refl _)⟩⟩
      rw [plD_is ht]
      exact r H' (Same.refl _)
    rw [off_filter, List.map_id'] at h2
    refine ⟨L, _, rfl, .inl (SqL.of h2), A.ofs, _, _, rfl, rfl, s2 _ _ o1, by rw [List.length_map, List.length_map]; omega, ?_⟩
    have c2 := (c1.same s2).put 2 rfl (.lst ((ks.map (offC tr)).map V.int ++ [.int ((((c.filter fun m => decide (-m ∈ tr)).map V.int).length : Nat) : Int)]))
    have r2 := (r1.same s2).core (a := A.ofs) (by simp [fas]) (s2 _ _ o1) (fun xs z => by cases z) (.lst ((ks.map (offC tr)).map V.int ++ [.int ((((c.filter fun m => decide (-m ∈ tr)).map V.int).length : Nat) : Int)]))
    have f2 : Fr D D H (upd H2 A.ofs (.lst ((ks.map (offC tr)).map V.int ++ [.int ((((c.filter fun m => decide (-m ∈ tr)).map V.int).length : Nat) : Int)]))) := (f1.trans (Fr.same s2) fun _ h => h).trans (Fr.upd (F.in_ (by simp [fas]))) fun _ h => h
    have hq2 : (upd H2 A.ofs (.lst ((ks.map (offC tr)).map V.int ++ [.int ((((c.filter fun m => decide (-m ∈ tr)).map V.int).length : Nat) : Int)]))) q = some (.tup (c.map V.int)) := by
      rw [upd_ne (ne_of hq1 o1 (by intro z; cases z))]
      exact s2 _ _ hq1
    generalize upd H2 A.ofs (.lst ((ks.map (offC tr)).map V.int ++ [.int ((((c.filter fun m => decide (-m ∈ tr)).map V.int).length : Nat) : Int)])) = H3 at c2 r2 f2 hq2
    rw [ints_snoc, List.length_map, show ((((c.filter fun m => decide (-m ∈ tr)).length : Nat) : Int)) = offC tr c from rfl, show ks.map (offC tr) ++ [offC tr c] = (ks ++ [c]).map (offC tr) by rw [List.map_append]; rfl] at c2
    have F3 : FolR H3 (cs 0) A D (qs ++ [q]) aq kvs (ks ++ [c]) ((ks ++ [c]).map (offC tr)) (gJ ks c 0) tr rw pu ah br := by
      refine ⟨c2, ?_, ?_, r2.an, r2.at_, by rw [gJ_zero]; exact r2.hv, r2.dd⟩
      · rw [List.length_append, List.length_append, cn]
        rfl
      · intro i p d hp hd
        rcases getElem_snoc hp with ⟨_, e⟩ | ⟨e1, rfl⟩
        · rcases getElem_snoc hd with ⟨_, e2⟩ | ⟨e2, _⟩
          · exact r2.ct i p d e e2
          · omega
        · rcases getElem_snoc hd with ⟨e2, _⟩ | ⟨_, rfl⟩
          · omega
          · exact hq2
    -- the loop
    refine ⟨_, rfl, q, rfl, ⟨_, SqT.of hq2⟩, for_tup (K := K) (a := q) (xs := c.map V.int) (fun j σ H' => ∃ v3 D' kvs', σ = [some (.ref A.f), some (.ref q), some (.int ((qs.map V.ref).length : Nat)), v3] ∧
      FolR H' (cs 0) A D' (qs ++ [q]) aq kvs' (ks ++ [c]) ((ks ++ [c]).map (offC tr)) (gJ ks c j) tr rw pu ah br ∧ kvs'.length ≤ kvs.length + j ∧ Fr D D' H H' ∧ (∀ b, D b → D' b) ∧ H' q = some (.tup (c.map V.int))) ⟨none, D, kvs, rfl, F3, Nat.le_refl _, f2, fun _ h => h, hq2⟩ ?_ ?_ ?_⟩
    · rintro j σ H' _ ⟨_, _, _, _, _, _, _, _, hq'⟩
      exact SqT.of hq'
    · rintro j x σ H4 hj ⟨v3, D4, kv4, rfl, F4, l4, f4, d4, hq4⟩
      obtain ⟨m, rfl, hm⟩ := int_at hj
      have hjl := (List.getElem?_eq_some_iff.mp hm).1
      refine ⟨_, rfl, A.f, cs 0, A.dx, _, _, rfl, F4.ins, T.cl_Follower, T.n_Follower__having, rfl, A.hv, rfl, .inl ⟨kv4, .inl F4.hvd⟩, _, rfl, by show 0 ≤ sizeLine; decide, fun N hN => ?_⟩
      have s5 : Same H4 (upd H4 N (.lst [])) := same_new hN
      have nN := F4.not_new hN
      have nf : N ∉ fas A := fun z => nN (F4.in_ z)
      have hq5 := s5 _ _ hq4
      refine ⟨kv4, Sum.inl m, s5 _ _ F4.hvd, rfl, by omega, fun v hv => ?_, fun hv => ?_⟩
      · -- the list is there
        rcases F4.re.hv.at_ m with ⟨e, _⟩ | ⟨l, e, hl, nl⟩
        · rw [hv] at e
          cases e
        rw [hv] at e
        cases e
        have hl5 := s5 _ _ hl
        have gl : (gJ ks c j m).length ≤ 100001 := by
          unfold gJ nums
          rw [List.length_append]
          have a1 := List.length_filter_le (fun i => decide (m ∈ ks.getD i [])) (List.range ks.length)
          rw [List.length_range] at a1
          have a2 : (if m ∈ c.take j then [ks.length] else []).length ≤ 1 := by split <;> simp
          omega
        refine ⟨.inl ⟨rfl, _, SqL.of hl5⟩, _, rfl, l, _, _, rfl, rfl, hl5, by rw [List.length_map]; omega, ?_⟩
        have Dl : D4 l := (F4.re.dd l).mpr (.inr ⟨m, hv⟩)
        have lq : q ≠ l := ne_of hq5 hl5 (by intro z; cases z)
        rw [List.length_map, cn, nats_snoc]
        refine ⟨_, D4, kv4, rfl, ⟨?_, ?_⟩, by omega, (f4.trans (Fr.same s5) d4).trans (Fr.upd Dl) d4, d4, by rw [upd_ne lq]; exact hq5⟩
        · refine (F4.co.same s5).keep fun a ha o e => ?_
          rw [upd_ne (fun z : a = l => nl (by rw [← z]; exact ha))]
          exact e
        · have R5 := F4.re.same s5
          refine ⟨R5.cn, fun i p d hp hd => ?_, R5.an, fun i p z hp hz => ?_, ⟨fun x => ?_, R5.hv.one⟩, R5.dd⟩
          · have e := R5.ct i p d hp hd
            rw [upd_ne (ne_of e hl5 (by intro z; cases z))]
            exact e
          · have e := R5.at_ i p z hp hz
            rw [upd_ne (ne_of e hl5 (by intro z; cases z))]
            exact e
          · rw [gJ_at hn hm]
            by_cases ex : x = m
            · subst ex
              rw [if_pos rfl]
              exact .inr ⟨l, hv, upd_same, nl⟩
            · rw [if_neg ex]
              rcases R5.hv.at_ x with z | ⟨l', e', hl', nl'⟩
              · exact .inl z
              · refine .inr ⟨l', e', ?_, nl'⟩
                rw [upd_ne (fun z : l' = l => ex (R5.hv.one x m l (by rw [← z]; exact e') hv))]
                exact hl'
      · -- a new list
        have ge : gJ ks c j m = [] := by
          rcases F4.re.hv.at_ m with ⟨_, e⟩ | ⟨l, e, _⟩
          · exact e
          · rw [hv] at e
            cases e
        have hvN : A.hv ≠ N := fun z => nf (by rw [← z]; simp [fas])
        have hN6 : (upd (upd H4 N (.lst [])) A.hv (.dK (putK kv4 (Sum.inl m : Key) (.ref N)))) N = some (.lst []) := by
          rw [upd_ne hvN.symm, upd_same]
        refine ⟨.inl ⟨rfl, _, SqL.of hN6⟩, _, rfl, N, _, _, rfl, rfl, hN6, by show 0 < sizeLine; decide, ?_⟩
        have k6 : ∀ b u, H4 b = some u → b ≠ A.hv → (upd (upd (upd H4 N (.lst [])) A.hv (.dK (putK kv4 (Sum.inl m : Key) (.ref N)))) N (.lst ([] ++ [V.int ((qs.map V.ref).length : Nat)]))) b = some u := fun b u e nb => by
          rw [upd_ne (ne_of_none e hN), upd_ne nb, upd_ne (ne_of_none e hN)]
          exact e
        have qhv : q ≠ A.hv := ne_of hq4 F4.hvd (by intro z; cases z)
        have kl : (putK kv4 (Sum.inl m : Key) (V.ref N)).length = kv4.length + 1 := by
          rw [putK_new _ hv, List.length_append]
          rfl
        refine ⟨_, fun b => D4 b ∨ b = N, putK kv4 (Sum.inl m) (.ref N), rfl, ⟨?_, ?_⟩, by omega, ?_, fun b h => .inl (d4 b h), k6 q _ hq4 qhv⟩
        · have c6 := (F4.co.same s5).put 3 rfl (.dK (putK kv4 (Sum.inl m : Key) (.ref N)))
          exact c6.keep fun a ha o e => by
            rw [upd_ne (fun z : a = N => nf (by rw [← z]; exact ha))]
            exact e
        · have R4 := F4.re
          refine ⟨R4.cn, fun i p d hp hd => ?_, R4.an, fun i p z hp hz => ?_, ⟨fun x => ?_, fun x x' l h1 h2 => ?_⟩, fun b => ?_⟩
          · have e := R4.ct i p d hp hd
            exact k6 _ _ e (ne_of e F4.hvd (by intro z; cases z))
          · have e := R4.at_ i p z hp hz
            exact k6 _ _ e (ne_of e F4.hvd (by intro z; cases z))
          · rw [gJ_at hn hm, valV_put]
            by_cases ex : x = m
            · subst ex
              rw [if_pos rfl, if_pos rfl, ge]
              refine .inr ⟨N, rfl, ?_, nf⟩
              rw [upd_same, List.length_map, cn]
              rfl
            · rw [if_neg ex, if_neg (fun z => ex (Sum.inl.inj z))]
              rcases R4.hv.at_ x with z | ⟨l', e', hl', nl'⟩
              · exact .inl z
              · exact .inr ⟨l', e', k6 _ _ hl' (fun z => nl' (by rw [z]; simp [fas])), nl'⟩
          · rw [valV_put] at h1 h2
            have old : ∀ y : Int, valV kv4 (Sum.inl y : Key) = some (.ref N) → False := fun y e => by
              exact nN ((R4.dd N).mpr (.inr ⟨y, e⟩))
            by_cases e1 : (Sum.inl x : Key) = Sum.inl m
            · rw [if_pos e1] at h1
              by_cases e2 : (Sum.inl x' : Key) = Sum.inl m
              · exact (Sum.inl.inj e1).trans (Sum.inl.inj e2).symm
              · rw [if_neg e2] at h2
                cases h1
                exact (old x' h2).elim
            · rw [if_neg e1] at h1
              by_cases e2 : (Sum.inl x' : Key) = Sum.inl m
              · rw [if_pos e2] at h2
                cases h2
                exact (old x h1).elim
              · rw [if_neg e2] at h2
                exact R4.hv.one x x' l h1 h2
          · constructor
            · rintro (h | rfl)
              · rcases (R4.dd b).mp h with z | ⟨y, z⟩
                · exact .inl z
                · refine .inr ⟨y, ?_⟩
                  rw [valV_put, if_neg fun e => by rw [Sum.inl.inj e, hv] at z; cases z]
                  exact z
              · exact .inr ⟨m, by rw [valV_put, if_pos rfl]⟩
            · rintro (z | ⟨y, z⟩)
              · exact .inl ((R4.dd b).mpr (.inl z))
              · rw [valV_put] at z
                by_cases e : (Sum.inl y : Key) = Sum.inl m
                · rw [if_pos e] at z
                  cases z
                  exact .inr rfl
                · rw [if_neg e] at z
                  exact .inl ((R4.dd b).mpr (.inr ⟨y, z⟩))
        · refine ⟨fun b u e n => ?_, fun b h => ?_⟩
          · exact k6 b u (f4.k b u e n) fun z => n (by
              have : D4 b := by rw [z]; exact F4.in_ (by simp [fas])
              rcases f4.d b this with d | d
              · exact d
              · rw [d] at e
                cases e)
          · rcases h with h | rfl
            · exact f4.d b h
            · by_cases db : D b
              · exact .inl db
              · refine .inr ?_
                cases e : H b with
                | none => rfl
                | some u =>
                  rw [f4.k b u e db] at hN
                  cases hN
    · rintro σ H4 ⟨v3, D4, kv4, rfl, F4, l4, f4, d4, hq4⟩
      rw [List.length_map, gJ_end] at F4
      exact k H4 D4 kv4 F4 (by rw [List.length_map] at l4; exact l4) f4 d4
end

def spBring (C : Addr) : Sp := fun vs H Q _ => ∃ (A : FA) (D : Addr → Prop) (qs aq : List Addr) (kvs : List (Key × V)) (cs : List (List Int)) (tr : List Int) (rw : List (Option Int)) (pu : List Int) (ah : List (Int × Int)) (br : Option Int) (m : Int) (r : Option Int),
  vs = [.ref A.f, .int m, optI r] ∧ FolR H C A D qs aq kvs cs (cs.map (offC tr)) (nums cs) tr rw pu ah br ∧ m ∉ tr ∧ (∀ c ∈ cs, c.Nodup) ∧ cs.length ≤ 100000 ∧ tr.length ≤ 1000000 ∧ rw.length ≤ 1000000 ∧
  ∀ (H' : Hp) (p : Addr) (rd : List Nat), FolR H' C A D qs aq kvs cs (cs.map (offC (tr ++ [m]))) (nums cs) (tr ++ [m]) (rw ++ [r]) pu ah br → H p = none → H' p = some (.lst (rd.map fun i => V.int (i : Nat))) →
    rd = (nums cs (-m)).filter (fun i => decide ((left (tr ++ [m]) (cs.getD i [])).length ≤ 1)) → Fr D D H H' → Q (.ref p) H'
/-- offs, some of which are told anew -/
def oJ (cs : List (List Int)) (tr : List Int) (m : Int) (L : List Nat) : List Int := (List.range cs.length).map fun i => if i ∈ L then offC (tr ++ [m]) (cs.getD i []) else offC tr (cs.getD i [])
theorem range_getD {β : Type} (cs : List (List Int)) (f : List Int → β) : (List.range cs.length).map (fun i => f (cs.getD i [])) = cs.map f := by
  refine List.ext_getElem? fun i => ?_
  rw [List.getElem?_map, List.getElem?_map]
  by_cases h : i < cs.length
  · rw [List.getElem?_range h, List.getElem?_eq_getElem h]
    show some (f (cs.getD i [])) = some (f cs[i])
    rw [List.getD_eq_getElem?_getD, List.getElem?_eq_getElem h]
    rfl
  · rw [List.getElem?_eq_none (by rw [List.length_range]; omega), List.getElem?_eq_none (by omega)]
    rfl
theorem off_other {tr c : List Int} {m : Int} (h : -m ∉ c) : offC (tr ++ [m]) c = offC tr c := by
  have a := off_left (tr ++ [m]) c
  have b := off_left tr c
  rw [left_other h] at a
  omega
theorem oJ_zero (cs : List (List Int)) (tr : List Int) (m : Int) : oJ cs tr m [] = cs.map (offC tr) := by
  unfold oJ
  simp only [List.not_mem_nil, if_false]
  exact range_getD cs (offC tr)
theorem oJ_end (cs : List (List Int)) (tr : List Int) (m : Int) : oJ cs tr m (nums cs (-m)) = cs.map (offC (tr ++ [m])) := by
  rw [← range_getD cs (offC (tr ++ [m]))]
  unfold oJ
  refine List.map_congr_left fun i hi => ?_
  have hl := List.mem_range.mp hi
  by_cases h : i ∈ nums cs (-m)
  · rw [if_pos h]
  · rw [if_neg h]
    refine (off_other fun z => h (mem_nums.mpr ⟨cs[i], List.getElem?_eq_getElem hl, ?_⟩)).symm
    rw [List.getD_eq_getElem?_getD, List.getElem?_eq_getElem hl] at z
    exact z
theorem oJ_len (cs : List (List Int)) (tr : List Int) (m : Int) (L : List Nat) : (oJ cs tr m L).length = cs.length := by
  unfold oJ
  rw [List.length_map, List.length_range]
theorem oJ_at {cs : List (List Int)} {tr : List Int} {m : Int} {L : List Nat} {i : Nat} {c : List Int} (h : cs[i]? = some c) : (oJ cs tr m L)[i]? = some (if i ∈ L then offC (tr ++ [m]) c else offC tr c) := by
  have hl := (List.getElem?_eq_some_iff.mp h).1
  unfold oJ
  rw [List.getElem?_map, List.getElem?_range hl]
  have e : cs.getD i [] = c := by
    rw [List.getD_eq_getElem?_getD, h]
    rfl
  show some (if i ∈ L then offC (tr ++ [m]) (cs.getD i []) else offC tr (cs.getD i [])) = some _
  rw [e]
theorem off_has {tr c : List Int} {m : Int} (hn : c.Nodup) (hm : m ∉ tr) (h : -m ∈ c) : offC (tr ++ [m]) c = offC tr c + 1 := by
  have a := off_left (tr ++ [m]) c
  have b := off_left tr c
  have d := left_has hn hm h
  omega
theorem oJ_set {cs : List (List Int)} {tr : List Int} {m : Int} {L : List Nat} {i : Nat} {c : List Int} (h : cs[i]? = some c) : (oJ cs tr m L).set i (offC (tr ++ [m]) c) = oJ cs tr m (L ++ [i]) := by
  have hl := (List.getElem?_eq_some_iff.mp h).1
  refine List.ext_getElem? fun j => ?_
  by_cases e : i = j
  · subst e
    rw [List.getElem?_set_self (by rw [oJ_len]; exact hl), oJ_at h, if_pos (List.mem_append_right _ List.mem_cons_self)]
  · rw [List.getElem?_set_ne e]
    by_cases hj : j < cs.length
    · rw [oJ_at (List.getElem?_eq_getElem hj), oJ_at (List.getElem?_eq_getElem hj)]
      by_cases z : j ∈ L
      · rw [if_pos z, if_pos (List.mem_append_left _ z)]
      · rw [if_neg z, if_neg fun y => (List.mem_append.mp y).elim z fun y => e (List.mem_singleton.mp y).symm]
    · rw [List.getElem?_eq_none (by rw [oJ_len]; omega), List.getElem?_eq_none (by rw [oJ_len]; omega)]
section
variable {P : Program} {w : World} {K : PySem.W.Frag} {mg : Str → Option Value} {base : Heap}
theorem hm_bring {cs : Nat → Addr} (T : Top K mg cs) (h_Follower__is_ready : HasM P w K mg base (cs 0) 1 "_is_ready" ["self", "number"] (spReady (cs 0))) : HasM P w K mg base (cs 0) 2 "_bring" ["self", "mark", "row"] (spBring (cs 0)) := by
  refine has_ofM T.m_Follower__bring sc_Follower__bring bd_Follower__bring (fun vs H Q E h => ?_) (fun f cdv Ar outer s H vs Q E hr h => ?_)
  · obtain ⟨A, D, qs, aq, kvs, ks, tr, rw, pu, ah, br, m, r, rfl, _⟩ := h
    rfl
  · have hu := hu_of hr
    have nd := sc_Follower__bring.nd
    obtain ⟨A, D, qs, aq, kvs, ks, tr, rw, pu, ah, br, m, r, rfl, F, hm, hn, l1, l2, l3, k⟩ := h
    refine ⟨_, (pss_cons (ps_dput hu (pe_fld (pv 0) rfl) (pv 1) (pe_callB call_len_seq (by rfl) T.b_len (by decide +kernel) (pa_cons (pe_fld (pv 0) rfl) pa_nil)) rfl)
    (pss_cons (ps_expr (pe_bm PySem.F.plainAttrs_list PySem.F.slot_list_append PySem.F.type_list_append mt_append (pe_fld (pv 0) rfl) (pa_cons (pv 1) pa_nil)))
    (pss_cons (ps_expr (pe_bm PySem.F.plainAttrs_list PySem.F.slot_list_append PySem.F.type_list_append mt_append (pe_fld (pv 0) rfl) (pa_cons (pv 2) pa_nil)))
    (pss_cons (ps_set (i := 3) nd rfl (.inl rfl) (pe_lst pa_nil))
    (pss_cons (ps_for PassesOwn.never rfl (pi_list (pe_dget2 hu (pe_fld (pv 0) rfl) (pe_un un_neg (pv 1)) (pe_lst pa_nil) ⟨rfl, rfl, rfl, rfl⟩)) (pg_name (i := 4) nd rfl (.inl rfl))
      (pss_cons (ps_augS (pe_fld (pv 0) rfl) (pv 4) get_list pe_int ip_add set_list)
    (pss_one (ps_if (pt_val (pe_hasM T.cl_Follower h_Follower__is_ready (hr.mono (by omega)) (pv 0) (pa_cons (pv 4) pa_nil))) (pss_one (ps_expr (pe_bm PySem.F.plainAttrs_list PySem.F.slot_list_append PySem.F.type_list_append mt_append (pv 3) (pa_cons (pv 4) pa_nil)))) pss_nil))))
    (pss_one (ps_ret (pv 3)))))))), ?_⟩
    have line : 1100000 < sizeLine := by decide
    -- place
    refine ⟨_, rfl, A.f, cs 0, A.dx, _, _, rfl, F.ins, T.cl_Follower, T.n_Follower__trail, rfl, A.tr, _, rfl, .inl (SqL.of F.trl), _, rfl, A.f, cs 0, A.dx, _, _, rfl, F.ins, T.cl_Follower, T.n_Follower__place, rfl, _, rfl, A.pl, _, rfl, DPut.k (k := Sum.inl m) F.pld (by rw [plD_len]; omega), ?_⟩
    rw [List.length_map, plD_put hm]
    have c1 := F.co.put 5 rfl (.dK (plD (tr ++ [m])))
    have r1 := F.re.core (by simp [fas]) F.pld (fun xs z => by cases z) (.dK (plD (tr ++ [m])))
    have f1 : Fr D D H (upd H A.pl (.dK (plD (tr ++ [m])))) := Fr.upd (F.in_ (by simp [fas]))
    generalize upd H A.pl (.dK (plD (tr ++ [m]))) = H1 at c1 r1 f1
    -- trail
    have i1 : H1 A.f = some (.ins (cs 0) A.dx (fl A br)) := c1.at_ 0 _ _ rfl rfl
    have t1 : H1 A.tr = some (.lst (tr.map V.int)) := c1.at_ 4 _ _ rfl rfl
    refine ⟨_, rfl, A.f, cs 0, A.dx, _, _, rfl, i1, T.cl_Follower, T.n_Follower__trail, rfl, .inl ⟨rfl, _, SqL.of t1⟩, _, rfl, A.tr, _, _, rfl, rfl, t1, by rw [List.length_map]; omega, ?_⟩
    have c2 := c1.put 4 rfl (.lst (tr.map V.int ++ [.int m]))
    have r2 := r1.core (a := A.tr) (by simp [fas]) t1 (fun xs z => by cases z) (.lst (tr.map V.int ++ [.int m]))
    have f2 : Fr D D H (upd H1 A.tr (.lst (tr.map V.int ++ [.int m]))) := f1.trans (Fr.upd (F.in_ (by simp [fas]))) fun _ h => h
    generalize upd H1 A.tr (.lst (tr.map V.int ++ [.int m])) = H2 at c2 r2 f2
    rw [ints_snoc] at c2
    -- rows
    have i2 : H2 A.f = some (.ins (cs 0) A.dx (fl A br)) := c2.at_ 0 _ _ rfl rfl
    have t2 : H2 A.rw = some (.lst (rw.map optI)) := c2.at_ 6 _ _ rfl rfl
    refine ⟨_, rfl, A.f, cs 0, A.dx, _, _, rfl, i2, T.cl_Follower, T.n_Follower__rows, rfl, .inl ⟨rfl, _, SqL.of t2⟩, _, rfl, A.rw, _, _, rfl, rfl, t2, by rw [List.length_map]; omega, ?_⟩
    have c3 := c2.put 6 rfl (.lst (rw.map optI ++ [optI r]))
    have r3 := r2.core (a := A.rw) (by simp [fas]) t2 (fun xs z => by cases z) (.lst (rw.map optI ++ [optI r]))
    have f3 : Fr D D H (upd H2 A.rw (.lst (rw.map optI ++ [optI r]))) := f2.trans (Fr.upd (F.in_ (by simp [fas]))) fun _ h => h
    generalize upd H2 A.rw (.lst (rw.map optI ++ [optI r])) = H3 at c3 r3 f3
    rw [opts_snoc] at c3
    have F3 : FolR H3 (cs 0) A D qs aq kvs ks (ks.map (offC tr)) (nums ks) (tr ++ [m]) (rw ++ [r]) pu ah br := ⟨c3, r3⟩
    -- ready
    refine ⟨by show 0 ≤ sizeLine; decide, fun N hN => ?_⟩
    have F4 := F3.same (same_new (o := .lst []) hN)
    have f4 : Fr D D H (upd H3 N (.lst [])) := f3.trans (Fr.same (same_new hN)) fun _ h => h
    have nN := F3.not_new hN
    have nNf : N ∉ fas A := fun z => nN (F3.in_ z)
    have hN4 : (upd H3 N (.lst [])) N = some (.lst (([] : List Nat).map fun i => V.int (i : Nat))) := upd_same
    have hN0 : H N = none := by
      cases e : H N with
      | none => rfl
      | some u =>
        rw [f3.k N u e nN] at hN
        cases hN
    generalize upd H3 N (.lst []) = H4 at F4 f4 hN4
    refine ⟨_, rfl, A.f, cs 0, A.dx, _, _, rfl, F4.ins, T.cl_Follower, T.n_Follower__having, rfl, A.hv, rfl, .inl ⟨kvs, .inl F4.hvd⟩, _, rfl, m, rfl, by show 0 ≤ sizeLine; decide, fun E5 hE => ?_⟩
    have s5 : Same H4 (upd H4 E5 (.lst [])) := same_new hE
    have F5 := F4.same s5
    have f5 : Fr D D H (upd H4 E5 (.lst [])) := f4.trans (Fr.same s5) fun _ h => h
    have nE := F4.not_new hE
    have hN5 := s5 _ _ hN4
    have nEN : E5 ≠ N := (ne_of_none hN4 hE).symm
    have there : ∃ l, ((valV kvs (Sum.inl (-m) : Key)).getD (.ref E5)) = .ref l ∧ (upd H4 E5 (.lst [])) l = some (.lst ((nums ks (-m)).map fun i => V.int (i : Nat))) ∧ l ∉ fas A ∧ l ≠ N := by
      rcases F5.re.hv.at_ (-m) with ⟨e, e2⟩ | ⟨l, e, hl, nl⟩
      · rw [e, e2]
        exact ⟨E5, rfl, upd_same, fun z => nE (F4.in_ z), nEN⟩
      · rw [e]
        exact ⟨l, rfl, hl, nl, fun z => nN ((F3.re.dd N).mpr (.inr ⟨-m, by rw [← z]; exact e⟩))⟩
    generalize upd H4 E5 (.lst []) = H5 at F5 f5 hN5 there
    obtain ⟨l, el, hl, nl, nlN⟩ := there
    refine ⟨_, DGet.k (k := (Sum.inl (-m) : Key)) F5.hvd, l, el, ⟨_, SqL.of hl⟩, for_list (K := K) (a := l) (xs := (nums ks (-m)).map fun i => V.int (i : Nat)) (fun j σ H' => ∃ v4, σ = [some (.ref A.f), some (.int m), some (optI r), some (.ref N), v4] ∧
      FolR H' (cs 0) A D qs aq kvs ks (oJ ks tr m ((nums ks (-m)).take j)) (nums ks) (tr ++ [m]) (rw ++ [r]) pu ah br ∧ H' l = some (.lst ((nums ks (-m)).map fun i => V.int (i : Nat))) ∧
      H' N = some (.lst ((((nums ks (-m)).take j).filter (fun i => decide ((left (tr ++ [m]) (ks.getD i [])).length ≤ 1))).map fun i => V.int (i : Nat))) ∧ Fr D D H H') ⟨none, rfl, ?_, hl, hN5, f5⟩ ?_ ?_ ?_⟩
    · rw [List.take_zero, oJ_zero]
      exact F5
    · rintro j σ H' _ ⟨_, _, _, hl', _⟩
      exact SqL.of hl'
    · rintro j x σ H6 hj ⟨v4, rfl, F6, hl6, hN6, f6⟩
      obtain ⟨i, rfl, hi⟩ : ∃ i : Nat, x = .int (i : Nat) ∧ (nums ks (-m))[j]? = some i := by
        rw [List.getElem?_map] at hj
        cases e : (nums ks (-m))[j]? with
        | none => rw [e] at hj; cases hj
        | some i => rw [e] at hj; exact ⟨i, (Option.some.inj hj).symm, rfl⟩
      obtain ⟨c, hc, hmc⟩ := mem_nums.mp (List.mem_of_getElem? hi)
      have hil := (List.getElem?_eq_some_iff.mp hc).1
      have nt : i ∉ (nums ks (-m)).take j := fun z => by
        obtain ⟨i', hi', e⟩ := mem_take z
        obtain ⟨a1, a2⟩ := List.getElem?_eq_some_iff.mp e
        obtain ⟨b1, b2⟩ := List.getElem?_eq_some_iff.mp hi
        have := (List.getElem_inj (nums_nodup ks (-m))).mp (a2.trans b2.symm)
        omega
      have ho := oJ_at (tr := tr) (m := m) (L := (nums ks (-m)).take j) hc
      rw [if_neg nt] at ho
      have ho2 : ((oJ ks tr m ((nums ks (-m)).take j)).map V.int)[i]? = some (.int (offC tr c)) := by
        rw [List.getElem?_map, ho]
        rfl
      refine ⟨_, rfl, A.f, cs 0, A.dx, _, _, rfl, F6.ins, T.cl_Follower, T.n_Follower__offs, rfl, _, rfl, A.ofs, _, _, _, rfl, rfl, SqL.of F6.ofs, atI_nat ho2, _, _, rfl, rfl, A.ofs, _, _, i, rfl, rfl, F6.ofs, ?_, ?_⟩
      · unfold ixN
        rw [if_pos (by omega), if_pos (by rw [List.length_map, oJ_len]; omega), Int.toNat_natCast]
      have eset : ((oJ ks tr m ((nums ks (-m)).take j)).map V.int).set i (V.int (offC tr c + 1)) = (oJ ks tr m ((nums ks (-m)).take j ++ [i])).map V.int := by
        rw [← off_has (hn c (List.mem_of_getElem? hc)) hm hmc, ← List.map_set, oJ_set hc]
      dsimp only
      rw [eset]
      have F7 := F6.setOf (oJ ks tr m ((nums ks (-m)).take j ++ [i]))
      have f7 : Fr D D H (upd H6 A.ofs (.lst ((oJ ks tr m ((nums ks (-m)).take j ++ [i])).map V.int))) := f6.trans (Fr.upd (F.in_ (by simp [fas]))) fun _ h => h
      have hl7 : (upd H6 A.ofs (.lst ((oJ ks tr m ((nums ks (-m)).take j ++ [i])).map V.int))) l = some (.lst ((nums ks (-m)).map fun i => V.int (i : Nat))) := by
        rw [upd_ne (fun z => nl (by rw [z]; simp [fas]))]
        exact hl6
      have hN7 : (upd H6 A.ofs (.lst ((oJ ks tr m ((nums ks (-m)).take j ++ [i])).map V.int))) N = some (.lst ((((nums ks (-m)).take j).filter (fun i => decide ((left (tr ++ [m]) (ks.getD i [])).length ≤ 1))).map fun i => V.int (i : Nat))) := by
        rw [upd_ne (fun z => nNf (by rw [z]; simp [fas]))]
        exact hN6
      generalize upd H6 A.ofs (.lst ((oJ ks tr m ((nums ks (-m)).take j ++ [i])).map V.int)) = H7 at F7 f7 hl7 hN7
      have ho7 := oJ_at (tr := tr) (m := m) (L := (nums ks (-m)).take j ++ [i]) hc
      rw [if_pos (List.mem_append_right _ List.mem_cons_self)] at ho7
      have cn := F7.re.cn
      have hqi : qs[i]? = some qs[i] := List.getElem?_eq_getElem (by omega)
      have htk : (nums ks (-m)).take (j + 1) = (nums ks (-m)).take j ++ [i] := by
        rw [List.take_add_one, hi]
        rfl
      have ec : ks.getD i [] = c := by
        rw [List.getD_eq_getElem?_getD, hc]
        rfl
      refine ⟨_, rfl, A.f, A.dx, _, rfl, F7.ins, rfl, _, rfl, A, br, qs, _, i, _, qs[i], c, rfl, F7.ins, F7.ofs, ho7, F7.cl, hqi, F7.re.ct i _ _ hqi hc, _, rfl, ite2 (fun z => ?_) (fun z => ?_)⟩
      · have z' : offC (tr ++ [m]) c ≥ (c.length : Int) - 1 := of_decide_eq_true z
        have ol := off_left (tr ++ [m]) c
        refine ⟨_, rfl, .inl ⟨rfl, _, SqL.of hN7⟩, _, rfl, N, _, _, rfl, rfl, hN7, ?_, ?_⟩
        · rw [List.length_map]
          have a1 := List.length_filter_le (fun i => decide ((left (tr ++ [m]) (ks.getD i [])).length ≤ 1)) ((nums ks (-m)).take j)
          have a2 := List.length_take_le' j (nums ks (-m))
          have a3 : (nums ks (-m)).length ≤ ks.length := by
            unfold nums
            have := List.length_filter_le (fun i => decide (-m ∈ ks.getD i [])) (List.range ks.length)
            rw [List.length_range] at this
            exact this
          omega
        rw [nats_snoc]
        refine ⟨_, rfl, ?_, ?_, ?_, ?_⟩
        · rw [htk]
          have Fx := F7
          refine ⟨Fx.co.keep fun a ha o e => ?_, Fx.re.keep (fun b xs e => ?_) fun b nb db o e => ?_⟩
          · rw [upd_ne (fun z : a = N => nNf (by rw [← z]; exact ha))]
            exact e
          · rw [upd_ne (ne_of e hN7 (by intro z; cases z))]
            exact e
          · rw [upd_ne (fun z : b = N => nN (by rw [← z]; exact db))]
            exact e
        · rw [upd_ne nlN]
          exact hl7
        · rw [upd_same, htk, List.filter_append, List.filter_cons_of_pos (by rw [ec]; exact decide_eq_true (by omega)), List.filter_nil]
        · refine ⟨fun b o e nb => ?_, fun b hb => .inl hb⟩
          rw [upd_ne (ne_of_none e hN0)]
          exact f7.k b o e nb
      · have z' : ¬ offC (tr ++ [m]) c ≥ (c.length : Int) - 1 := fun y => z (decide_eq_true y)
        have ol := off_left (tr ++ [m]) c
        refine ⟨_, rfl, by rw [htk]; exact F7, hl7, ?_, f7⟩
        rw [hN7, htk, List.filter_append, List.filter_cons_of_neg (by rw [ec]; simp; omega), List.filter_nil, List.append_nil]
    · rintro σ H6 ⟨v4, rfl, F6, hl6, hN6, f6⟩
      rw [List.length_map, List.take_length] at F6 hN6
      rw [oJ_end] at F6
      exact ⟨_, rfl, k H6 N _ F6 hN0 hN6 rfl f6⟩
end

structure Okay (cs : List (List Int)) (pu tr : List Int) (rw : List (Option Int)) : Prop where
  nd : tr.Nodup
  con : ∀ m ∈ tr, -m ∉ tr
  just : Just cs pu tr rw
  len : rw.length = tr.length
structure Good (cs : List (List Int)) : Prop where
  nd : ∀ c ∈ cs, c.Nodup
  nz : ∀ c ∈ cs, ∀ m ∈ c, m ≠ 0
  n : cs.length ≤ 100000
  fl : cs.flatten.length ≤ 800000
theorem Okay.small {cs : List (List Int)} {pu tr : List Int} {rw : List (Option Int)} (h : Okay cs pu tr rw) : tr.length ≤ pu.length + cs.flatten.length := by
  have e := nodup_le (xs := tr) (ys := pu ++ cs.flatten) h.nd fun m hm => by
    obtain ⟨i, e⟩ := List.mem_iff_getElem?.mp hm
    rcases h.just i m e with ⟨_, hp⟩ | ⟨k, c, _, hc, hmc, _⟩
    · exact List.mem_append_left _ hp
    · exact List.mem_append_right _ (List.mem_flatten.mpr ⟨c, List.mem_of_getElem? hc, hmc⟩)
  rw [List.length_append] at e
  exact e
theorem Just.snoc {cs : List (List Int)} {pu tr : List Int} {rw : List (Option Int)} {x : Int} {r : Option Int} (h : Just cs pu tr rw) (len : rw.length = tr.length)
    (hx : (r = none ∧ x ∈ pu) ∨ ∃ (k : Nat) (c : List Int), r = some (k : Int) ∧ cs[k]? = some c ∧ x ∈ c ∧ ∀ y ∈ c, y ≠ x → -y ∈ tr) : Just cs pu (tr ++ [x]) (rw ++ [r]) := by
  intro i m hm
  rcases getElem_snoc hm with ⟨hl, e⟩ | ⟨hl, e⟩
  · rcases h i m e with ⟨a, b⟩ | ⟨k, c, a, b, d, f⟩
    · exact .inl ⟨by rw [List.getElem?_append_left (by omega)]; exact a, b⟩
    · exact .inr ⟨k, c, by rw [List.getElem?_append_left (by omega)]; exact a, b, d, fun y hy hne => by rw [List.take_append_of_le_length (by omega)]; exact f y hy hne⟩
  · subst e
    have er : (rw ++ [r])[i]? = some r := by
      rw [hl, ← len, List.getElem?_append_right (Nat.le_refl _), Nat.sub_self]
      rfl
    rcases hx with ⟨rfl, hp⟩ | ⟨k, c, rfl, hc, hxc, ho⟩
    · exact .inl ⟨er, hp⟩
    · exact .inr ⟨k, c, er, hc, hxc, fun y hy hne => by rw [hl, List.take_append_of_le_length (Nat.le_refl _), List.take_length]; exact ho y hy hne⟩
theorem Okay.snoc {cs : List (List Int)} {pu tr : List Int} {rw : List (Option Int)} {x : Int} {r : Option Int} (h : Okay cs pu tr rw) (x0 : x ≠ 0) (nx : x ∉ tr) (nx2 : -x ∉ tr)
    (hx : (r = none ∧ x ∈ pu) ∨ ∃ (k : Nat) (c : List Int), r = some (k : Int) ∧ cs[k]? = some c ∧ x ∈ c ∧ ∀ y ∈ c, y ≠ x → -y ∈ tr) : Okay cs pu (tr ++ [x]) (rw ++ [r]) := by
  refine ⟨?_, fun m hm z => ?_, h.just.snoc h.len hx, by rw [List.length_append, List.length_append, h.len]; rfl⟩
  · rw [List.nodup_append]
    exact ⟨h.nd, by simp, fun a ha b hb e => by rw [List.mem_singleton] at hb; exact nx (by rw [← hb, ← e]; exact ha)⟩
  · rcases List.mem_append.mp hm with a | a
    · rcases List.mem_append.mp z with b | b
      · exact h.con m a b
      · rw [List.mem_singleton] at b
        exact nx2 (by rw [← b, Int.neg_neg]; exact a)
    · rw [List.mem_singleton] at a
      subst a
      rcases List.mem_append.mp z with b | b
      · exact nx2 b
      · rw [List.mem_singleton] at b
        omega
def somes (l : List Int) : List (Option Int) := l.map some
def spSettle (C : Addr) : Sp := fun vs H Q _ => ∃ (A : FA) (D : Addr → Prop) (qs aq : List Addr) (kvs : List (Key × V)) (cs : List (List Int)) (tr : List Int) (rw : List (Option Int)) (pu : List Int) (ah : List (Int × Int)) (p : Addr) (ws : List Nat),
  vs = [.ref A.f, .ref p] ∧ FolR H C A D qs aq kvs cs (cs.map (offC tr)) (nums cs) tr rw pu ah none ∧ H p = some (.lst (ws.map fun i => V.int (i : Nat))) ∧ (∀ i ∈ ws, i < cs.length) ∧ Okay cs pu tr rw ∧ Good cs ∧
  (∀ i c, cs[i]? = some c → i ∉ ws → Quiet tr c) ∧ ws.length ≤ 100000 ∧ pu.length ≤ 100000 ∧
  ∀ (H' : Hp) (nw mr : List Int) (br : Option Int), FolR H' C A D qs aq kvs cs (cs.map (offC (tr ++ nw))) (nums cs) (tr ++ nw) (rw ++ somes mr) pu ah br → Okay cs pu (tr ++ nw) (rw ++ somes mr) →
    (br = none → Closed cs (tr ++ nw)) → (∀ r, br = some r → ∃ (k : Nat) (c : List Int), r = (k : Int) ∧ cs[k]? = some c ∧ ∀ x ∈ c, -x ∈ tr ++ nw) → Fr D D H H' → Q .non H'
theorem left_filter (tr c : List Int) : ((c.map V.int).filter fun x => match x with | .int m => !decide (-m ∈ tr) | _ => false) = (left tr c).map V.int := by
  unfold left
  rw [List.filter_map]
  rfl
section
variable {P : Program} {w : World} {K : PySem.W.Frag} {mg : Str → Option Value} {base : Heap}
theorem hm_settle {cs : Nat → Addr} (T : Top K mg cs) (h_Follower__is_ready : HasM P w K mg base (cs 0) 1 "_is_ready" ["self", "number"] (spReady (cs 0))) (h_Follower__bring : HasM P w K mg base (cs 0) 2 "_bring" ["self", "mark", "row"] (spBring (cs 0))) :
    HasM P w K mg base (cs 0) 3 "_settle" ["self", "numbers"] (spSettle (cs 0)) := by
  refine has_ofM T.m_Follower__settle sc_Follower__settle bd_Follower__settle (fun vs H Q E h => ?_) (fun f cdv Ar outer s H vs Q E hr h => ?_)
  · obtain ⟨A, D, qs, aq, kvs, ks, tr, rw, pu, ah, p, ws, rfl, _⟩ := h
    rfl
  · have hu := hu_of hr
    have nd := sc_Follower__settle.nd
    obtain ⟨A, D, qs, aq, kvs, ks, tr, rw, pu, ah, p, ws, rfl, F, hp, hws, ok, gd, pend, l1, l2, k⟩ := h
    refine ⟨_, (pss_cons (ps_set (i := 2) nd rfl (.inl rfl) (pe_callTy call_list_of (by rfl) T.b_list (by decide +kernel) (pa_cons (pv 1) pa_nil)))
    (pss_cons (ps_set (i := 3) nd rfl (.inl rfl) pe_int)
    (pss_one (ps_while PassesOwn.never (pt_cmpR op_lt (pv 3) (pe_callB call_len_seq (by rfl) T.b_len (by decide +kernel) (pa_cons (pv 2) pa_nil)) (nomark _)) (pss_cons (ps_set (i := 4) nd rfl (.inl rfl) (pe_ix ix_list (pv 2) (pv 3) (fun _ _ => rfl)))
    (pss_cons (ps_aug (i := 3) nd rfl (.inl rfl) pe_int ip_add)
    (pss_one (ps_if (pt_val (pe_hasM T.cl_Follower h_Follower__is_ready (hr.mono (by omega)) (pv 0) (pa_cons (pv 4) pa_nil))) (pss_cons (ps_setLc (i := 5) (own := [("mark", 6)]) (by rfl) nd rfl rfl (sw_true rfl rfl rfl (by decide +kernel)) (pi_tup (pe_ix ix_list (pe_fld (pv 0) rfl) (pv 4) (fun _ _ => rfl))) (blkOk_by (own := [("mark", 6)]) (N := nm_Follower__settle) (sc := defScope s_Follower__settle) (by decide +kernel)) (fun _ _ _ _ _ => pg_name (i := 6) nd rfl (.inl rfl)) (fun _ _ _ _ _ => pts_one (pt_cmp (pc_dnotin hu (pe_un un_neg (pv 6)) (pe_fldK (K := K) rfl (pv 0) rfl)))) (fun _ _ _ _ _ => (pv 6)))
    (pss_cons (ps_if (pt_not (pt_truth (pv 5) (by intro _; rfl))) (pss_cons (ps_fld (pv 0) (pv 4) rfl)
    (pss_one ps_retN)) pss_nil)
    (pss_one (ps_if (pt_cmp (pc_dnotin hu (pe_ix ix_list (pv 5) pe_int (fun _ _ => rfl)) (pe_fld (pv 0) rfl))) (pss_one (ps_expr (pe_bm PySem.F.plainAttrs_list PySem.F.slot_list_extend PySem.F.type_list_extend mt_extend (pv 2) (pa_cons (pe_hasM T.cl_Follower h_Follower__bring (hr.mono (by omega)) (pv 0) (pa_cons (pe_ix ix_list (pv 5) pe_int (fun _ _ => rfl)) (pa_cons (pv 4) pa_nil))) pa_nil)))) pss_nil)))) pss_nil)))))))), ?_⟩
    have line : 1100000 < sizeLine := by decide
    refine ⟨_, rfl, p, _, rfl, .inl (SqL.of hp), fun wq hwq => ?_⟩
    have s1 : Same H (upd H wq (.lst (ws.map fun i => V.int (i : Nat)))) := same_new hwq
    have nwq := F.not_new hwq
    have lsum := leftSum_le ks tr
    have gfl := gd.fl
    have gn := gd.n
    refine ⟨fun n σ H' => ∃ (at' : Nat) (v4 v5 v6 : Option V) (w' : List Nat) (nw mr : List Int), σ = [some (.ref A.f), some (.ref p), some (.ref wq), some (.int (at' : Nat)), v4, v5, v6] ∧
      FolR H' (cs 0) A D qs aq kvs ks (ks.map (offC (tr ++ nw))) (nums ks) (tr ++ nw) (rw ++ somes mr) pu ah none ∧ Okay ks pu (tr ++ nw) (rw ++ somes mr) ∧ H' wq = some (.lst (w'.map fun i => V.int (i : Nat))) ∧
      at' ≤ w'.length ∧ (∀ i ∈ w', i < ks.length) ∧ (∀ i c, ks[i]? = some c → i ∉ w'.drop at' → Quiet (tr ++ nw) c) ∧ w'.length + leftSum ks (tr ++ nw) ≤ ws.length + leftSum ks tr ∧
      n = leftSum ks (tr ++ nw) + (w'.length - at') ∧ Fr D D H H', ⟨leftSum ks (tr ++ []) + (ws.length - 0), 0, none, none, none, ws, [], [], rfl, ?_, ?_, upd_same, Nat.zero_le _, hws, ?_, ?_, rfl, Fr.same s1⟩, ?_⟩
    · have F1 := F.same s1
      unfold somes
      simp only [List.append_nil, List.map_nil]
      exact F1
    · unfold somes
      simp only [List.append_nil, List.map_nil]
      exact ok
    · intro i c hc hi
      rw [List.append_nil]
      exact pend i c hc hi
    · rw [List.append_nil]
      exact Nat.le_refl _
    rintro n σ H1 ⟨at', v4, v5, v6, w', nw, mr, rfl, F1, ok1, hw1, la, hw'', pend1, ls1, rfl, f1⟩
    have tl := ok1.small
    have rl := ok1.len
    refine ⟨_, rfl, _, rfl, wq, _, rfl, .inl (SqL.of hw1), _, _, rfl, rfl, _, rfl, ?_⟩
    rw [List.length_map]
    refine ite2 (fun hlt => ?_) (fun hlt => ?_)
    · have hlt' : (at' : Int) < (w'.length : Int) := of_decide_eq_true hlt
      have hl : at' < w'.length := by omega
      refine ⟨_, fun σ' H' h => h, ?_⟩
      have ei : w'[at']? = some w'[at'] := List.getElem?_eq_getElem hl
      have hik := hw'' _ (List.getElem_mem hl)
      have hdrop : w'.drop at' = w'[at'] :: w'.drop (at' + 1) := List.drop_eq_getElem_cons hl
      generalize w'[at'] = i at ei hik hdrop
      have evi : (w'.map fun i => V.int (i : Nat))[at']? = some (.int (i : Nat)) := by
        rw [List.getElem?_map, ei]
        rfl
      refine ⟨_, rfl, _, rfl, wq, _, _, _, rfl, rfl, SqL.of hw1, atI_nat evi, _, rfl, _, _, rfl, rfl, ?_⟩
      have hc : ks[i]? = some ks[i] := List.getElem?_eq_getElem hik
      generalize ks[i] = c at hc
      have hcm := List.mem_of_getElem? hc
      have cn := F1.re.cn
      have hqi : qs[i]? = some qs[i] := List.getElem?_eq_getElem (by omega)
      have hct := F1.re.ct i _ _ hqi hc
      generalize qs[i] = q at hqi hct
      have ho : (ks.map (offC (tr ++ nw)))[i]? = some (offC (tr ++ nw) c) := by
        rw [List.getElem?_map, hc]
        rfl
      have ol := off_left (tr ++ nw) c
      refine ⟨_, rfl, A.f, A.dx, _, rfl, F1.ins, rfl, _, rfl, A, none, qs, _, i, _, q, c, rfl, F1.ins, F1.ofs, ho, F1.cl, hqi, hct, _, rfl, ite2 (fun z => ?_) (fun z => ?_)⟩
      · have z' : offC (tr ++ nw) c ≥ (c.length : Int) - 1 := of_decide_eq_true z
        have few : (left (tr ++ nw) c).length ≤ 1 := by omega
        have eq : (qs.map V.ref)[i]? = some (.ref q) := by
          rw [List.getElem?_map, hqi]
          rfl
        have lcc : c.length ≤ 800000 := by
          have a1 : c.length ≤ ks.flatten.length := by
            obtain ⟨a, b, e⟩ := List.append_of_mem hcm
            rw [e, List.flatten_append, List.flatten_cons, List.length_append, List.length_append]
            omega
          omega
        refine ⟨_, rfl, A.f, cs 0, A.dx, _, _, rfl, F1.ins, T.cl_Follower, T.n_Follower__clauses, rfl, _, rfl, A.cl, _, _, _, rfl, rfl, SqL.of F1.cl, atI_nat eq, q, rfl, ⟨_, SqT.of hct⟩, fun L hL => lc_sel_tup (fun x => match x with | .int m => !decide (-m ∈ tr ++ nw) | _ => false) (fun x => x) (SqT.of hct) hL (by rw [List.length_map]; omega) (fun x hm => ?_) fun H2 s2 h2 => ?_⟩
        · obtain ⟨m, _, rfl⟩ := List.mem_map.mp hm
          refine ⟨rfl, fun H' s' R r => ⟨_, rfl, m, rfl, _, rfl, A.f, cs 0, A.dx, _, _, rfl, s' _ _ F1.ins, T.cl_Follower, T.n_Follower__place, rfl, A.pl, _, rfl, DGet.k (k := Sum.inl (-m)) (s' _ _ F1.pld), _, rfl, ?_⟩, fun _ H' s' R r => ⟨_, rfl, r H' (Same.refl _)⟩⟩
          rw [plD_is ok1.nd]
          exact r H' (Same.refl _)
        rw [left_filter, List.map_id'] at h2
        have F2 := F1.same s2
        have f2 : Fr D D H H2 := f1.trans (Fr.same s2) fun _ h => h
        have hw2 := s2 _ _ hw1
        refine ⟨_, rfl, _, .inl ⟨_, SqL.of h2, rfl⟩, ?_⟩
        cases el : left (tr ++ nw) c with
        | nil =>
          refine iteT ⟨_, rfl, _, rfl, A.f, cs 0, A.dx, _, rfl, F2.ins, T.cl_Follower, T.n_Follower__broken_row, by show 10 < 1000; decide, ?_⟩
          have F3 := F2.setBr (some (i : Int))
          refine k _ nw mr (some (i : Int)) F3 ok1 (fun e => by cases e) (fun r e => ?_) (f2.trans (Fr.upd (F.in_ (by simp [fas]))) fun _ h => h)
          cases e
          refine ⟨i, c, rfl, hc, fun x hx => ?_⟩
          by_cases y : -x ∈ tr ++ nw
          · exact y
          · have := mem_left.mpr ⟨hx, y⟩
            rw [el] at this
            cases this
        | cons x rest =>
          have er : rest = [] := by
            rw [el] at few
            cases rest with
            | nil => rfl
            | cons a b => simp at few
          subst er
          rw [el] at h2
          have hxc := mem_left.mp (by rw [el]; exact List.mem_cons_self : x ∈ left (tr ++ nw) c)
          have x0 := gd.nz c hcm x hxc.1
          refine iteF ⟨_, rfl, L, _, _, _, rfl, rfl, SqL.of h2, atI_nat (j := 0) rfl, _, rfl, A.f, cs 0, A.dx, _, _, rfl, F2.ins, T.cl_Follower, T.n_Follower__place, rfl, A.pl, _, rfl, DGet.k (k := Sum.inl x) F2.pld, _, rfl, ?_⟩
          rw [plD_is ok1.nd]
          by_cases hx : x ∈ tr ++ nw
          · rw [decide_eq_true hx]
            refine iteF ⟨leftSum ks (tr ++ nw) + (w'.length - (at' + 1)), by omega, at' + 1, _, _, _, w', nw, mr, rfl, F2, ok1, hw2, hl, hw'', fun i' c' hc' hi' => ?_, ls1, rfl, f2⟩
            by_cases e : i' = i
            · subst e
              rw [hc] at hc'
              cases hc'
              exact ⟨by rw [el]; simp, fun y hy => by rw [el] at hy; cases hy; exact hx⟩
            · exact pend1 i' c' hc' (by rw [hdrop]; exact fun y => (List.mem_cons.mp y).elim e hi')
          · rw [decide_eq_false hx]
            refine iteT ⟨_, rfl, .inl ⟨rfl, _, SqL.of hw2⟩, _, rfl, A.f, A.dx, _, rfl, F2.ins, rfl, _, rfl, L, _, _, _, rfl, rfl, SqL.of h2, atI_nat (j := 0) rfl, _, rfl, A, D, qs, aq, kvs, ks, tr ++ nw, rw ++ somes mr, pu, ah, none, x, some (i : Int), rfl, F2, hx, gd.nd, gn, by omega, by omega, fun H3 p3 rd F3 np3 hp3 erd f3 => ?_⟩
            have hw3 : H3 wq = some (.lst (w'.map fun i => V.int (i : Nat))) := f3.k _ _ hw2 nwq
            have lrd : rd.length ≤ (nums ks (-x)).length := by
              rw [erd]
              exact List.length_filter_le _ _
            have lsn := leftSum_snoc hx ks gd.nd
            have assoc : tr ++ nw ++ [x] = tr ++ (nw ++ [x]) := List.append_assoc _ _ _
            have assoc2 : rw ++ somes mr ++ [some (i : Int)] = rw ++ somes (mr ++ [(i : Int)]) := by
              unfold somes
              rw [List.map_append, List.append_assoc]
              rfl
            have ok3 : Okay ks pu (tr ++ nw ++ [x]) (rw ++ somes mr ++ [some (i : Int)]) := ok1.snoc x0 hx hxc.2 (.inr ⟨i, c, rfl, hc, hxc.1, fun y hy hne => by
              by_cases z : -y ∈ tr ++ nw
              · exact z
              · have m := mem_left.mpr ⟨hy, z⟩
                rw [el, List.mem_singleton] at m
                exact absurd m hne⟩)
            refine ⟨wq, p3, _, _, rfl, rfl, hw3, hp3, by rw [List.length_map, List.length_map]; omega, ?_⟩
            rw [← List.map_append]
            rw [assoc] at F3 ok3 lsn erd
            rw [assoc2] at F3 ok3
            have f23 : Fr D D H H3 := f2.trans f3 fun _ h => h
            refine ⟨leftSum ks (tr ++ (nw ++ [x])) + ((w' ++ rd).length - (at' + 1)), by rw [List.length_append]; omega, at' + 1, _, _, _, w' ++ rd, nw ++ [x], mr ++ [(i : Int)], rfl, ?_, ok3, upd_same, by rw [List.length_append]; omega, fun j hj => ?_, fun i' c' hc' hi' => ?_, by rw [List.length_append]; omega, rfl, ?_⟩
            · refine ⟨F3.co.keep fun a ha o e => ?_, F3.re.keep (fun b xs e => ?_) fun b nb db o e => ?_⟩
              · rw [upd_ne (fun z : a = wq => nwq (by rw [← z]; exact F3.in_ ha))]
                exact e
              · rw [upd_ne (ne_of e hw3 (by intro z; cases z))]
                exact e
              · rw [upd_ne (fun z : b = wq => nwq (by rw [← z]; exact db))]
                exact e
            · rcases List.mem_append.mp hj with a | a
              · exact hw'' j a
              · rw [erd] at a
                obtain ⟨c2, hc2, _⟩ := mem_nums.mp (List.mem_filter.mp a).1
                exact (List.getElem?_eq_some_iff.mp hc2).1
            · rw [List.drop_append_of_le_length (by omega)] at hi'
              have n1 : i' ∉ w'.drop (at' + 1) := fun y => hi' (List.mem_append_left _ y)
              have n2 : i' ∉ rd := fun y => hi' (List.mem_append_right _ y)
              by_cases e : i' = i
              · subst e
                rw [hc] at hc'
                cases hc'
                rw [← assoc]
                have e2 : left (tr ++ nw ++ [x]) c = [x] := by
                  rw [left_snoc, el, List.filter_cons_of_pos (by simp; omega), List.filter_nil]
                exact ⟨by rw [e2]; simp, fun y hy => by rw [e2] at hy; cases hy; exact List.mem_append_right _ List.mem_cons_self⟩
              · have q1 := pend1 i' c' hc' (by rw [hdrop]; exact fun y => (List.mem_cons.mp y).elim e n1)
                rw [← assoc]
                by_cases hm : -x ∈ c'
                · refine quiet_big ?_
                  have mn : i' ∈ nums ks (-x) := mem_nums.mpr ⟨c', hc', hm⟩
                  by_cases g : (left (tr ++ (nw ++ [x])) (ks.getD i' [])).length ≤ 1
                  · exact absurd (by rw [erd]; exact List.mem_filter.mpr ⟨mn, decide_eq_true g⟩) n2
                  · rw [List.getD_eq_getElem?_getD, hc'] at g
                    rw [assoc]
                    have g' : ¬ (left (tr ++ (nw ++ [x])) c').length ≤ 1 := g
                    omega
                · exact quiet_other hm q1
            · refine ⟨fun b o e nb => ?_, fun b hb => .inl hb⟩
              rw [upd_ne (ne_of_none e hwq)]
              exact f23.k b o e nb
      · have z' : ¬ offC (tr ++ nw) c ≥ (c.length : Int) - 1 := fun y => z (decide_eq_true y)
        refine ⟨leftSum ks (tr ++ nw) + (w'.length - (at' + 1)), by omega, at' + 1, _, _, _, w', nw, mr, rfl, F1, ok1, hw1, hl, hw'', fun i' c' hc' hi' => ?_, ls1, rfl, f1⟩
        by_cases e : i' = i
        · subst e
          rw [hc] at hc'
          cases hc'
          exact quiet_big (by omega)
        · exact pend1 i' c' hc' (by rw [hdrop]; exact fun y => (List.mem_cons.mp y).elim e hi')
    · have hlt' : ¬ (at' : Int) < (w'.length : Int) := fun y => hlt (decide_eq_true y)
      refine k H1 nw mr none F1 ok1 (fun _ c hc => ?_) (fun r e => by cases e) f1
      obtain ⟨i, ei⟩ := List.mem_iff_getElem?.mp hc
      exact pend1 i c ei (by rw [List.drop_eq_nil_of_le (by omega)]; simp)
end

structure Puts (pu : List Int) : Prop where
  nd : pu.Nodup
  con : ∀ m ∈ pu, -m ∉ pu
  n : pu.length ≤ 100000
theorem Puts.nz {pu : List Int} (h : Puts pu) {m : Int} (hm : m ∈ pu) : m ≠ 0 := fun z => by
  subst z
  exact h.con 0 hm hm
theorem Puts.snoc {pu : List Int} {m : Int} (h : Puts pu) (m0 : m ≠ 0) (h1 : m ∉ pu) (h2 : -m ∉ pu) (hl : pu.length < 100000) : Puts (pu ++ [m]) := by
  refine ⟨?_, fun x hx z => ?_, by rw [List.length_append]; exact hl⟩
  · rw [List.nodup_append]
    exact ⟨h.nd, by simp, fun a ha b hb e => by rw [List.mem_singleton] at hb; exact h1 (by rw [← hb, ← e]; exact ha)⟩
  · rcases List.mem_append.mp hx with a | a
    · rcases List.mem_append.mp z with b | b
      · exact h.con x a b
      · rw [List.mem_singleton] at b
        exact h2 (by rw [← b, Int.neg_neg]; exact a)
    · rw [List.mem_singleton] at a
      subst a
      rcases List.mem_append.mp z with b | b
      · exact h2 b
      · rw [List.mem_singleton] at b
        omega
structure AhAt (cs : List (List Int)) (pu tr : List Int) (rw : List (Option Int)) (k : Nat) (z : Int × Int) : Prop where
  ex : ∃ a n : Nat, z = ((a : Int), (n : Int)) ∧ a ≤ tr.length ∧ n ≤ cs.length ∧ Closed (cs.take n) (tr.take a) ∧ (∀ m ∈ pu.take k, m ∈ tr.take a) ∧ ∀ i < a, rw[i]? = some none → ∀ m, tr[i]? = some m → m ∈ pu.take k
/-- a broken row: all of it is off on the trail, or it is the row of the mark whose other way round was put last -/
def BrkAt (cs : List (List Int)) (pu tr : List Int) (rw : List (Option Int)) (r : Int) : Prop := ∃ (k : Nat) (c : List Int), r = (k : Int) ∧ cs[k]? = some c ∧
  (((∀ m ∈ pu, m ∈ tr) ∧ ∀ x ∈ c, -x ∈ tr) ∨ ∃ (p : Int) (i : Nat), p ∈ pu ∧ (∀ m ∈ pu, m = p ∨ m ∈ tr) ∧ tr[i]? = some (-p) ∧ rw[i]? = some (some (k : Int)) ∧ -p ∈ c ∧ ∀ x ∈ c, x ≠ -p → -x ∈ tr.take i)
theorem BrkAt.old {cs : List (List Int)} {pu tr : List Int} {rw : List (Option Int)} {r : Int} (h : BrkAt cs pu tr rw r) : ∃ (k : Nat) (c : List Int), r = (k : Int) ∧ cs[k]? = some c ∧ ∀ x ∈ c, -x ∈ tr ∨ -x ∈ pu := by
  obtain ⟨k, c, e, hc, ⟨_, h⟩ | ⟨p, i, hp, _, _, _, _, ho⟩⟩ := h
  · exact ⟨k, c, e, hc, fun x hx => .inl (h x hx)⟩
  · refine ⟨k, c, e, hc, fun x hx => ?_⟩
    by_cases y : x = -p
    · exact .inr (by rw [y, Int.neg_neg]; exact hp)
    · exact .inl (List.mem_of_mem_take (ho x hx y))
structure FolX (H : Hp) (C : Addr) (A : FA) (D : Addr → Prop) (cs : List (List Int)) (pu tr : List Int) (rw : List (Option Int)) (ah : List (Int × Int)) (br : Option Int) (qs aq : List Addr) (kvs : List (Key × V)) : Prop where
  r : FolR H C A D qs aq kvs cs (cs.map (offC tr)) (nums cs) tr rw pu ah br
  ok : Okay cs pu tr rw
  gd : Good cs
  pt : Puts pu
  kl : kvs.length ≤ cs.flatten.length
  cl : br = none → Closed cs tr ∧ ∀ m ∈ pu, m ∈ tr
  bk : ∀ r, br = some r → BrkAt cs pu tr rw r
  al : ah.length = pu.length
  aa : ∀ k z, ah[k]? = some z → AhAt cs pu tr rw k z
  aw : ah.Pairwise fun x y => x.1 ≤ y.1
def Fol (H : Hp) (C : Addr) (A : FA) (D : Addr → Prop) (cs : List (List Int)) (pu tr : List Int) (rw : List (Option Int)) (ah : List (Int × Int)) (br : Option Int) : Prop := ∃ qs aq kvs, FolX H C A D cs pu tr rw ah br qs aq kvs
section
variable {H : Hp} {C : Addr} {A : FA} {D : Addr → Prop} {cs : List (List Int)} {pu tr : List Int} {rw : List (Option Int)} {ah : List (Int × Int)} {br : Option Int}
theorem Fol.ins (h : Fol H C A D cs pu tr rw ah br) : H A.f = some (.ins C A.dx (fl A br)) := by
  obtain ⟨qs, aq, kvs, x⟩ := h
  exact x.r.ins
theorem Fol.der (h : Fol H C A D cs pu tr rw ah none) : (∀ x, x ∈ tr ↔ Der cs pu x) ∧ ¬ Brk cs pu := by
  obtain ⟨qs, aq, kvs, x⟩ := h
  obtain ⟨c1, c2⟩ := x.cl rfl
  exact ⟨fun y => ⟨fun hy => x.ok.just.der hy, fun hy => der_in x.gd.nd c2 c1 hy⟩, not_brk x.gd.nd c2 c1⟩
theorem Fol.brk {r : Int} (h : Fol H C A D cs pu tr rw ah (some r)) : Brk cs pu := by
  obtain ⟨qs, aq, kvs, x⟩ := h
  obtain ⟨k, c, _, hc, ho⟩ := (x.bk r rfl).old
  refine ⟨c, List.mem_of_getElem? hc, fun y hy => ?_⟩
  rcases ho y hy with z | z
  · exact x.ok.just.der z
  · exact .put z
theorem Fol.same {H' : Hp} (h : Fol H C A D cs pu tr rw ah br) (s : Same H H') : Fol H' C A D cs pu tr rw ah br := by
  obtain ⟨qs, aq, kvs, x⟩ := h
  exact ⟨qs, aq, kvs, ⟨x.r.same s, x.ok, x.gd, x.pt, x.kl, x.cl, x.bk, x.al, x.aa, x.aw⟩⟩
theorem Fol.not_new (h : Fol H C A D cs pu tr rw ah br) {b : Addr} (hb : H b = none) : ¬ D b := by
  obtain ⟨qs, aq, kvs, x⟩ := h
  exact x.r.not_new hb
/-- another deed that leaves it alone -/
theorem Fol.keep {H' : Hp} (h : Fol H C A D cs pu tr rw ah br) (k : ∀ b o, H b = some o → (D b ∨ ∃ xs, o = .tup xs) → H' b = some o) : Fol H' C A D cs pu tr rw ah br := by
  obtain ⟨qs, aq, kvs, x⟩ := h
  exact ⟨qs, aq, kvs, ⟨⟨x.r.co.keep fun a ha o e => k a o e (.inl (x.r.in_ ha)), x.r.re.keep (fun b xs e => k b _ e (.inr ⟨xs, rfl⟩)) fun b _ db o e => k b o e (.inl db)⟩, x.ok, x.gd, x.pt, x.kl, x.cl, x.bk, x.al, x.aa, x.aw⟩⟩
theorem Fol.kp {H' : Hp} {t c : Addr} {n : Nat} (h : Fol H C A D cs pu tr rw ah br) (tp : Tape H t c n) (nt : ¬ D t) (k : Kp t H H') : Fol H' C A D cs pu tr rw ah br := h.keep fun b o e z => k b o e fun y => by
  rcases z with z | ⟨xs, rfl⟩
  · exact nt (by rw [← y]; exact z)
  · obtain ⟨ns, spot, left, tc, _⟩ := tp
    exact ne_of e tc.d (by intro z; cases z) y
end
theorem Just.more {cs cs' : List (List Int)} {pu pu' tr : List Int} {rw : List (Option Int)} (h : Just cs pu tr rw) (hc : ∀ (k : Nat) c, cs[k]? = some c → cs'[k]? = some c) (hp : ∀ m ∈ pu, m ∈ pu') : Just cs' pu' tr rw := by
  intro i m hm
  rcases h i m hm with ⟨a, b⟩ | ⟨k, c, a, b, d⟩
  · exact .inl ⟨a, hp m b⟩
  · exact .inr ⟨k, c, a, hc k c b, d⟩
theorem Okay.more {cs cs' : List (List Int)} {pu pu' tr : List Int} {rw : List (Option Int)} (h : Okay cs pu tr rw) (hc : ∀ (k : Nat) c, cs[k]? = some c → cs'[k]? = some c) (hp : ∀ m ∈ pu, m ∈ pu') : Okay cs' pu' tr rw := ⟨h.nd, h.con, h.just.more hc hp, h.len⟩
theorem AhAt.ext {cs : List (List Int)} {pu tr : List Int} {rw : List (Option Int)} {k : Nat} {z : Int × Int} (h : AhAt cs pu tr rw k z) (len : rw.length = tr.length) (nw : List Int) (mr : List (Option Int)) : AhAt cs pu (tr ++ nw) (rw ++ mr) k z := by
  obtain ⟨a, n, e, ha, hn, hc, hp, hr⟩ := h.ex
  have t : (tr ++ nw).take a = tr.take a := List.take_append_of_le_length ha
  refine ⟨a, n, e, by rw [List.length_append]; omega, hn, by rw [t]; exact hc, by rw [t]; exact hp, fun i hi e1 m e2 => ?_⟩
  rw [List.getElem?_append_left (by omega)] at e1 e2
  exact hr i hi e1 m e2
theorem AhAt.puts {cs : List (List Int)} {pu tr : List Int} {rw : List (Option Int)} {k : Nat} {z : Int × Int} (h : AhAt cs pu tr rw k z) (m : Int) (hk : k ≤ pu.length) : AhAt cs (pu ++ [m]) tr rw k z := by
  obtain ⟨a, n, e, ha, hn, hc, hp, hr⟩ := h.ex
  have t : (pu ++ [m]).take k = pu.take k := List.take_append_of_le_length hk
  exact ⟨a, n, e, ha, hn, hc, by rw [t]; exact hp, by rw [t]; exact hr⟩
theorem AhAt.cls {cs : List (List Int)} {pu tr : List Int} {rw : List (Option Int)} {k : Nat} {z : Int × Int} (h : AhAt cs pu tr rw k z) (c : List Int) : AhAt (cs ++ [c]) pu tr rw k z := by
  obtain ⟨a, n, e, ha, hn, hc, hp, hr⟩ := h.ex
  have t : (cs ++ [c]).take n = cs.take n := List.take_append_of_le_length hn
  exact ⟨a, n, e, ha, by rw [List.length_append]; omega, by rw [t]; exact hc, hp, hr⟩
/-- the list of what came -/
structure News (H H' : Hp) (D : Addr → Prop) (p : Addr) (tr tr' : List Int) (m : Option Int) (ys : List Int) : Prop where
  np : H p = none
  hp : H' p = some (.lst ((byAbs ys).map V.int))
  nd : ys.Nodup
  con : ∀ x ∈ ys, -x ∉ ys
  iff : ∀ x, x ∈ ys ↔ x ∈ tr' ∧ x ∉ tr ∧ some x ≠ m
def Told (H H' : Hp) (D : Addr → Prop) (tr tr' : List Int) (m : Option Int) (br : Option Int) (v : V) : Prop :=
  (∃ r, br = some r ∧ v = .non) ∨ (br = none ∧ ∃ p ys, v = .ref p ∧ News H H' D p tr tr' m ys)
def spPut (C : Addr) : Sp := fun vs H Q _ => ∃ (A : FA) (D : Addr → Prop) (cs : List (List Int)) (pu tr : List Int) (rw : List (Option Int)) (ah : List (Int × Int)) (m : Int),
  vs = [.ref A.f, .int m] ∧ Fol H C A D cs pu tr rw ah none ∧ m ≠ 0 ∧ m ∉ pu ∧ -m ∉ pu ∧ pu.length < 100000 ∧
  ∀ (H' : Hp) (tr' : List Int) (rw' : List (Option Int)) (ah' : List (Int × Int)) (br' : Option Int) (v : V), Fol H' C A D cs (pu ++ [m]) tr' rw' ah' br' → Fr D D H H' → Told H H' D tr tr' (some m) br' v → Q v H'
section
variable {P : Program} {w : World} {K : PySem.W.Frag} {mg : Str → Option Value} {base : Heap}
theorem hm_put {cs : Nat → Addr} (T : Top K mg cs) (h_Follower__refuse_broken : HasM P w K mg base (cs 0) 1 "_refuse_broken" ["self"] (spRefuse (cs 0))) (h_Follower__row_of : HasM P w K mg base (cs 0) 1 "_row_of" ["self", "mark"] (spRowOf (cs 0)))
    (h_Follower__bring : HasM P w K mg base (cs 0) 2 "_bring" ["self", "mark", "row"] (spBring (cs 0))) (h_Follower__settle : HasM P w K mg base (cs 0) 3 "_settle" ["self", "numbers"] (spSettle (cs 0)))
    (h_Follower__news : HasM P w K mg base (cs 0) 1 "_news" ["self", "ahead"] (spNews (cs 0))) : HasM P w K mg base (cs 0) 4 "put" ["self", "mark"] (spPut (cs 0)) := by
  refine has_ofM T.m_Follower_put sc_Follower_put bd_Follower_put (fun vs H Q E h => ?_) (fun f cdv Ar outer s H vs Q E hr h => ?_)
  · obtain ⟨A, D, ks, pu, tr, rw, ah, m, rfl, _⟩ := h
    rfl
  · have hu := hu_of hr
    have nd := sc_Follower_put.nd
    obtain ⟨A, D, ks, pu, tr, rw, ah, m, rfl, ⟨qs, aq, kvs, X⟩, m0, m1, m2, pl, k⟩ := h
    have F := X.r
    refine ⟨_, (pss_cons (ps_expr (pe_hasM0 T.cl_Follower h_Follower__refuse_broken (hr.mono (by omega)) (pv 0)))
    (pss_cons (ps_if (PW.pt (pw_or (pt_cmp (pc_din hu (pv 1) (pe_fld (pv 0) rfl))) (pw_or1 (pt_cmp (pc_din hu (pe_un un_neg (pv 1)) (pe_fld (pv 0) rfl)))))) (pss_one ps_never) pss_nil)
    (pss_cons (ps_set (i := 2) nd rfl (.inl rfl) (pe_callB call_len_seq (by rfl) T.b_len (by decide +kernel) (pa_cons (pe_fld (pv 0) rfl) pa_nil)))
    (pss_cons (ps_expr (pe_bm PySem.F.plainAttrs_list PySem.F.slot_list_append PySem.F.type_list_append mt_append (pe_fld (pv 0) rfl) (pa_cons (pv 1) pa_nil)))
    (pss_cons (ps_dput hu (pe_fld (pv 0) rfl) (pv 1) pe_bl rfl)
    (pss_cons (ps_expr (pe_bm PySem.F.plainAttrs_list PySem.F.slot_list_append PySem.F.type_list_append mt_append (pe_fld (pv 0) rfl) (pa_cons (pe_tup (pa_cons (pv 2) (pa_cons (pe_callB call_len_seq (by rfl) T.b_len (by decide +kernel) (pa_cons (pe_fld (pv 0) rfl) pa_nil)) pa_nil))) pa_nil)))
    (C8.pss_cut (ps_if (pt_cmp (pc_din hu (pe_un un_neg (pv 1)) (pe_fld (pv 0) rfl))) (pss_one (ps_fld (pv 0) (pe_hasM T.cl_Follower h_Follower__row_of (hr.mono (by omega)) (pv 0) (pa_cons (pe_un un_neg (pv 1)) pa_nil)) rfl)) (pss_one (ps_if (pt_cmp (pc_dnotin hu (pv 1) (pe_fld (pv 0) rfl))) (pss_one (ps_expr (pe_hasM T.cl_Follower h_Follower__settle (hr.mono (by omega)) (pv 0) (pa_cons (pe_hasM T.cl_Follower h_Follower__bring (hr.mono (by omega)) (pv 0) (pa_cons (pv 1) (pa_cons pe_non pa_nil))) pa_nil)))) pss_nil)))
    (pss_one (ps_ret (pe_hasM T.cl_Follower h_Follower__news (hr.mono (by omega)) (pv 0) (pa_cons (pe_op op_add (pv 2) pe_int) pa_nil))))))))))), ?_⟩
    have line : 1100000 < sizeLine := by decide
    have tl := X.ok.small
    have gfl := X.gd.fl
    obtain ⟨cl1, cl2⟩ := X.cl rfl
    refine ⟨_, rfl, A.f, A.dx, _, rfl, F.ins, rfl, A, rfl, F.ins, ?_⟩
    refine ⟨_, rfl, _, rfl, A.f, cs 0, A.dx, _, _, rfl, F.ins, T.cl_Follower, T.n_Follower__is_put, rfl, A.ip, _, rfl, DGet.k (k := Sum.inl m) F.ipd, _, rfl, ?_⟩
    rw [tru_some, decide_eq_false m1]
    refine iteF ⟨_, rfl, m, rfl, _, rfl, A.f, cs 0, A.dx, _, _, rfl, F.ins, T.cl_Follower, T.n_Follower__is_put, rfl, A.ip, _, rfl, DGet.k (k := Sum.inl (-m)) F.ipd, _, rfl, ?_⟩
    rw [tru_some, decide_eq_false m2]
    refine iteF ⟨_, rfl, A.f, cs 0, A.dx, _, _, rfl, F.ins, T.cl_Follower, T.n_Follower__trail, rfl, A.tr, _, rfl, .inl (SqL.of F.trl), ?_⟩
    -- puts, is_put
    refine ⟨_, rfl, A.f, cs 0, A.dx, _, _, rfl, F.ins, T.cl_Follower, T.n_Follower__puts, rfl, .inl ⟨rfl, _, SqL.of F.pul⟩, _, rfl, A.pu, _, _, rfl, rfl, F.pul, by rw [List.length_map]; omega, ?_⟩
    have c1 := F.co.put 7 rfl (.lst (pu.map V.int ++ [.int m]))
    have r1 := F.re.core (by simp [fas]) F.pul (fun xs z => by cases z) (.lst (pu.map V.int ++ [.int m]))
    have f1 : Fr D D H (upd H A.pu (.lst (pu.map V.int ++ [.int m]))) := Fr.upd (F.in_ (by simp [fas]))
    generalize upd H A.pu (.lst (pu.map V.int ++ [.int m])) = H1 at c1 r1 f1
    rw [ints_snoc] at c1
    have i1 : H1 A.f = some (.ins (cs 0) A.dx (fl A none)) := c1.at_ 0 _ _ rfl rfl
    have t1 : H1 A.ip = some (.dK (tru pu)) := c1.at_ 8 _ _ rfl rfl
    refine ⟨_, rfl, A.f, cs 0, A.dx, _, _, rfl, i1, T.cl_Follower, T.n_Follower__is_put, rfl, _, rfl, A.ip, _, rfl, DPut.k (k := Sum.inl m) t1 (by unfold tru; rw [List.length_map]; omega), ?_⟩
    rw [tru_put, show ins pu m = pu ++ [m] from if_neg m1]
    have c2 := c1.put 8 rfl (.dK (tru (pu ++ [m])))
    have r2 := r1.core (a := A.ip) (by simp [fas]) t1 (fun xs z => by cases z) (.dK (tru (pu ++ [m])))
    have f2 : Fr D D H (upd H1 A.ip (.dK (tru (pu ++ [m])))) := f1.trans (Fr.upd (F.in_ (by simp [fas]))) fun _ h => h
    generalize upd H1 A.ip (.dK (tru (pu ++ [m]))) = H2 at c2 r2 f2
    -- ahead
    have i2 : H2 A.f = some (.ins (cs 0) A.dx (fl A none)) := c2.at_ 0 _ _ rfl rfl
    have l2 : H2 A.cl = some (.lst (qs.map V.ref)) := c2.at_ 1 _ _ rfl rfl
    have a2 : H2 A.ah = some (.lst (aq.map V.ref)) := c2.at_ 9 _ _ rfl rfl
    have an := F.re.an
    have al := X.al
    refine ⟨_, rfl, A.f, cs 0, A.dx, _, _, rfl, i2, T.cl_Follower, T.n_Follower__ahead, rfl, .inl ⟨rfl, _, SqL.of a2⟩, _, rfl, _, rfl, A.f, cs 0, A.dx, _, _, rfl, i2, T.cl_Follower, T.n_Follower__clauses, rfl, A.cl, _, rfl, .inl (SqL.of l2), by show 2 ≤ sizeLine; decide, fun z hz => ?_⟩
    have s3 : Same H2 (upd H2 z (.tup [.int ((tr.map V.int).length : Nat), .int ((qs.map V.ref).length : Nat)])) := same_new hz
    have nz : ¬ D z := fun y => by
      obtain ⟨u, e⟩ := F.known y
      rcases (F.re.dd z).mp y with y | ⟨x, y⟩
      · obtain ⟨u, _, e⟩ := c2.has y
        rw [hz] at e
        cases e
      · rcases r2.hv.at_ x with ⟨e, _⟩ | ⟨l, e, hl, _⟩
        · rw [y] at e
          cases e
        · rw [y] at e
          cases e
          rw [hz] at hl
          cases hl
    refine ⟨A.ah, _, _, rfl, rfl, s3 _ _ a2, by rw [List.length_map]; omega, ?_⟩
    have c3 := (c2.same s3).put 9 rfl (.lst (aq.map V.ref ++ [.ref z]))
    have r3 := (r2.same s3).core (a := A.ah) (by simp [fas]) (s3 _ _ a2) (fun xs z => by cases z) (.lst (aq.map V.ref ++ [.ref z]))
    have f3 : Fr D D H (upd (upd H2 z (.tup [.int ((tr.map V.int).length : Nat), .int ((qs.map V.ref).length : Nat)])) A.ah (.lst (aq.map V.ref ++ [.ref z]))) := (f2.trans (Fr.same s3) fun _ h => h).trans (Fr.upd (F.in_ (by simp [fas]))) fun _ h => h
    have hz3 : (upd (upd H2 z (.tup [.int ((tr.map V.int).length : Nat), .int ((qs.map V.ref).length : Nat)])) A.ah (.lst (aq.map V.ref ++ [.ref z]))) z = some (.tup [.int ((tr.map V.int).length : Nat), .int ((qs.map V.ref).length : Nat)]) := by
      rw [upd_ne (fun y => nz (by rw [y]; exact F.in_ (by simp [fas]))), upd_same]
    generalize upd (upd H2 z (.tup [.int ((tr.map V.int).length : Nat), .int ((qs.map V.ref).length : Nat)])) A.ah (.lst (aq.map V.ref ++ [.ref z])) = H3 at c3 r3 f3 hz3
    rw [refs_snoc] at c3
    have cn := F.re.cn
    rw [List.length_map, List.length_map, cn] at hz3
    have F3 : FolR H3 (cs 0) A D qs (aq ++ [z]) kvs ks (ks.map (offC tr)) (nums ks) tr rw (pu ++ [m]) (ah ++ [((tr.length : Int), (ks.length : Int))]) none := by
      refine ⟨c3, r3.cn, r3.ct, ?_, fun i q y hq hy => ?_, r3.hv, r3.dd⟩
      · rw [List.length_append, List.length_append, an]
        rfl
      · rcases getElem_snoc hq with ⟨_, e⟩ | ⟨e1, rfl⟩
        · rcases getElem_snoc hy with ⟨_, e2⟩ | ⟨e2, _⟩
          · exact r3.at_ i q y e e2
          · omega
        · rcases getElem_snoc hy with ⟨e2, _⟩ | ⟨_, rfl⟩
          · omega
          · exact hz3
    have pt3 := X.pt.snoc m0 m1 m2 pl
    have ok3 : Okay ks (pu ++ [m]) tr rw := X.ok.more (fun _ _ e => e) fun x hx => List.mem_append_left _ hx
    have al3 : (ah ++ [((tr.length : Int), (ks.length : Int))]).length = (pu ++ [m]).length := by
      rw [List.length_append, List.length_append, al]
      rfl
    have aa3 : ∀ k y, (ah ++ [((tr.length : Int), (ks.length : Int))])[k]? = some y → AhAt ks (pu ++ [m]) tr rw k y := fun k y hy => by
      rcases getElem_snoc hy with ⟨hl, e⟩ | ⟨hl, e⟩
      · exact (X.aa k y e).puts m (by omega)
      · subst e
        have t : (pu ++ [m]).take k = pu := by rw [hl, al, List.take_append_of_le_length (Nat.le_refl _), List.take_length]
        refine ⟨tr.length, ks.length, rfl, Nat.le_refl _, Nat.le_refl _, by rw [List.take_length, List.take_length]; exact cl1, by rw [t, List.take_length]; exact cl2, fun i hi e1 x e2 => ?_⟩
        rw [t]
        rcases X.ok.just i x e2 with ⟨_, h⟩ | ⟨k', c, h, _⟩
        · exact h
        · rw [e1] at h
          cases h
    have aw3 : (ah ++ [((tr.length : Int), (ks.length : Int))]).Pairwise fun x y => x.1 ≤ y.1 := by
      rw [List.pairwise_append]
      refine ⟨X.aw, List.pairwise_singleton _ _, fun x hx y hy => ?_⟩
      rw [List.mem_singleton] at hy
      subst hy
      obtain ⟨k', e⟩ := List.mem_iff_getElem?.mp hx
      obtain ⟨a', n', ez, ha', _⟩ := (X.aa k' x e).ex
      subst ez
      show (a' : Int) ≤ (tr.length : Int)
      omega
    -- the three ways
    refine ⟨fun σ' H' => ∃ (ext : List Int) (rw' : List (Option Int)) (br' : Option Int), σ' = [some (.ref A.f), some (.int m), some (.int ((tr.map V.int).length : Nat))] ∧ Fol H' (cs 0) A D ks (pu ++ [m]) (tr ++ ext) rw' (ah ++ [((tr.length : Int), (ks.length : Int))]) br' ∧ Fr D D H H' ∧
      (br' = none → (m ∈ tr ∧ ext = []) ∨ (m ∉ tr ∧ ∃ e', ext = m :: e')), ?_, ?_⟩
    · refine ⟨_, rfl, m, rfl, _, rfl, A.f, cs 0, A.dx, _, _, rfl, F3.ins, T.cl_Follower, T.n_Follower__place, rfl, A.pl, _, rfl, DGet.k (k := Sum.inl (-m)) F3.pld, _, rfl, ?_⟩
      rw [plD_is X.ok.nd]
      by_cases hb : -m ∈ tr
      · rw [decide_eq_true hb]
        obtain ⟨i, ei⟩ := List.mem_iff_getElem?.mp hb
        rcases X.ok.just i (-m) ei with ⟨_, h⟩ | ⟨j, c, hrw, hc, hmc, ho⟩
        · exact absurd h m2
        refine iteT ⟨_, rfl, A.f, A.dx, _, rfl, F3.ins, rfl, _, rfl, m, rfl, A, none, tr, rw, -m, i, some (j : Int), rfl, F3.ins, F3.pld, F3.rwl, X.ok.nd, ei, hrw, ?_⟩
        refine ⟨_, rfl, A.f, cs 0, A.dx, _, rfl, F3.ins, T.cl_Follower, T.n_Follower__broken_row, by show 10 < 1000; decide, ?_⟩
        rw [put_br]
        refine ⟨[], rw, some (j : Int), rfl, ⟨qs, aq ++ [z], kvs, ?_⟩, f3.trans (Fr.upd (F.in_ (by simp [fas]))) fun _ h => h, fun e => by cases e⟩
        rw [List.append_nil]
        refine ⟨F3.setBr (some (j : Int)), ok3, X.gd, pt3, X.kl, (fun e => by cases e), fun r e => ?_, al3, aa3, aw3⟩
        cases e
        refine ⟨j, c, rfl, hc, .inr ⟨m, i, List.mem_append_right _ List.mem_cons_self, fun x hx => ?_, ei, hrw, hmc, ho⟩⟩
        rcases List.mem_append.mp hx with y | y
        · exact .inr (cl2 x y)
        · exact .inl (List.mem_singleton.mp y)
      · rw [decide_eq_false hb]
        refine iteF ⟨_, rfl, _, rfl, A.f, cs 0, A.dx, _, _, rfl, F3.ins, T.cl_Follower, T.n_Follower__place, rfl, A.pl, _, rfl, DGet.k (k := Sum.inl m) F3.pld, _, rfl, ?_⟩
        rw [plD_is X.ok.nd]
        by_cases ht : m ∈ tr
        · rw [decide_eq_true ht]
          refine iteF ⟨[], rw, none, rfl, ⟨qs, aq ++ [z], kvs, ?_⟩, f3, fun _ => .inl ⟨ht, rfl⟩⟩
          rw [List.append_nil]
          refine ⟨F3, ok3, X.gd, pt3, X.kl, fun _ => ⟨cl1, fun x hx => ?_⟩, fun r e => (by cases e), al3, aa3, aw3⟩
          rcases List.mem_append.mp hx with a | a
          · exact cl2 x a
          · rw [List.mem_singleton.mp a]
            exact ht
        · rw [decide_eq_false ht]
          have rl := X.ok.len
          have gn := X.gd.n
          refine iteT ⟨_, rfl, A.f, A.dx, _, rfl, F3.ins, rfl, _, rfl, A.f, A.dx, _, rfl, F3.ins, rfl, _, rfl, A, D, qs, aq ++ [z], kvs, ks, tr, rw, pu ++ [m], _, none, m, none, rfl, F3, ht, X.gd.nd, gn, by omega, by omega, fun H5 p rd F5 np hp erd f5 => ?_⟩
          have ok5 : Okay ks (pu ++ [m]) (tr ++ [m]) (rw ++ [none]) := ok3.snoc m0 ht hb (.inl ⟨rfl, List.mem_append_right _ List.mem_cons_self⟩)
          have lrd : rd.length ≤ ks.length := by
            rw [erd]
            have a1 := List.length_filter_le (fun i => decide ((left (tr ++ [m]) (ks.getD i [])).length ≤ 1)) (nums ks (-m))
            have a2 : (nums ks (-m)).length ≤ ks.length := by
              unfold nums
              have := List.length_filter_le (fun i => decide (-m ∈ ks.getD i [])) (List.range ks.length)
              rw [List.length_range] at this
              exact this
            omega
          refine ⟨A, D, qs, aq ++ [z], kvs, ks, tr ++ [m], rw ++ [none], pu ++ [m], _, p, rd, rfl, F5, hp, fun i hi => ?_, ok5, X.gd, fun i c hc hi => ?_, by omega, by rw [List.length_append]; exact pl, fun H6 nw mr br6 F6 ok6 cl6 bk6 f6 => ?_⟩
          · rw [erd] at hi
            obtain ⟨c, hc, _⟩ := mem_nums.mp (List.mem_filter.mp hi).1
            exact (List.getElem?_eq_some_iff.mp hc).1
          · by_cases hm : -m ∈ c
            · refine quiet_big ?_
              by_cases g : (left (tr ++ [m]) (ks.getD i [])).length ≤ 1
              · exact absurd (by rw [erd]; exact List.mem_filter.mpr ⟨mem_nums.mpr ⟨c, hc, hm⟩, decide_eq_true g⟩) hi
              · rw [List.getD_eq_getElem?_getD, hc] at g
                have g' : ¬ (left (tr ++ [m]) c).length ≤ 1 := g
                omega
            · exact quiet_other hm (cl1 c (List.mem_of_getElem? hc))
          · have assoc : tr ++ [m] ++ nw = tr ++ (m :: nw) := by rw [List.append_assoc]; rfl
            have assoc2 : rw ++ [none] ++ somes mr = rw ++ (none :: somes mr) := by rw [List.append_assoc]; rfl
            rw [assoc] at F6 ok6 cl6 bk6
            rw [assoc2] at F6 ok6
            refine ⟨m :: nw, rw ++ (none :: somes mr), br6, rfl, ⟨qs, aq ++ [z], kvs, ⟨F6, ok6, X.gd, pt3, X.kl, fun e => ⟨cl6 e, fun x hx => ?_⟩, fun r e => ?_, al3, fun k' y hy => (aa3 k' y hy).ext X.ok.len _ _, aw3⟩⟩, (f3.trans f5 fun _ h => h).trans f6 fun _ h => h, fun _ => .inr ⟨ht, nw, rfl⟩⟩
            · rcases List.mem_append.mp hx with a | a
              · exact List.mem_append_left _ (cl2 x a)
              · rw [List.mem_singleton.mp a]
                exact List.mem_append_right _ List.mem_cons_self
            · obtain ⟨k', c, e1, e2, e3⟩ := bk6 r e
              refine ⟨k', c, e1, e2, .inl ⟨fun x hx => ?_, e3⟩⟩
              rcases List.mem_append.mp hx with a | a
              · exact List.mem_append_left _ (cl2 x a)
              · rw [List.mem_singleton.mp a]
                exact List.mem_append_right _ List.mem_cons_self
    · rintro σ' H4 ⟨ext, rw', br', rfl, F4, f4, hext⟩
      obtain ⟨qs', aq', kvs', X4⟩ := id F4
      refine ⟨_, rfl, A.f, A.dx, _, rfl, X4.r.ins, rfl, _, rfl, _, _, rfl, rfl, A, br', tr ++ ext, tr.length + 1, ?_, X4.r.ins, X4.r.trl, fun hbr => ?_, fun hbr H5 p hp s5 hp5 => ?_⟩
      · rw [List.length_map]
        rfl
      · cases br' with
        | none => exact absurd rfl hbr
        | some r => exact k H4 _ _ _ _ .non F4 f4 (.inl ⟨r, rfl, rfl⟩)
      · subst hbr
        have np : H p = none := by
          cases e : H p with
          | none => rfl
          | some u =>
            by_cases dp : D p
            · obtain ⟨u2, e2⟩ := X4.r.known dp
              rw [hp] at e2
              cases e2
            · rw [f4.k p u e dp] at hp
              cases hp
        have nd4 := X4.ok.nd
        have co4 := X4.ok.con
        refine k H5 _ _ _ none (.ref p) (F4.same s5) (f4.trans (Fr.same s5) fun _ h => h) (.inr ⟨rfl, p, (tr ++ ext).drop (tr.length + 1), rfl, ⟨np, hp5, nd4.sublist (List.drop_sublist _ _), fun x hx y => co4 x (List.mem_of_mem_drop hx) (List.mem_of_mem_drop y), fun x => ?_⟩⟩)
        have dis := List.nodup_append.mp nd4
        rcases hext rfl with ⟨hm, rfl⟩ | ⟨hm, e', rfl⟩
        · rw [List.append_nil, List.drop_eq_nil_of_le (by omega)]
          constructor
          · intro h; cases h
          · rintro ⟨h1, h2, _⟩
            exact absurd h1 h2
        · rw [List.drop_append, List.drop_eq_nil_of_le (by omega), List.nil_append, show tr.length + 1 - tr.length = 1 by omega, List.drop_succ_cons, List.drop_zero]
          have dm := List.nodup_cons.mp dis.2.1
          constructor
          · intro h
            exact ⟨List.mem_append_right _ (List.mem_cons_of_mem _ h), fun z => dis.2.2 x z x (List.mem_cons_of_mem _ h) rfl, fun z => dm.1 (by rw [← Option.some.inj z]; exact h)⟩
          · rintro ⟨h1, h2, h3⟩
            rcases List.mem_append.mp h1 with z | z
            · exact absurd z h2
            · exact (List.mem_cons.mp z).resolve_left fun y => h3 (by rw [y])
end

theorem Core.new {H : Hp} {as : List Addr} {obs : List HO} (h : Core H as obs) {p : Addr} (hp : H p = none) (o : HO) : Core (upd H p o) (as ++ [p]) (obs ++ [o]) := by
  refine ⟨?_, by rw [List.length_append, List.length_append, h.le]; rfl, fun i a u ha hu => ?_⟩
  · rw [List.nodup_append]
    refine ⟨h.nd, by simp, fun a ha b hb e => ?_⟩
    rw [List.mem_singleton] at hb
    obtain ⟨u, _, hu⟩ := h.has ha
    rw [e, hb, hp] at hu
    cases hu
  · rcases getElem_snoc ha with ⟨l, e⟩ | ⟨l, e⟩
    · rcases getElem_snoc hu with ⟨l2, e2⟩ | ⟨l2, e2⟩
      · have g := h.at_ i a u e e2
        rw [upd_ne (ne_of_none g hp)]
        exact g
      · have := h.le
        omega
    · rcases getElem_snoc hu with ⟨l2, e2⟩ | ⟨l2, e2⟩
      · have := h.le
        omega
      · rw [← e, ← e2, upd_same]
/-- all stays but the object itself -/
structure Mk1 (f : Addr) (H H' : Hp) : Prop where
  k : ∀ b o, H b = some o → b ≠ f → H' b = some o
theorem Mk1.new {f p : Addr} {H H' : Hp} {o : HO} (h : Mk1 f H H') (hp : H' p = none) : Mk1 f H (upd H' p o) := ⟨fun b u e n => by
  have e' := h.k b u e n
  rw [upd_ne (ne_of_none e' hp)]
  exact e'⟩
theorem Mk1.at {f : Addr} {H H' : Hp} {o : HO} (h : Mk1 f H H') : Mk1 f H (upd H' f o) := ⟨fun b u e n => by
  rw [upd_ne n]
  exact h.k b u e n⟩
theorem tru_nil : tru [] = [] := rfl
/-- one field more, a new object in it -/
theorem fld_new {H Hk : Hp} {f C dx d : Addr} {as : List Addr} {obs : List HO} {fs : List (Str × V)} {nm : Str} {o : HO} (c : Core Hk (f :: as) (.ins C dx fs :: obs)) (mk : Mk1 f H Hk) (hd : Hk d = none) :
    Core (upd (upd Hk d o) f (.ins C dx (putF nm (.ref d) fs))) (f :: (as ++ [d])) (.ins C dx (putF nm (.ref d) fs) :: (obs ++ [o])) ∧ Mk1 f H (upd (upd Hk d o) f (.ins C dx (putF nm (.ref d) fs))) :=
  ⟨(c.new hd o).put 0 rfl _, (mk.new hd).at⟩
theorem fld_put {H Hk : Hp} {f C dx : Addr} {as : List Addr} {obs : List HO} {fs : List (Str × V)} {nm : Str} {v : V} (c : Core Hk (f :: as) (.ins C dx fs :: obs)) (mk : Mk1 f H Hk) :
    Core (upd Hk f (.ins C dx (putF nm v fs))) (f :: as) (.ins C dx (putF nm v fs) :: obs) ∧ Mk1 f H (upd Hk f (.ins C dx (putF nm v fs))) := ⟨c.put 0 rfl _, mk.at⟩
theorem Mk1.fresh {f d : Addr} {H H' : Hp} (m : Mk1 f H H') (h : H' d = none) : d = f ∨ H d = none := by
  by_cases e : d = f
  · exact .inl e
  · refine .inr ?_
    cases z : H d with
    | none => rfl
    | some u =>
      rw [m.k d u z e] at h
      cases h
theorem Mk1.seq {K : PySem.W.Frag} {f a : Addr} {H H' : Hp} {xs : List V} (m : Mk1 f H H') (n : f ≠ a) (h : SqL K H a xs) : SqL K H' a xs := by
  rcases h with (h | ⟨o, h⟩) | h
  · exact .inl (.inl (m.k _ _ h n.symm))
  · exact .inl (.inr ⟨o, m.k _ _ h n.symm⟩)
  · exact .inr h
theorem take_snoc' {α : Type} {xs : List α} {i : Nat} {x : α} (h : xs[i]? = some x) : xs.take (i + 1) = xs.take i ++ [x] := by
  rw [List.take_add_one, h]
  rfl
def spInit (C : Addr) (K : PySem.W.Frag) : Sp := fun vs H Q _ => ∃ (f dx a : Addr) (qs : List Addr) (cs : List (List Int)), vs = [.ref f, .ref a] ∧ H f = some (.ins C dx []) ∧ SqL K H a (qs.map V.ref) ∧ f ≠ a ∧ qs.length = cs.length ∧
  (∀ (i : Nat) q c, qs[i]? = some q → cs[i]? = some c → H q = some (.tup (c.map V.int))) ∧ Good cs ∧ (∀ c ∈ cs, c.length ≤ 1000) ∧
  ∀ (H' : Hp) (A : FA) (D : Addr → Prop) (tr : List Int) (rw : List (Option Int)) (br : Option Int), A.f = f → Fol H' C A D cs [] tr rw [] br → Mk1 f H H' → (∀ b, D b → b = f ∨ H b = none) → Q .non H'
section
variable {P : Program} {w : World} {K : PySem.W.Frag} {mg : Str → Option Value} {base : Heap}
theorem hi_init {cs : Nat → Addr} (T : Top K mg cs) (h_Follower__take_in : HasM P w K mg base (cs 0) 1 "_take_in" ["self", "clause"] (spTake (cs 0))) (h_Follower__settle : HasM P w K mg base (cs 0) 3 "_settle" ["self", "numbers"] (spSettle (cs 0))) :
    HasI P w K mg base (cs 0) 4 "Follower" ["self", "clauses"] (spInit (cs 0) K) := by
  refine has_ofI T.g_Follower T.i_Follower sc_Follower___init__ bd_Follower___init__ (fun vs H Q E h => ?_) (fun f cdv Ar outer s H vs Q E hr h => ?_)
  · obtain ⟨f, dx, a, qs, ks, rfl, _⟩ := h
    rfl
  · have hu := hu_of hr
    have nd := sc_Follower___init__.nd
    obtain ⟨f, dx, a, qs, ks, rfl, hf, ha, nfa, cn, ct, gd, few, k⟩ := h
    refine ⟨_, (pss_cons (ps_fld (pv 0) (pe_lst pa_nil) rfl)
    (pss_cons (ps_fld (pv 0) (pe_lst pa_nil) rfl)
    (pss_cons (ps_fld (pv 0) pe_dnewK rfl)
    (pss_cons (ps_fld (pv 0) (pe_lst pa_nil) rfl)
    (pss_cons (ps_fld (pv 0) pe_dnewK rfl)
    (pss_cons (ps_fld (pv 0) (pe_lst pa_nil) rfl)
    (pss_cons (ps_fld (pv 0) (pe_lst pa_nil) rfl)
    (pss_cons (ps_fld (pv 0) pe_dnewK rfl)
    (pss_cons (ps_fld (pv 0) (pe_lst pa_nil) rfl)
    (pss_cons (ps_fld (pv 0) pe_non rfl)
    (pss_cons (ps_for PassesOwn.never rfl (pi_list (pv 1)) (pg_name (i := 2) nd rfl (.inl rfl))
      (pss_one (ps_expr (pe_hasM T.cl_Follower h_Follower__take_in (hr.mono (by omega)) (pv 0) (pa_cons (pv 2) pa_nil)))))
    (pss_one (ps_expr (pe_hasM T.cl_Follower h_Follower__settle (hr.mono (by omega)) (pv 0) (pa_cons (pe_listRg rfl (by rfl) T.b_list (prg_1 (by rfl) T.b_range (pe_callB call_len_seq (by rfl) T.b_len (by decide +kernel) (pa_cons (pe_fld (pv 0) rfl) pa_nil)))) pa_nil))))))))))))))), ?_⟩
    have m0 : Mk1 f H H := ⟨fun _ _ e _ => e⟩
    have c0 : Core H [f] [.ins (cs 0) dx []] := by
      refine ⟨by simp, rfl, fun i b o hb ho => ?_⟩
      cases i with
      | zero => cases hb; cases ho; exact hf
      | succ i => simp at hb
    refine ⟨by show 0 ≤ sizeLine; decide, fun d1 n1 => ⟨_, rfl, f, cs 0, dx, _, rfl, (c0.new n1 _).at_ 0 _ _ rfl rfl, T.cl_Follower, T.n_Follower__clauses, by show 0 < 1000; decide, ?_⟩⟩
    obtain ⟨c1, m1⟩ := fld_new (nm := "_clauses") (o := .lst []) c0 m0 n1
    generalize upd (upd H d1 (.lst [])) f _ = H1 at c1 m1 ⊢
    refine ⟨by show 0 ≤ sizeLine; decide, fun d2 n2 => ⟨_, rfl, f, cs 0, dx, _, rfl, (c1.new n2 _).at_ 0 _ _ rfl rfl, T.cl_Follower, T.n_Follower__offs, by show 1 < 1000; decide, ?_⟩⟩
    obtain ⟨c2, m2⟩ := fld_new (nm := "_offs") (o := .lst []) c1 m1 n2
    generalize upd (upd H1 d2 (.lst [])) f _ = H2 at c2 m2 ⊢
    intro d3 n3
    refine ⟨_, rfl, f, cs 0, dx, _, rfl, (c2.new n3 _).at_ 0 _ _ rfl rfl, T.cl_Follower, T.n_Follower__having, by show 2 < 1000; decide, ?_⟩
    obtain ⟨c3, m3⟩ := fld_new (nm := "_having") (o := .dK []) c2 m2 n3
    generalize upd (upd H2 d3 (.dK [])) f _ = H3 at c3 m3 ⊢
    refine ⟨by show 0 ≤ sizeLine; decide, fun d4 n4 => ⟨_, rfl, f, cs 0, dx, _, rfl, (c3.new n4 _).at_ 0 _ _ rfl rfl, T.cl_Follower, T.n_Follower__trail, by show 3 < 1000; decide, ?_⟩⟩
    obtain ⟨c4, m4⟩ := fld_new (nm := "_trail") (o := .lst []) c3 m3 n4
    generalize upd (upd H3 d4 (.lst [])) f _ = H4 at c4 m4 ⊢
    intro d5 n5
    refine ⟨_, rfl, f, cs 0, dx, _, rfl, (c4.new n5 _).at_ 0 _ _ rfl rfl, T.cl_Follower, T.n_Follower__place, by show 4 < 1000; decide, ?_⟩
    obtain ⟨c5, m5⟩ := fld_new (nm := "_place") (o := .dK []) c4 m4 n5
    generalize upd (upd H4 d5 (.dK [])) f _ = H5 at c5 m5 ⊢
    refine ⟨by show 0 ≤ sizeLine; decide, fun d6 n6 => ⟨_, rfl, f, cs 0, dx, _, rfl, (c5.new n6 _).at_ 0 _ _ rfl rfl, T.cl_Follower, T.n_Follower__rows, by show 5 < 1000; decide, ?_⟩⟩
    obtain ⟨c6, m6⟩ := fld_new (nm := "_rows") (o := .lst []) c5 m5 n6
    generalize upd (upd H5 d6 (.lst [])) f _ = H6 at c6 m6 ⊢
    refine ⟨by show 0 ≤ sizeLine; decide, fun d7 n7 => ⟨_, rfl, f, cs 0, dx, _, rfl, (c6.new n7 _).at_ 0 _ _ rfl rfl, T.cl_Follower, T.n_Follower__puts, by show 6 < 1000; decide, ?_⟩⟩
    obtain ⟨c7, m7⟩ := fld_new (nm := "_puts") (o := .lst []) c6 m6 n7
    generalize upd (upd H6 d7 (.lst [])) f _ = H7 at c7 m7 ⊢
    intro d8 n8
    refine ⟨_, rfl, f, cs 0, dx, _, rfl, (c7.new n8 _).at_ 0 _ _ rfl rfl, T.cl_Follower, T.n_Follower__is_put, by show 7 < 1000; decide, ?_⟩
    obtain ⟨c8, m8⟩ := fld_new (nm := "_is_put") (o := .dK []) c7 m7 n8
    generalize upd (upd H7 d8 (.dK [])) f _ = H8 at c8 m8 ⊢
    refine ⟨by show 0 ≤ sizeLine; decide, fun d9 n9 => ⟨_, rfl, f, cs 0, dx, _, rfl, (c8.new n9 _).at_ 0 _ _ rfl rfl, T.cl_Follower, T.n_Follower__ahead, by show 8 < 1000; decide, ?_⟩⟩
    obtain ⟨c9, m9⟩ := fld_new (nm := "_ahead") (o := .lst []) c8 m8 n9
    generalize upd (upd H8 d9 (.lst [])) f _ = H9 at c9 m9 ⊢
    refine ⟨_, rfl, f, cs 0, dx, _, rfl, c9.at_ 0 _ _ rfl rfl, T.cl_Follower, T.n_Follower__broken_row, by show 9 < 1000; decide, ?_⟩
    obtain ⟨c10, m10⟩ := fld_put (nm := "_broken_row") (v := .non) c9 m9
    generalize upd H9 f _ = HA at c10 m10 ⊢
    have cA : Core HA (fas ⟨f, dx, d1, d2, d3, d4, d5, d6, d7, d8, d9⟩) [.ins (cs 0) dx (fl ⟨f, dx, d1, d2, d3, d4, d5, d6, d7, d8, d9⟩ none), .lst [], .lst [], .dK [], .lst [], .dK [], .lst [], .lst [], .dK [], .lst []] := c10
    have own : ∀ b ∈ fas ⟨f, dx, d1, d2, d3, d4, d5, d6, d7, d8, d9⟩, b = f ∨ H b = none := by
      intro b hb
      simp only [fas, List.mem_cons, List.not_mem_nil, or_false] at hb
      rcases hb with rfl | rfl | rfl | rfl | rfl | rfl | rfl | rfl | rfl | rfl
      · exact .inl rfl
      · exact m0.fresh n1
      · exact m1.fresh n2
      · exact m2.fresh n3
      · exact m3.fresh n4
      · exact m4.fresh n5
      · exact m5.fresh n6
      · exact m6.fresh n7
      · exact m7.fresh n8
      · exact m8.fresh n9
    have edx : (⟨f, dx, d1, d2, d3, d4, d5, d6, d7, d8, d9⟩ : FA).dx = dx := rfl
    have ef : (⟨f, dx, d1, d2, d3, d4, d5, d6, d7, d8, d9⟩ : FA).f = f := rfl
    generalize (⟨f, dx, d1, d2, d3, d4, d5, d6, d7, d8, d9⟩ : FA) = A at cA own edx ef
    clear c0 c1 c2 c3 c4 c5 c6 c7 c8 c9 c10 n1 n2 n3 n4 n5 n6 n7 n8 n9 m1 m2 m3 m4 m5 m6 m7 m8 m9
    subst edx ef
    have F0 : FolR HA (cs 0) A (fun b => b ∈ fas A) (qs.take 0) [] [] (ks.take 0) ((ks.take 0).map (offC [])) (nums (ks.take 0)) [] [] [] [] none := by
      refine ⟨cA, rfl, fun i q c hq => by simp at hq, rfl, fun i q z hq => by simp at hq, ⟨fun m => .inl ⟨rfl, rfl⟩, fun m m' l e => by cases e⟩, fun b => ⟨fun h => .inl h, fun h => h.elim id fun ⟨m, e⟩ => by cases e⟩⟩
    refine ⟨_, rfl, a, rfl, ⟨_, m10.seq nfa ha⟩, for_list (K := K) (a := a) (xs := qs.map V.ref) (fun i σ H' => ∃ v2 D' kvs', σ = [some (.ref A.f), some (.ref a), v2] ∧
      FolR H' (cs 0) A D' (qs.take i) [] kvs' (ks.take i) ((ks.take i).map (offC [])) (nums (ks.take i)) [] [] [] [] none ∧ kvs'.length ≤ (ks.take i).flatten.length ∧ Mk1 A.f H H' ∧ (∀ b, D' b → b = A.f ∨ H b = none)) ⟨none, _, [], rfl, F0, Nat.zero_le _, m10, own⟩ ?_ ?_ ?_⟩
    · rintro i σ H' _ ⟨_, _, _, _, _, _, m', _⟩
      exact m'.seq nfa ha
    · rintro i x σ H1 hi ⟨v2, D1, kv1, rfl, F1, l1, m1, o1⟩
      rw [List.getElem?_map] at hi
      cases eq : qs[i]? with
      | none => rw [eq] at hi; cases hi
      | some q =>
        rw [eq] at hi
        cases hi
        have hil := (List.getElem?_eq_some_iff.mp eq).1
        have ec : ks[i]? = some ks[i] := List.getElem?_eq_getElem (by omega)
        generalize ks[i] = c at ec
        have hcm := List.mem_of_getElem? ec
        have hq := ct i q c eq ec
        have hq1 := m1.k q _ hq (ne_of hq hf (by intro z; cases z))
        have ltk : (ks.take i).length ≤ 100000 := Nat.le_trans (List.length_take_le' i ks) gd.n
        have efl : (ks.take (i + 1)).flatten.length = (ks.take i).flatten.length + c.length := by
          rw [take_snoc' ec, List.flatten_append, List.length_append, List.flatten_cons, List.flatten_nil, List.append_nil]
        have lfl : (ks.take i).flatten.length ≤ 800000 := by
          have := gd.fl
          have e : ks.flatten = (ks.take i).flatten ++ (ks.drop i).flatten := by rw [← List.flatten_append, List.take_append_drop]
          rw [e, List.length_append] at this
          omega
        refine ⟨_, rfl, A.f, A.dx, _, rfl, F1.ins, rfl, _, rfl, A, D1, qs.take i, [], kv1, ks.take i, [], [], [], [], none, q, c, rfl, F1, hq1, gd.nd c hcm, List.nodup_nil, ltk, few c hcm, by omega, fun H2 D2 kv2 F2 l2 f2 d2 => ⟨_, D2, kv2, rfl, ?_, by omega, ⟨fun b u e n => f2.k b u (m1.k b u e n) fun z => ?_⟩, fun b hb => ?_⟩⟩
        · rw [take_snoc' eq, take_snoc' ec]
          exact F2
        · rcases o1 b z with y | y
          · exact n y
          · rw [y] at e
            cases e
        · rcases f2.d b hb with y | y
          · exact o1 b y
          · exact m1.fresh y
    · rintro σ H1 ⟨v2, D1, kv1, rfl, F1, l1, m1, o1⟩
      rw [List.length_map, List.take_length] at F1
      rw [cn, List.take_length] at F1
      rw [List.length_map, cn, List.take_length] at l1
      have gn := gd.n
      have ll : (qs.map V.ref).length = ks.length := by rw [List.length_map, cn]
      refine ⟨_, rfl, A.f, A.dx, _, rfl, F1.ins, rfl, _, rfl, A.f, cs 0, A.dx, _, _, rfl, F1.ins, T.cl_Follower, T.n_Follower__clauses, rfl, A.cl, _, rfl, .inl (SqL.of F1.cl), _, rfl, RgOk.of_le (by omega) (by omega) (by omega) (by omega), fun p hp => ?_⟩
      rw [ll]
      have erg : rgV 0 (ks.length : Int) = (List.range ks.length).map fun i => V.int (i : Nat) := by
        unfold rgV
        rw [show ((ks.length : Int) - 0).toNat = ks.length by omega]
        refine List.map_congr_left fun i _ => ?_
        rw [Int.zero_add]
      rw [erg]
      have s2 : Same H1 (upd H1 p (.lst ((List.range ks.length).map fun i => V.int (i : Nat)))) := same_new hp
      have ok0 : Okay ks [] [] [] := ⟨List.nodup_nil, (fun m hm => by cases hm), (fun i m hm => by simp at hm), rfl⟩
      refine ⟨A, D1, qs, [], kv1, ks, [], [], [], [], p, List.range ks.length, rfl, F1.same s2, upd_same, fun i hi => List.mem_range.mp hi, ok0, gd, fun i c hc hi => absurd (List.mem_range.mpr (List.getElem?_eq_some_iff.mp hc).1) hi, by rw [List.length_range]; exact gn, by decide, fun H3 nw mr br F3 ok3 cl3 bk3 f3 => ?_⟩
      have f13 : Fr D1 D1 H1 H3 := (Fr.same s2).trans f3 fun _ h => h
      refine k H3 A D1 _ _ br rfl ⟨qs, [], kv1, ⟨F3, ok3, gd, ⟨List.nodup_nil, fun m hm => (by cases hm), by decide⟩, l1, fun e => ⟨cl3 e, fun m hm => (by cases hm)⟩, fun r e => ?_, rfl, (fun k z hz => (by simp at hz)), List.Pairwise.nil⟩⟩ ⟨fun b u e n => f13.k b u (m1.k b u e n) fun z => ?_⟩ o1
      · obtain ⟨k', c, e1, e2, e3⟩ := bk3 r e
        exact ⟨k', c, e1, e2, .inl ⟨fun x hx => (by cases hx), e3⟩⟩
      · rcases o1 b z with y | y
        · exact n y
        · rw [y] at e
          cases e
end

/-! ### offs, told back -/
def oK (cs : List (List Int)) (tr : List Int) (m : Int) (L : List Nat) : List Int := (List.range cs.length).map fun i => if i ∈ L then offC tr (cs.getD i []) else offC (tr ++ [m]) (cs.getD i [])
theorem oK_zero (cs : List (List Int)) (tr : List Int) (m : Int) : oK cs tr m [] = cs.map (offC (tr ++ [m])) := by
  unfold oK
  simp only [List.not_mem_nil, if_false]
  exact range_getD cs (offC (tr ++ [m]))
theorem oK_end (cs : List (List Int)) (tr : List Int) (m : Int) : oK cs tr m (nums cs (-m)) = cs.map (offC tr) := by
  rw [← range_getD cs (offC tr)]
  unfold oK
  refine List.map_congr_left fun i hi => ?_
  have hl := List.mem_range.mp hi
  by_cases h : i ∈ nums cs (-m)
  · rw [if_pos h]
  · rw [if_neg h]
    refine off_other fun z => h (mem_nums.mpr ⟨cs[i], List.getElem?_eq_getElem hl, ?_⟩)
    rw [List.getD_eq_getElem?_getD, List.getElem?_eq_getElem hl] at z
    exact z
theorem oK_len (cs : List (List Int)) (tr : List Int) (m : Int) (L : List Nat) : (oK cs tr m L).length = cs.length := by
  unfold oK
  rw [List.length_map, List.length_range]
theorem oK_at {cs : List (List Int)} {tr : List Int} {m : Int} {L : List Nat} {i : Nat} {c : List Int} (h : cs[i]? = some c) : (oK cs tr m L)[i]? = some (if i ∈ L then offC tr c else offC (tr ++ [m]) c) := by
  have hl := (List.getElem?_eq_some_iff.mp h).1
  unfold oK
  rw [List.getElem?_map, List.getElem?_range hl]
  have e : cs.getD i [] = c := by
    rw [List.getD_eq_getElem?_getD, h]
    rfl
  show some (if i ∈ L then offC tr (cs.getD i []) else offC (tr ++ [m]) (cs.getD i [])) = some _
  rw [e]
theorem oK_set {cs : List (List Int)} {tr : List Int} {m : Int} {L : List Nat} {i : Nat} {c : List Int} (h : cs[i]? = some c) : (oK cs tr m L).set i (offC tr c) = oK cs tr m (L ++ [i]) := by
  have hl := (List.getElem?_eq_some_iff.mp h).1
  refine List.ext_getElem? fun j => ?_
  by_cases e : i = j
  · subst e
    rw [List.getElem?_set_self (by rw [oK_len]; exact hl), oK_at h, if_pos (List.mem_append_right _ List.mem_cons_self)]
  · rw [List.getElem?_set_ne e]
    by_cases hj : j < cs.length
    · rw [oK_at (List.getElem?_eq_getElem hj), oK_at (List.getElem?_eq_getElem hj)]
      by_cases z : j ∈ L
      · rw [if_pos z, if_pos (List.mem_append_left _ z)]
      · rw [if_neg z, if_neg fun y => (List.mem_append.mp y).elim z fun y => e (List.mem_singleton.mp y).symm]
    · rw [List.getElem?_eq_none (by rw [oK_len]; omega), List.getElem?_eq_none (by rw [oK_len]; omega)]

def spPutsM (C : Addr) : Sp := fun vs H Q _ => ∃ (A : FA) (br : Option Int) (pu : List Int), vs = [.ref A.f] ∧ H A.f = some (.ins C A.dx (fl A br)) ∧ H A.pu = some (.lst (pu.map V.int)) ∧
  (∀ H' p, H p = none → Same H H' → H' p = some (.lst (pu.map V.int)) → Q (.ref p) H')
def spClsM (C : Addr) : Sp := fun vs H Q _ => ∃ (A : FA) (br : Option Int) (qs : List Addr), vs = [.ref A.f] ∧ H A.f = some (.ins C A.dx (fl A br)) ∧ H A.cl = some (.lst (qs.map V.ref)) ∧
  (∀ H' p, H p = none → Same H H' → H' p = some (.lst (qs.map V.ref)) → Q (.ref p) H')
/-- the last mark is taken off the trail -/
def spOff (C : Addr) : Sp := fun vs H Q _ => ∃ (A : FA) (D : Addr → Prop) (qs aq : List Addr) (kvs : List (Key × V)) (cs : List (List Int)) (tr : List Int) (rw : List (Option Int)) (pu : List Int) (ah : List (Int × Int)) (br : Option Int) (m : Int) (r : Option Int),
  vs = [.ref A.f] ∧ FolR H C A D qs aq kvs cs (cs.map (offC (tr ++ [m]))) (nums cs) (tr ++ [m]) (rw ++ [r]) pu ah br ∧ m ∉ tr ∧ (∀ c ∈ cs, c.Nodup) ∧ tr.Nodup ∧ cs.length ≤ 100000 ∧
  ∀ (H' : Hp), FolR H' C A D qs aq kvs cs (cs.map (offC tr)) (nums cs) tr rw pu ah br → Fr D D H H' → Q .non H'
section
variable {P : Program} {w : World} {K : PySem.W.Frag} {mg : Str → Option Value} {base : Heap}
theorem hm_off {cs : Nat → Addr} (T : Top K mg cs) : HasM P w K mg base (cs 0) 1 "_take_off_last" ["self"] (spOff (cs 0)) := by
  refine has_ofM T.m_Follower__take_off_last sc_Follower__take_off_last bd_Follower__take_off_last (fun vs H Q E h => ?_) (fun f cdv Ar outer s H vs Q E hr h => ?_)
  · obtain ⟨A, D, qs, aq, kvs, ks, tr, rw, pu, ah, br, m, r, rfl, _⟩ := h
    rfl
  · have hu := hu_of hr
    have nd := sc_Follower__take_off_last.nd
    obtain ⟨A, D, qs, aq, kvs, ks, tr, rw, pu, ah, br, m, r, rfl, F, hm, hn, ht, lc, k⟩ := h
    refine ⟨_, (pss_cons (ps_set (i := 1) nd rfl (.inl rfl) (pe_bm0 PySem.F.plainAttrs_list PySem.F.slot_list_pop PySem.F.type_list_pop mt_pop (pe_fld (pv 0) rfl)))
    (pss_cons (ps_expr (pe_bm0 PySem.F.plainAttrs_list PySem.F.slot_list_pop PySem.F.type_list_pop mt_pop (pe_fld (pv 0) rfl)))
    (pss_cons (ps_ddel (pe_fld (pv 0) rfl) (pv 1))
    (pss_one (ps_for PassesOwn.never rfl (pi_list (pe_dget2 hu (pe_fld (pv 0) rfl) (pe_un un_neg (pv 1)) (pe_lst pa_nil) ⟨rfl, rfl, rfl, rfl⟩)) (pg_name (i := 2) nd rfl (.inl rfl))
      (pss_one (ps_augS (pe_fld (pv 0) rfl) (pv 2) get_list pe_int ip_sub set_list))))))), ?_⟩
    have line : 1100000 < sizeLine := by decide
    -- trail
    have lastM : ((tr ++ [m]).map V.int)[((tr ++ [m]).map V.int).length - 1]? = some (.int m) := by
      rw [List.length_map, List.length_append, List.length_singleton, Nat.add_sub_cancel, List.getElem?_map, List.getElem?_append_right (Nat.le_refl _), Nat.sub_self]
      rfl
    have dropM : ((tr ++ [m]).map V.int).dropLast = tr.map V.int := by
      rw [List.map_append]
      exact List.dropLast_concat
    refine ⟨_, rfl, A.f, cs 0, A.dx, _, _, rfl, F.ins, T.cl_Follower, T.n_Follower__trail, rfl, .inl ⟨rfl, _, SqL.of F.trl⟩, A.tr, _, _, rfl, rfl, F.trl, lastM, ?_⟩
    rw [dropM]
    have c1 := F.co.put 4 rfl (.lst (tr.map V.int))
    have r1 := F.re.core (by simp [fas]) F.trl (fun xs z => by cases z) (.lst (tr.map V.int))
    have f1 : Fr D D H (upd H A.tr (.lst (tr.map V.int))) := Fr.upd (F.in_ (by simp [fas]))
    generalize upd H A.tr (.lst (tr.map V.int)) = H1 at c1 r1 f1
    have i1 : H1 A.f = some (.ins (cs 0) A.dx (fl A br)) := c1.at_ 0 _ _ rfl rfl
    have t1 : H1 A.rw = some (.lst ((rw ++ [r]).map optI)) := c1.at_ 6 _ _ rfl rfl
    have lastR : ((rw ++ [r]).map optI)[((rw ++ [r]).map optI).length - 1]? = some (optI r) := by
      rw [List.length_map, List.length_append, List.length_singleton, Nat.add_sub_cancel, List.getElem?_map, List.getElem?_append_right (Nat.le_refl _), Nat.sub_self]
      rfl
    have dropR : ((rw ++ [r]).map optI).dropLast = rw.map optI := by
      rw [List.map_append]
      exact List.dropLast_concat
    refine ⟨_, rfl, A.f, cs 0, A.dx, _, _, rfl, i1, T.cl_Follower, T.n_Follower__rows, rfl, .inl ⟨rfl, _, SqL.of t1⟩, A.rw, _, _, rfl, rfl, t1, lastR, ?_⟩
    rw [dropR]
    have c2 := c1.put 6 rfl (.lst (rw.map optI))
    have r2 := r1.core (a := A.rw) (by simp [fas]) t1 (fun xs z => by cases z) (.lst (rw.map optI))
    have f2 : Fr D D H (upd H1 A.rw (.lst (rw.map optI))) := f1.trans (Fr.upd (F.in_ (by simp [fas]))) fun _ h => h
    generalize upd H1 A.rw (.lst (rw.map optI)) = H2 at c2 r2 f2
    have i2 : H2 A.f = some (.ins (cs 0) A.dx (fl A br)) := c2.at_ 0 _ _ rfl rfl
    have p2 : H2 A.pl = some (.dK (plD (tr ++ [m]))) := c2.at_ 5 _ _ rfl rfl
    have ndm : (tr ++ [m]).Nodup := by
      rw [List.nodup_append]
      exact ⟨ht, by simp, fun a ha b hb e => by rw [List.mem_singleton] at hb; exact hm (by rw [← hb, ← e]; exact ha)⟩
    refine ⟨_, rfl, A.f, cs 0, A.dx, _, _, rfl, i2, T.cl_Follower, T.n_Follower__place, rfl, _, rfl, A.pl, _, Sum.inl m, rfl, p2, rfl, ?_, ?_⟩
    · rw [plD_is ndm]
      exact decide_eq_true (List.mem_append_right _ List.mem_cons_self)
    have ed : dropK (plD (tr ++ [m])) (Sum.inl m : Key) = plD tr := by
      rw [plD_snoc]
      unfold dropK
      rw [List.filter_append]
      have e1 : (plD tr).filter (fun kv => decide (kv.1 ≠ (Sum.inl m : Key))) = plD tr := by
        refine List.filter_eq_self.mpr fun kv hkv => ?_
        unfold plD at hkv
        obtain ⟨z, hz, rfl⟩ := List.mem_map.mp hkv
        have : z.1 ∈ tr := by
          have := List.mem_zipIdx hz
          obtain ⟨_, _, e⟩ := this
          rw [e]
          exact List.getElem_mem _
        simp
        exact fun e => hm (e ▸ this)
      rw [e1]
      simp
    rw [ed]
    have c3 := c2.put 5 rfl (.dK (plD tr))
    have r3 := r2.core (a := A.pl) (by simp [fas]) p2 (fun xs z => by cases z) (.dK (plD tr))
    have f3 : Fr D D H (upd H2 A.pl (.dK (plD tr))) := f2.trans (Fr.upd (F.in_ (by simp [fas]))) fun _ h => h
    generalize upd H2 A.pl (.dK (plD tr)) = H3 at c3 r3 f3
    have F3 : FolR H3 (cs 0) A D qs aq kvs ks (ks.map (offC (tr ++ [m]))) (nums ks) tr rw pu ah br := ⟨c3, r3⟩
    -- the clauses
    refine ⟨_, rfl, A.f, cs 0, A.dx, _, _, rfl, F3.ins, T.cl_Follower, T.n_Follower__having, rfl, A.hv, rfl, .inl ⟨kvs, .inl F3.hvd⟩, _, rfl, m, rfl, by show 0 ≤ sizeLine; decide, fun E5 hE => ?_⟩
    have s5 : Same H3 (upd H3 E5 (.lst [])) := same_new hE
    have F5 := F3.same s5
    have f5 : Fr D D H (upd H3 E5 (.lst [])) := f3.trans (Fr.same s5) fun _ h => h
    have nE := F3.not_new hE
    have there : ∃ l, ((valV kvs (Sum.inl (-m) : Key)).getD (.ref E5)) = .ref l ∧ (upd H3 E5 (.lst [])) l = some (.lst ((nums ks (-m)).map fun i => V.int (i : Nat))) ∧ l ∉ fas A := by
      rcases F5.re.hv.at_ (-m) with ⟨e, e2⟩ | ⟨l, e, hl, nl⟩
      · rw [e, e2]
        exact ⟨E5, rfl, upd_same, fun z => nE (F3.in_ z)⟩
      · rw [e]
        exact ⟨l, rfl, hl, nl⟩
    generalize upd H3 E5 (.lst []) = H5 at F5 f5 there
    obtain ⟨l, el, hl, nl⟩ := there
    refine ⟨_, DGet.k (k := (Sum.inl (-m) : Key)) F5.hvd, l, el, ⟨_, SqL.of hl⟩, for_list (K := K) (a := l) (xs := (nums ks (-m)).map fun i => V.int (i : Nat)) (fun j σ H' => ∃ v2, σ = [some (.ref A.f), some (.int m), v2] ∧
      FolR H' (cs 0) A D qs aq kvs ks (oK ks tr m ((nums ks (-m)).take j)) (nums ks) tr rw pu ah br ∧ H' l = some (.lst ((nums ks (-m)).map fun i => V.int (i : Nat))) ∧ Fr D D H H') ⟨none, rfl, ?_, hl, f5⟩ ?_ ?_ ?_⟩
    · rw [List.take_zero, oK_zero]
      exact F5
    · rintro j σ H' _ ⟨_, _, _, hl', _⟩
      exact SqL.of hl'
    · rintro j x σ H6 hj ⟨v2, rfl, F6, hl6, f6⟩
      obtain ⟨i, rfl, hi⟩ : ∃ i : Nat, x = .int (i : Nat) ∧ (nums ks (-m))[j]? = some i := by
        rw [List.getElem?_map] at hj
        cases e : (nums ks (-m))[j]? with
        | none => rw [e] at hj; cases hj
        | some i => rw [e] at hj; exact ⟨i, (Option.some.inj hj).symm, rfl⟩
      obtain ⟨c, hc, hmc⟩ := mem_nums.mp (List.mem_of_getElem? hi)
      have hil := (List.getElem?_eq_some_iff.mp hc).1
      have nt : i ∉ (nums ks (-m)).take j := fun z => by
        obtain ⟨i', hi', e⟩ := mem_take z
        obtain ⟨a1, a2⟩ := List.getElem?_eq_some_iff.mp e
        obtain ⟨b1, b2⟩ := List.getElem?_eq_some_iff.mp hi
        have := (List.getElem_inj (nums_nodup ks (-m))).mp (a2.trans b2.symm)
        omega
      have ho := oK_at (tr := tr) (m := m) (L := (nums ks (-m)).take j) hc
      rw [if_neg nt] at ho
      have ho2 : ((oK ks tr m ((nums ks (-m)).take j)).map V.int)[i]? = some (.int (offC (tr ++ [m]) c)) := by
        rw [List.getElem?_map, ho]
        rfl
      refine ⟨_, rfl, A.f, cs 0, A.dx, _, _, rfl, F6.ins, T.cl_Follower, T.n_Follower__offs, rfl, _, rfl, A.ofs, _, _, _, rfl, rfl, SqL.of F6.ofs, atI_nat ho2, _, _, rfl, rfl, A.ofs, _, _, i, rfl, rfl, F6.ofs, ?_, ?_⟩
      · unfold ixN
        rw [if_pos (by omega), if_pos (by rw [List.length_map, oK_len]; omega), Int.toNat_natCast]
      have htk : (nums ks (-m)).take (j + 1) = (nums ks (-m)).take j ++ [i] := by
        rw [List.take_add_one, hi]
        rfl
      have eset : ((oK ks tr m ((nums ks (-m)).take j)).map V.int).set i (V.int (offC (tr ++ [m]) c - 1)) = (oK ks tr m ((nums ks (-m)).take (j + 1))).map V.int := by
        have := off_has (hn c (List.mem_of_getElem? hc)) hm hmc
        rw [show offC (tr ++ [m]) c - 1 = offC tr c by omega, ← List.map_set, oK_set hc, htk]
      dsimp only
      rw [eset]
      refine ⟨_, rfl, F6.setOf _, ?_, f6.trans (Fr.upd (F.in_ (by simp [fas]))) fun _ h => h⟩
      rw [upd_ne (fun z => nl (by rw [z]; simp [fas]))]
      exact hl6
    · rintro σ H6 ⟨v2, rfl, F6, hl6, f6⟩
      rw [List.length_map, List.take_length] at F6
      rw [oK_end] at F6
      exact k H6 F6 f6
end

def spAdd (C : Addr) : Sp := fun vs H Q _ => ∃ (A : FA) (D : Addr → Prop) (cs : List (List Int)) (pu tr : List Int) (rw : List (Option Int)) (ah : List (Int × Int)) (q : Addr) (c : List Int),
  vs = [.ref A.f, .ref q] ∧ Fol H C A D cs pu tr rw ah none ∧ H q = some (.tup (c.map V.int)) ∧ c.length ≤ 1000 ∧ Good (cs ++ [c]) ∧
  ∀ (H' : Hp) (D' : Addr → Prop) (tr' : List Int) (rw' : List (Option Int)) (br' : Option Int) (v : V), Fol H' C A D' (cs ++ [c]) pu tr' rw' ah br' → Fr D D' H H' → (∀ b, D b → D' b) → Told H H' D tr tr' none br' v → Q v H'
def spBack (C : Addr) : Sp := fun vs H Q _ => ∃ (A : FA) (D : Addr → Prop) (cs : List (List Int)) (pu tr : List Int) (rw : List (Option Int)) (ah : List (Int × Int)) (br : Option Int) (m : Int),
  vs = [.ref A.f] ∧ Fol H C A D cs (pu ++ [m]) tr rw ah br ∧
  ∀ (H' : Hp) (tr' : List Int) (rw' : List (Option Int)) (ah' : List (Int × Int)) (br' : Option Int), Fol H' C A D cs pu tr' rw' ah' br' → Fr D D H H' → Q (.int m) H'
theorem Good.left {cs : List (List Int)} {c : List Int} (h : Good (cs ++ [c])) : Good cs := by
  have f := h.fl
  have n := h.n
  rw [List.flatten_append, List.length_append] at f
  rw [List.length_append] at n
  exact ⟨fun d hd => h.nd d (List.mem_append_left _ hd), fun d hd => h.nz d (List.mem_append_left _ hd), by omega, by omega⟩
section
variable {P : Program} {w : World} {K : PySem.W.Frag} {mg : Str → Option Value} {base : Heap}
theorem hm_add {cs : Nat → Addr} (T : Top K mg cs) (h_Follower__refuse_broken : HasM P w K mg base (cs 0) 1 "_refuse_broken" ["self"] (spRefuse (cs 0))) (h_Follower__take_in : HasM P w K mg base (cs 0) 1 "_take_in" ["self", "clause"] (spTake (cs 0)))
    (h_Follower__settle : HasM P w K mg base (cs 0) 3 "_settle" ["self", "numbers"] (spSettle (cs 0))) (h_Follower__news : HasM P w K mg base (cs 0) 1 "_news" ["self", "ahead"] (spNews (cs 0))) : HasM P w K mg base (cs 0) 4 "add" ["self", "clause"] (spAdd (cs 0)) := by
  refine has_ofM T.m_Follower_add sc_Follower_add bd_Follower_add (fun vs H Q E h => ?_) (fun f cdv Ar outer s H vs Q E hr h => ?_)
  · obtain ⟨A, D, ks, pu, tr, rw, ah, q, c, rfl, _⟩ := h
    rfl
  · have hu := hu_of hr
    have nd := sc_Follower_add.nd
    obtain ⟨A, D, ks, pu, tr, rw, ah, q, c, rfl, ⟨qs, aq, kvs, X⟩, hq, few, gd, k⟩ := h
    have F := X.r
    refine ⟨_, (pss_cons (ps_expr (pe_hasM0 T.cl_Follower h_Follower__refuse_broken (hr.mono (by omega)) (pv 0)))
    (pss_cons (ps_set (i := 2) nd rfl (.inl rfl) (pe_callB call_len_seq (by rfl) T.b_len (by decide +kernel) (pa_cons (pe_fld (pv 0) rfl) pa_nil)))
    (pss_cons (ps_expr (pe_hasM T.cl_Follower h_Follower__take_in (hr.mono (by omega)) (pv 0) (pa_cons (pv 1) pa_nil)))
    (pss_cons (ps_expr (pe_hasM T.cl_Follower h_Follower__settle (hr.mono (by omega)) (pv 0) (pa_cons (pe_lst (pa_cons (pe_op op_sub (pe_callB call_len_seq (by rfl) T.b_len (by decide +kernel) (pa_cons (pe_fld (pv 0) rfl) pa_nil)) pe_int) pa_nil)) pa_nil)))
    (pss_one (ps_ret (pe_hasM T.cl_Follower h_Follower__news (hr.mono (by omega)) (pv 0) (pa_cons (pv 2) pa_nil)))))))), ?_⟩
    have gfl := X.gd.fl
    have gn := X.gd.n
    have kl := X.kl
    obtain ⟨cl1, cl2⟩ := X.cl rfl
    have hcn : c ∈ ks ++ [c] := List.mem_append_right _ List.mem_cons_self
    refine ⟨_, rfl, A.f, A.dx, _, rfl, F.ins, rfl, A, rfl, F.ins, ?_⟩
    refine ⟨_, rfl, A.f, cs 0, A.dx, _, _, rfl, F.ins, T.cl_Follower, T.n_Follower__trail, rfl, A.tr, _, rfl, .inl (SqL.of F.trl), ?_⟩
    refine ⟨_, rfl, A.f, A.dx, _, rfl, F.ins, rfl, _, rfl, A, D, qs, aq, kvs, ks, tr, rw, pu, ah, none, q, c, rfl, F, hq, gd.nd c hcn, X.ok.nd, gn, few, by omega, fun H1 D1 kv1 F1 l1 f1 d1 => ?_⟩
    have cn := F1.re.cn
    refine ⟨_, rfl, A.f, A.dx, _, rfl, F1.ins, rfl, _, rfl, A.f, cs 0, A.dx, _, _, rfl, F1.ins, T.cl_Follower, T.n_Follower__clauses, rfl, A.cl, _, rfl, .inl (SqL.of F1.cl), _, _, rfl, rfl, by show 1 ≤ sizeLine; decide, fun p hp => ?_⟩
    have en : (((qs ++ [q]).map V.ref).length : Int) - 1 = ((ks.length : Nat) : Int) := by
      rw [List.length_map, cn, List.length_append, List.length_singleton]
      omega
    have elst : [V.int ((((qs ++ [q]).map V.ref).length : Int) - 1)] = ([ks.length] : List Nat).map fun i => V.int (i : Nat) := by
      rw [en]
      rfl
    rw [elst]
    have s2 : Same H1 (upd H1 p (.lst (([ks.length] : List Nat).map fun i => V.int (i : Nat)))) := same_new hp
    have okc : Okay (ks ++ [c]) pu tr rw := X.ok.more (fun k c e => by rw [List.getElem?_append_left (List.getElem?_eq_some_iff.mp e).1]; exact e) fun x hx => hx
    have pl := X.pt.n
    refine ⟨A, D1, qs ++ [q], aq, kv1, ks ++ [c], tr, rw, pu, ah, p, [ks.length], rfl, F1.same s2, upd_same, fun i hi => ?_, okc, gd, fun i d hd hi => ?_, by show 1 ≤ 100000; decide, pl, fun H3 nw mr br F3 ok3 cl3 bk3 f3 => ?_⟩
    · rw [List.mem_singleton.mp hi, List.length_append]
      exact Nat.lt_succ_self _
    · rcases getElem_snoc hd with ⟨hl, e⟩ | ⟨hl, e⟩
      · exact cl1 d (List.mem_of_getElem? e)
      · exact absurd (by rw [hl]; exact List.mem_cons_self) hi
    · have f13 : Fr D D1 H H3 := (f1.trans (Fr.same s2) d1).trans f3 d1
      have X3 : FolX H3 (cs 0) A D1 (ks ++ [c]) pu (tr ++ nw) (rw ++ somes mr) ah br (qs ++ [q]) aq kv1 := by
        refine ⟨F3, ok3, gd, X.pt, ?_, fun e => ⟨cl3 e, fun x hx => List.mem_append_left _ (cl2 x hx)⟩, fun r e => ?_, X.al, fun k' z hz => ((X.aa k' z hz).cls c).ext X.ok.len _ _, X.aw⟩
        · rw [List.flatten_append, List.length_append, List.flatten_cons, List.flatten_nil, List.append_nil]
          omega
        · obtain ⟨k', d, e1, e2, e3⟩ := bk3 r e
          exact ⟨k', d, e1, e2, .inl ⟨fun x hx => List.mem_append_left _ (cl2 x hx), e3⟩⟩
      refine ⟨_, rfl, A.f, A.dx, _, rfl, F3.ins, rfl, _, rfl, A, br, tr ++ nw, tr.length, ?_, F3.ins, F3.trl, fun hbr => ?_, fun hbr H5 p5 hp5 s5 h5 => ?_⟩
      · rw [List.length_map]
        rfl
      · cases br with
        | none => exact absurd rfl hbr
        | some r => exact k H3 D1 _ _ _ .non ⟨_, _, _, X3⟩ f13 d1 (.inl ⟨r, rfl, rfl⟩)
      · subst hbr
        have np : H p5 = none := by
          cases e : H p5 with
          | none => rfl
          | some u =>
            by_cases dp : D p5
            · obtain ⟨u2, e2⟩ := X3.r.known (d1 _ dp)
              rw [hp5] at e2
              cases e2
            · rw [f13.k p5 u e dp] at hp5
              cases hp5
        have nd4 := ok3.nd
        have co4 := ok3.con
        refine k H5 D1 _ _ none (.ref p5) (Fol.same ⟨_, _, _, X3⟩ s5) (f13.trans (Fr.same s5) d1) d1 (.inr ⟨rfl, p5, (tr ++ nw).drop tr.length, rfl, ⟨np, h5, nd4.sublist (List.drop_sublist _ _), fun x hx y => co4 x (List.mem_of_mem_drop hx) (List.mem_of_mem_drop y), fun x => ?_⟩⟩)
        have dis := List.nodup_append.mp nd4
        rw [List.drop_left]
        constructor
        · intro h
          exact ⟨List.mem_append_right _ h, fun z => dis.2.2 x z x h rfl, fun z => by cases z⟩
        · rintro ⟨h1, h2, _⟩
          exact (List.mem_append.mp h1).resolve_left h2
theorem hm_back {cs : Nat → Addr} (T : Top K mg cs) (h_Follower__take_off_last : HasM P w K mg base (cs 0) 1 "_take_off_last" ["self"] (spOff (cs 0))) (h_Follower__settle : HasM P w K mg base (cs 0) 3 "_settle" ["self", "numbers"] (spSettle (cs 0))) :
    HasM P w K mg base (cs 0) 4 "back" ["self"] (spBack (cs 0)) := by
  refine has_ofM T.m_Follower_back sc_Follower_back bd_Follower_back (fun vs H Q E h => ?_) (fun f cdv Ar outer s H vs Q E hr h => ?_)
  · obtain ⟨A, D, ks, pu, tr, rw, ah, br, m, rfl, _⟩ := h
    rfl
  · have hu := hu_of hr
    have nd := sc_Follower_back.nd
    obtain ⟨A, D, ks, pu, tr, rw, ah, br, m, rfl, ⟨qs, aq, kvs, X⟩, k⟩ := h
    have F := X.r
    refine ⟨_, (pss_cons (ps_if (pt_not (pt_truth (pe_fld (pv 0) rfl) (by intro _; rfl))) (pss_one ps_never) pss_nil)
    (pss_cons (ps_set (i := 1) nd rfl (.inl rfl) (pe_bm0 PySem.F.plainAttrs_list PySem.F.slot_list_pop PySem.F.type_list_pop mt_pop (pe_fld (pv 0) rfl)))
    (pss_cons (ps_ddel (pe_fld (pv 0) rfl) (pv 1))
    (pss_cons (ps_asg (pe_bm0 PySem.F.plainAttrs_list PySem.F.slot_list_pop PySem.F.type_list_pop mt_pop (pe_fld (pv 0) rfl)) (pg_tup (by rfl) (pgs_cons (pg_name (i := 2) nd rfl (.inl rfl)) (pgs_cons (pg_name (i := 3) nd rfl (.inl rfl)) pgs_nil))))
    (pss_cons (ps_while PassesOwn.never (pt_cmpR op_gt (pe_callB call_len_seq (by rfl) T.b_len (by decide +kernel) (pa_cons (pe_fld (pv 0) rfl) pa_nil)) (pv 2) (nomark _)) (pss_one (ps_expr (pe_hasM0 T.cl_Follower h_Follower__take_off_last (hr.mono (by omega)) (pv 0)))))
    (pss_cons (ps_fld (pv 0) pe_non rfl)
    (pss_cons (ps_expr (pe_hasM T.cl_Follower h_Follower__settle (hr.mono (by omega)) (pv 0) (pa_cons (pe_listRg rfl (by rfl) T.b_list (prg_2 (by rfl) T.b_range (pv 3) (pe_callB call_len_seq (by rfl) T.b_len (by decide +kernel) (pa_cons (pe_fld (pv 0) rfl) pa_nil)))) pa_nil)))
    (pss_one (ps_ret (pv 1)))))))))), ?_⟩
    have gfl := X.gd.fl
    have gn := X.gd.n
    have al := X.al
    rw [List.length_append, List.length_singleton] at al
    refine ⟨_, rfl, A.f, cs 0, A.dx, _, _, rfl, F.ins, T.cl_Follower, T.n_Follower__puts, rfl, _, .inl ⟨_, SqL.of F.pul, rfl⟩, ?_⟩
    have ne : ((pu ++ [m]).map V.int).isEmpty = false := by
      rw [List.isEmpty_map]
      cases pu <;> rfl
    rw [ne]
    refine iteF ?_
    have lastM : ((pu ++ [m]).map V.int)[((pu ++ [m]).map V.int).length - 1]? = some (.int m) := by
      rw [List.length_map, List.length_append, List.length_singleton, Nat.add_sub_cancel, List.getElem?_map, List.getElem?_append_right (Nat.le_refl _), Nat.sub_self]
      rfl
    have dropM : ((pu ++ [m]).map V.int).dropLast = pu.map V.int := by
      rw [List.map_append]
      exact List.dropLast_concat
    refine ⟨_, rfl, A.f, cs 0, A.dx, _, _, rfl, F.ins, T.cl_Follower, T.n_Follower__puts, rfl, .inl ⟨rfl, _, SqL.of F.pul⟩, A.pu, _, _, rfl, rfl, F.pul, lastM, ?_⟩
    rw [dropM]
    have c1 := F.co.put 7 rfl (.lst (pu.map V.int))
    have r1 := F.re.core (by simp [fas]) F.pul (fun xs z => by cases z) (.lst (pu.map V.int))
    have f1 : Fr D D H (upd H A.pu (.lst (pu.map V.int))) := Fr.upd (F.in_ (by simp [fas]))
    generalize upd H A.pu (.lst (pu.map V.int)) = H1 at c1 r1 f1
    have i1 : H1 A.f = some (.ins (cs 0) A.dx (fl A br)) := c1.at_ 0 _ _ rfl rfl
    have t1 : H1 A.ip = some (.dK (tru (pu ++ [m]))) := c1.at_ 8 _ _ rfl rfl
    have ptn := List.nodup_append.mp X.pt.nd
    have mn : m ∉ pu := fun z => ptn.2.2 m z m List.mem_cons_self rfl
    refine ⟨_, rfl, A.f, cs 0, A.dx, _, _, rfl, i1, T.cl_Follower, T.n_Follower__is_put, rfl, _, rfl, A.ip, _, Sum.inl m, rfl, t1, rfl, ?_, ?_⟩
    · rw [tru_some]
      exact decide_eq_true (List.mem_append_right _ List.mem_cons_self)
    have ed : dropK (tru (pu ++ [m])) (Sum.inl m : Key) = tru pu := by
      unfold dropK tru
      rw [List.map_append, List.filter_append]
      have e1 : ((pu.map fun k => ((Sum.inl k : Key), V.bl true)).filter fun kv => decide (kv.1 ≠ (Sum.inl m : Key))) = pu.map fun k => ((Sum.inl k : Key), V.bl true) := by
        refine List.filter_eq_self.mpr fun kv hkv => ?_
        obtain ⟨z, hz, rfl⟩ := List.mem_map.mp hkv
        simp
        exact fun e => mn (e ▸ hz)
      rw [e1]
      simp
    rw [ed]
    have c2 := c1.put 8 rfl (.dK (tru pu))
    have r2 := r1.core (a := A.ip) (by simp [fas]) t1 (fun xs z => by cases z) (.dK (tru pu))
    have f2 : Fr D D H (upd H1 A.ip (.dK (tru pu))) := f1.trans (Fr.upd (F.in_ (by simp [fas]))) fun _ h => h
    generalize upd H1 A.ip (.dK (tru pu)) = H2 at c2 r2 f2
    -- ahead
    have i2 : H2 A.f = some (.ins (cs 0) A.dx (fl A br)) := c2.at_ 0 _ _ rfl rfl
    have a2 : H2 A.ah = some (.lst (aq.map V.ref)) := c2.at_ 9 _ _ rfl rfl
    have an := F.re.an
    obtain ⟨ah0, z0, rfl⟩ : ∃ ah0 z0, ah = ah0 ++ [z0] := by
      have : ah ≠ [] := fun e => by rw [e] at al; simp at al
      exact ⟨ah.dropLast, ah.getLast this, (List.dropLast_concat_getLast this).symm⟩
    obtain ⟨aq0, q0, rfl⟩ : ∃ aq0 q0, aq = aq0 ++ [q0] := by
      have : aq ≠ [] := fun e => by rw [e, List.length_append] at an; simp at an
      exact ⟨aq.dropLast, aq.getLast this, (List.dropLast_concat_getLast this).symm⟩
    have al0 : ah0.length = pu.length := by
      rw [List.length_append, List.length_singleton] at al
      omega
    have an0 : aq0.length = ah0.length := by
      rw [List.length_append, List.length_append, List.length_singleton, List.length_singleton] at an
      omega
    have hq0 := r2.at_ aq0.length q0 z0 (by rw [List.getElem?_append_right (Nat.le_refl _), Nat.sub_self]; rfl) (by rw [an0, List.getElem?_append_right (Nat.le_refl _), Nat.sub_self]; rfl)
    obtain ⟨a0, n0, ez0, ha0, hn0, hc0, hp0, hr0⟩ := (X.aa ah0.length z0 (by rw [List.getElem?_append_right (Nat.le_refl _), Nat.sub_self]; rfl)).ex
    subst ez0
    have tpu : (pu ++ [m]).take ah0.length = pu := by rw [al0, List.take_append_of_le_length (Nat.le_refl _), List.take_length]
    rw [tpu] at hp0 hr0
    have lastA : ((aq0 ++ [q0]).map V.ref)[((aq0 ++ [q0]).map V.ref).length - 1]? = some (.ref q0) := by
      rw [List.length_map, List.length_append, List.length_singleton, Nat.add_sub_cancel, List.getElem?_map, List.getElem?_append_right (Nat.le_refl _), Nat.sub_self]
      rfl
    have dropA : ((aq0 ++ [q0]).map V.ref).dropLast = aq0.map V.ref := by
      rw [List.map_append]
      exact List.dropLast_concat
    refine ⟨_, rfl, A.f, cs 0, A.dx, _, _, rfl, i2, T.cl_Follower, T.n_Follower__ahead, rfl, .inl ⟨rfl, _, SqL.of a2⟩, A.ah, _, _, rfl, rfl, a2, lastA, ?_⟩
    have c3 := c2.put 9 rfl (.lst (aq0.map V.ref))
    have r3 := r2.core (a := A.ah) (by simp [fas]) a2 (fun xs z => by cases z) (.lst (aq0.map V.ref))
    have f3 : Fr D D H (upd H2 A.ah (.lst (aq0.map V.ref))) := f2.trans (Fr.upd (F.in_ (by simp [fas]))) fun _ h => h
    have hq3 : (upd H2 A.ah (.lst (aq0.map V.ref))) q0 = some (.tup [.int ((a0 : Int), (n0 : Int)).1, .int ((a0 : Int), (n0 : Int)).2]) := by
      rw [upd_ne (ne_of hq0 a2 (by intro z; cases z))]
      exact hq0
    refine ⟨q0, _, rfl, SqT.of (by rw [dropA]; exact hq3), rfl, _, _, rfl, _, _, rfl, rfl, ?_⟩
    rw [dropA]
    have F3 : FolR (upd H2 A.ah (.lst (aq0.map V.ref))) (cs 0) A D qs aq0 kvs ks (ks.map (offC tr)) (nums ks) tr rw pu ah0 br := by
      refine ⟨c3, r3.cn, r3.ct, an0, fun i q y hq hy => ?_, r3.hv, r3.dd⟩
      exact r3.at_ i q y (by rw [List.getElem?_append_left (List.getElem?_eq_some_iff.mp hq).1]; exact hq) (by rw [List.getElem?_append_left (List.getElem?_eq_some_iff.mp hy).1]; exact hy)
    generalize upd H2 A.ah (.lst (aq0.map V.ref)) = H3 at F3 f3
    -- the trail
    have rl := X.ok.len
    refine ⟨fun n σ H' => ∃ l, n = l ∧ a0 ≤ l ∧ l ≤ tr.length ∧ σ = [some (.ref A.f), some (.int m), some (.int (a0 : Nat)), some (.int (n0 : Nat))] ∧ FolR H' (cs 0) A D qs aq0 kvs ks (ks.map (offC (tr.take l))) (nums ks) (tr.take l) (rw.take l) pu ah0 br ∧ Fr D D H H', ⟨tr.length, tr.length, rfl, ha0, Nat.le_refl _, rfl, ?_, f3⟩, ?_⟩
    · rw [List.take_length, ← rl, List.take_length]
      exact F3
    rintro n σ H4 ⟨l, rfl, hl1, hl2, rfl, F4, f4⟩
    refine ⟨_, rfl, A.f, cs 0, A.dx, _, _, rfl, F4.ins, T.cl_Follower, T.n_Follower__trail, rfl, A.tr, _, rfl, .inl (SqL.of F4.trl), _, rfl, _, _, rfl, rfl, _, rfl, ?_⟩
    rw [List.length_map, List.length_take, Nat.min_eq_left hl2]
    refine ite2 (fun c => ?_) (fun c => ?_)
    · have c' : (a0 : Int) < (n : Int) := of_decide_eq_true c
      refine ⟨_, fun σ' H' h => h, ?_⟩
      have el : n = (n - 1) + 1 := by omega
      have et : tr[n - 1]? = some tr[n - 1] := List.getElem?_eq_getElem (by omega)
      have er : rw[n - 1]? = some rw[n - 1] := List.getElem?_eq_getElem (by omega)
      have e1 : tr.take n = tr.take (n - 1) ++ [tr[n - 1]] := by
        conv => lhs; rw [el]
        exact take_snoc' et
      have e2 : rw.take n = rw.take (n - 1) ++ [rw[n - 1]] := by
        conv => lhs; rw [el]
        exact take_snoc' er
      have ndt : (tr.take n).Nodup := X.ok.nd.sublist (List.take_sublist _ _)
      rw [e1] at ndt
      rw [e1, e2] at F4
      have dis := List.nodup_append.mp ndt
      refine ⟨_, rfl, A.f, A.dx, _, rfl, F4.ins, rfl, A, D, qs, aq0, kvs, ks, tr.take (n - 1), rw.take (n - 1), pu, ah0, br, _, _, rfl, F4, fun z => dis.2.2 _ z _ List.mem_cons_self rfl, X.gd.nd, dis.1, gn, fun H5 F5 f5 => ?_⟩
      exact ⟨n - 1, by omega, n - 1, rfl, by omega, by omega, rfl, F5, f4.trans f5 fun _ h => h⟩
    · have c' : ¬ (a0 : Int) < (n : Int) := fun z => c (decide_eq_true z)
      have en : n = a0 := by omega
      subst en
      refine ⟨_, rfl, A.f, cs 0, A.dx, _, rfl, F4.ins, T.cl_Follower, T.n_Follower__broken_row, by show 10 < 1000; decide, ?_⟩
      have F5 := F4.setBr none
      have f5 : Fr D D H (upd H4 A.f (.ins (cs 0) A.dx (fl A none))) := f4.trans (Fr.upd (F.in_ (by simp [fas]))) fun _ h => h
      show _
      rw [show putF "_broken_row" V.non (fl A br) = fl A none from put_br A br none]
      generalize upd H4 A.f (.ins (cs 0) A.dx (fl A none)) = H5 at F5 f5
      have cn := F5.re.cn
      refine ⟨_, rfl, A.f, A.dx, _, rfl, F5.ins, rfl, _, rfl, _, rfl, A.f, cs 0, A.dx, _, _, rfl, F5.ins, T.cl_Follower, T.n_Follower__clauses, rfl, A.cl, _, rfl, .inl (SqL.of F5.cl), _, _, rfl, rfl, RgOk.of_le (by omega) (by rw [List.length_map]; omega) (by omega) (by omega), fun p hp => ?_⟩
      rw [List.length_map, cn]
      have erg : rgV (n0 : Int) (ks.length : Int) = (List.range' n0 (ks.length - n0)).map fun i => V.int (i : Nat) := by
        unfold rgV
        rw [show ((ks.length : Int) - (n0 : Int)).toNat = ks.length - n0 by omega, List.range'_eq_map_range, List.map_map]
        refine List.map_congr_left fun i _ => ?_
        show V.int ((n0 : Int) + (i : Nat)) = V.int ((n0 + i : Nat) : Int)
        rw [Int.natCast_add]
      rw [erg]
      have s6 : Same H5 (upd H5 p (.lst ((List.range' n0 (ks.length - n0)).map fun i => V.int (i : Nat)))) := same_new hp
      have ptn2 : Puts pu := ⟨ptn.1, fun x hx z => X.pt.con x (List.mem_append_left _ hx) (List.mem_append_left _ z), by have := X.pt.n; rw [List.length_append] at this; omega⟩
      have ok5 : Okay ks pu (tr.take n) (rw.take n) := by
        refine ⟨X.ok.nd.sublist (List.take_sublist _ _), fun x hx z => X.ok.con x (List.mem_of_mem_take hx) (List.mem_of_mem_take z), fun i x hx => ?_, by rw [List.length_take, List.length_take, rl]⟩
        rw [List.getElem?_take] at hx
        by_cases hi : i < n
        · rw [if_pos hi] at hx
          rcases X.ok.just i x hx with ⟨g1, g2⟩ | ⟨j, d, g1, g2, g3, g4⟩
          · exact .inl ⟨by rw [List.getElem?_take, if_pos hi]; exact g1, hr0 i hi g1 x hx⟩
          · exact .inr ⟨j, d, by rw [List.getElem?_take, if_pos hi]; exact g1, g2, g3, fun y hy hne => by rw [List.take_take, Nat.min_eq_left (by omega)]; exact g4 y hy hne⟩
        · rw [if_neg hi] at hx
          cases hx
      refine ⟨A, D, qs, aq0, kvs, ks, tr.take n, rw.take n, pu, ah0, p, List.range' n0 (ks.length - n0), rfl, F5.same s6, upd_same, fun i hi => ?_, ok5, X.gd, fun i d hd hi => ?_, by rw [List.length_range']; omega, ptn2.n, fun H7 nw mr br7 F7 ok7 cl7 bk7 f7 => ?_⟩
      · have := List.mem_range'.mp hi
        obtain ⟨j, hj, e⟩ := this
        omega
      · have il := (List.getElem?_eq_some_iff.mp hd).1
        have ilt : i < n0 := by
          by_cases z : i < n0
          · exact z
          · exact absurd (List.mem_range'.mpr ⟨i - n0, by omega, by omega⟩) hi
        exact hc0 d (List.mem_of_getElem? (i := i) (by rw [List.getElem?_take, if_pos ilt]; exact hd))
      · have aw := List.pairwise_append.mp X.aw
        refine ⟨_, rfl, k H7 _ _ _ br7 ⟨qs, aq0, kvs, ⟨F7, ok7, X.gd, ptn2, X.kl, fun e => ⟨cl7 e, fun x hx => List.mem_append_left _ (hp0 x hx)⟩, fun r e => ?_, al0, fun k' z hz => ?_, aw.1⟩⟩ ((f5.trans (Fr.same s6) fun _ h => h).trans f7 fun _ h => h)⟩
        · obtain ⟨k', d, e1, e2, e3⟩ := bk7 r e
          exact ⟨k', d, e1, e2, .inl ⟨fun x hx => List.mem_append_left _ (hp0 x hx), e3⟩⟩
        · have kl := (List.getElem?_eq_some_iff.mp hz).1
          have le := aw.2.2 z (List.mem_of_getElem? hz) _ List.mem_cons_self
          obtain ⟨a', n', ez, ha', hn', hc', hp', hr'⟩ := (X.aa k' z (by rw [List.getElem?_append_left kl]; exact hz)).ex
          subst ez
          have le' : a' ≤ n := by
            have le : (a' : Int) ≤ (n : Int) := le
            omega
          have tk : (pu ++ [m]).take k' = pu.take k' := List.take_append_of_le_length (by omega)
          rw [tk] at hp' hr'
          have t2 : (tr.take n).take a' = tr.take a' := by rw [List.take_take, Nat.min_eq_left le']
          refine AhAt.ext ⟨a', n', rfl, by rw [List.length_take]; omega, hn', by rw [t2]; exact hc', by rw [t2]; exact hp', fun i hi e1 x e2 => ?_⟩ (by rw [List.length_take, List.length_take, rl]) nw (somes mr)
          rw [List.getElem?_take, if_pos (by omega)] at e1 e2
          exact hr' i hi e1 x e2
end

/-! ### rows that show -/
inductive Nd (cs : List (List Int)) (pu tr : List Int) (rw : List (Option Int)) (ms : List Int) : Nat → Prop
  | st {i : Nat} {m : Int} : m ∈ ms → m ∉ pu → tr[i]? = some m → Nd cs pu tr rw ms i
  | cl {i j k : Nat} {c : List Int} {x m : Int} : Nd cs pu tr rw ms i → tr[i]? = some m → rw[i]? = some (some (k : Int)) → cs[k]? = some c → x ∈ c → x ≠ m → -x ∉ pu → tr[j]? = some (-x) → Nd cs pu tr rw ms j
def rowN (rw : List (Option Int)) (i : Nat) : Int := match rw[i]? with
  | some (some k) => k
  | _ => 0
theorem rowN_of {rw : List (Option Int)} {i : Nat} {k : Int} (h : rw[i]? = some (some k)) : rowN rw i = k := by
  unfold rowN
  rw [h]
theorem idx_one {tr : List Int} (nd : tr.Nodup) {i j : Nat} {m : Int} (h1 : tr[i]? = some m) (h2 : tr[j]? = some m) : i = j := by
  obtain ⟨a1, a2⟩ := List.getElem?_eq_some_iff.mp h1
  obtain ⟨b1, b2⟩ := List.getElem?_eq_some_iff.mp h2
  exact (List.getElem_inj nd).mp (a2.trans b2.symm)
section
variable {cs : List (List Int)} {pu tr ms : List Int} {rw : List (Option Int)}
theorem Nd.row (ok : Okay cs pu tr rw) {i : Nat} (h : Nd cs pu tr rw ms i) : ∃ (m : Int) (k : Nat) (c : List Int), tr[i]? = some m ∧ m ∉ pu ∧ rw[i]? = some (some (k : Int)) ∧ cs[k]? = some c ∧ m ∈ c ∧ ∀ x ∈ c, x ≠ m → -x ∈ tr.take i := by
  obtain ⟨m, hm, np⟩ : ∃ m, tr[i]? = some m ∧ m ∉ pu := by
    cases h with
    | st _ h2 h3 => exact ⟨_, h3, h2⟩
    | cl _ _ _ _ _ _ h7 h8 => exact ⟨_, h8, h7⟩
  rcases ok.just i m hm with ⟨_, h⟩ | ⟨k, c, a, b, d, e⟩
  · exact absurd h np
  · exact ⟨m, k, c, hm, np, a, b, d, e⟩
theorem Nd.lt (ok : Okay cs pu tr rw) {B : Nat} (hB : ∀ m ∈ ms, m ∈ pu ∨ m ∈ tr.take B) {i : Nat} (h : Nd cs pu tr rw ms i) : i < B := by
  induction h with
  | @st i m h1 h2 h3 =>
    rcases hB m h1 with z | z
    · exact absurd z h2
    · obtain ⟨j, hj, e⟩ := mem_take z
      rw [idx_one ok.nd h3 e]
      exact hj
  | @cl i j k c x m h1 h2 h3 h4 h5 h6 h7 h8 ih =>
    obtain ⟨m', k', c', a1, _, a3, a4, _, a6⟩ := h1.row ok
    rw [h2] at a1
    cases a1
    rw [h3] at a3
    have ek : k = k' := by
      injection a3 with a3
      injection a3 with a3
      omega
    subst ek
    rw [h4] at a4
    cases a4
    obtain ⟨j', hj, e⟩ := mem_take (a6 x h5 h6)
    rw [idx_one ok.nd h8 e]
    omega
theorem filter_one {p : Int → Bool} {m : Int} : ∀ {c : List Int}, c.Nodup → m ∈ c → p m = true → (∀ x ∈ c, x ≠ m → p x = false) → c.filter p = [m]
  | a :: r, hn, hm, h1, h2 => by
    have hn' := List.nodup_cons.mp hn
    by_cases e : a = m
    · subst e
      rw [List.filter_cons_of_pos h1]
      congr 1
      refine List.filter_eq_nil_iff.mpr fun x hx => ?_
      rw [h2 x (List.mem_cons_of_mem _ hx) fun z => hn'.1 (z ▸ hx)]
      decide
    · rw [List.filter_cons_of_neg (by rw [h2 a List.mem_cons_self e]; decide)]
      exact filter_one hn'.2 ((List.mem_cons.mp hm).resolve_left fun z => e z.symm) h1 fun x hx => h2 x (List.mem_cons_of_mem _ hx)
theorem bring_append (cs : List (List Int)) : ∀ (a b on : List Int), bring cs (a ++ b) on = match bring cs a on with
    | none => none
    | some o => bring cs b o
  | [], b, on => rfl
  | r :: rs, b, on => by
    show (match step cs on r with | none => none | some on' => bring cs (rs ++ b) on') = match (match step cs on r with | none => none | some on' => bring cs rs on') with | none => none | some o => bring cs b o
    cases step cs on r with
    | none => rfl
    | some on' => exact bring_append cs rs b on'
theorem clAt_nat {k : Nat} {c : List Int} (h : cs[k]? = some c) : clAt cs (k : Int) = some c := by
  have l := (List.getElem?_eq_some_iff.mp h).1
  unfold clAt
  rw [if_pos ⟨by omega, by omega⟩]
  exact h
theorem mem_ins {on : List Int} {k x : Int} : x ∈ ins on k ↔ x ∈ on ∨ x = k := by
  unfold ins
  by_cases h : k ∈ on
  · rw [if_pos h]
    exact ⟨.inl, fun z => z.elim id fun e => e ▸ h⟩
  · rw [if_neg h, List.mem_append, List.mem_singleton]
theorem mem_fold0 {x : Int} : ∀ (b a : List Int), x ∈ b.foldl ins a ↔ x ∈ a ∨ x ∈ b
  | [], a => by simp
  | y :: r, a => by
    show x ∈ r.foldl ins (ins a y) ↔ _
    rw [mem_fold0 r, mem_ins, List.mem_cons, or_assoc]
theorem bring_rows (ok : Okay cs pu tr rw) (gn : ∀ c ∈ cs, c.Nodup) (hneg : ∀ i, Nd cs pu tr rw ms i → ∀ m, tr[i]? = some m → -m ∉ pu) : ∀ L : List Nat, L.Pairwise (· < ·) → (∀ i ∈ L, Nd cs pu tr rw ms i) → (∀ i ∈ L, ∀ j, j < i → Nd cs pu tr rw ms j → j ∈ L) →
    ∃ on, bring cs (L.map (rowN rw)) (pu.foldl ins []) = some on ∧ ∀ x, x ∈ on ↔ x ∈ pu ∨ ∃ j ∈ L, tr[j]? = some x := by
  refine rev_ind (fun _ _ _ => ⟨_, rfl, fun x => ?_⟩) fun L i ih hp hN hd => ?_
  · rw [mem_fold0]
    simp
  · have hp' := List.pairwise_append.mp hp
    have lti : ∀ j ∈ L, j < i := fun j hj => hp'.2.2 j hj i List.mem_cons_self
    obtain ⟨on, eb, mo⟩ := ih hp'.1 (fun j hj => hN j (List.mem_append_left _ hj)) fun j hj j' hlt nj => by
      rcases List.mem_append.mp (hd j (List.mem_append_left _ hj) j' hlt nj) with z | z
      · exact z
      · rw [List.mem_singleton] at z
        have := lti j hj
        omega
    have ni := hN i (List.mem_append_right _ List.mem_cons_self)
    obtain ⟨m, k, c, a1, a2, a3, a4, a5, a6⟩ := ni.row ok
    have m1 : m ∉ on := fun z => by
      rcases (mo m).mp z with y | ⟨j, hj, e⟩
      · exact a2 y
      · have := idx_one ok.nd a1 e
        have := lti j hj
        omega
    have m2 : -m ∉ on := fun z => by
      rcases (mo (-m)).mp z with y | ⟨j, hj, e⟩
      · exact hneg i ni m a1 y
      · exact ok.con m (List.mem_of_getElem? a1) (List.mem_of_getElem? e)
    have el : left on c = [m] := by
      unfold left
      refine filter_one (gn c (List.mem_of_getElem? a4)) a5 (by simpa using m2) fun x hx ne => ?_
      have : -x ∈ on := by
        by_cases z : -x ∈ pu
        · exact (mo _).mpr (.inl z)
        · obtain ⟨j, hj, e⟩ := mem_take (a6 x hx ne)
          rcases List.mem_append.mp (hd i (List.mem_append_right _ List.mem_cons_self) j hj (.cl ni a1 a3 a4 hx ne z e)) with y | y
          · exact (mo _).mpr (.inr ⟨j, y, e⟩)
          · rw [List.mem_singleton] at y
            omega
      simp [this]
    refine ⟨ins on m, ?_, fun x => ?_⟩
    · rw [List.map_append, bring_append, eb]
      show (match step cs on (rowN rw i) with | none => none | some on' => some on') = _
      rw [rowN_of a3]
      unfold step
      rw [clAt_nat a4]
      show (match (match left on c with | [x] => if x ∈ on then none else some (ins on x) | _ => none) with | none => none | some on' => some on') = _
      rw [el]
      show (match (if m ∈ on then none else some (ins on m)) with | none => none | some on' => some on') = _
      rw [if_neg m1]
    · rw [mem_ins, mo]
      constructor
      · rintro ((z | ⟨j, hj, e⟩) | rfl)
        · exact .inl z
        · exact .inr ⟨j, List.mem_append_left _ hj, e⟩
        · exact .inr ⟨i, List.mem_append_right _ List.mem_cons_self, a1⟩
      · rintro (z | ⟨j, hj, e⟩)
        · exact .inl (.inl z)
        · rcases List.mem_append.mp hj with y | y
          · exact .inl (.inr ⟨j, y, e⟩)
          · rw [List.mem_singleton.mp y, a1] at e
            exact .inr (Option.some.inj e).symm
/-- one row brings one mark -/
theorem row_one (ok : Okay cs pu tr rw) {i j : Nat} {k : Int} (hi : Nd cs pu tr rw ms i) (hj : Nd cs pu tr rw ms j) (e1 : rowN rw i = k) (e2 : rowN rw j = k) : i = j := by
  obtain ⟨m, k1, c1, a1, _, a3, a4, a5, a6⟩ := hi.row ok
  obtain ⟨m', k2, c2, b1, _, b3, b4, b5, b6⟩ := hj.row ok
  rw [rowN_of a3] at e1
  rw [rowN_of b3] at e2
  have ek : k1 = k2 := by omega
  subst ek
  rw [a4] at b4
  cases b4
  by_cases e : m = m'
  · subst e
    exact idx_one ok.nd a1 b1
  · exact absurd (List.mem_of_mem_take (b6 m a5 e)) (ok.con m (List.mem_of_getElem? a1))
end
/-- what shown tells -/
def ShownIs (cs : List (List Int)) (pu tr : List Int) (rw : List (Option Int)) (br : Option Int) (m : Option Int) (rs : List Int) : Prop :=
  match m with
  | some x => br = none ∧ ∃ L : List Nat, L.Pairwise (· < ·) ∧ (∀ i, i ∈ L ↔ Nd cs pu tr rw [x] i) ∧ rs = L.map (rowN rw)
  | none => ∃ (r : Nat) (c : List Int) (L : List Nat), br = some (r : Int) ∧ cs[r]? = some c ∧ L.Pairwise (· < ·) ∧ (∀ i, i ∈ L ↔ Nd cs pu tr rw (c.map fun x => -x) i) ∧ rs = L.map (rowN rw) ++ [(r : Int)]
theorem asc_one : ∀ {xs ys : List Nat}, xs.Pairwise (· < ·) → ys.Pairwise (· < ·) → (∀ i, i ∈ xs ↔ i ∈ ys) → xs = ys
  | [], [], _, _, _ => rfl
  | [], b :: s, _, _, h => absurd ((h b).mpr List.mem_cons_self) List.not_mem_nil
  | a :: r, [], _, _, h => absurd ((h a).mp List.mem_cons_self) List.not_mem_nil
  | a :: r, b :: s, h1, h2, h => by
    have p1 := List.pairwise_cons.mp h1
    have p2 := List.pairwise_cons.mp h2
    have e : a = b := by
      rcases List.mem_cons.mp ((h a).mp List.mem_cons_self) with z | z
      · exact z
      · rcases List.mem_cons.mp ((h b).mpr List.mem_cons_self) with y | y
        · exact y.symm
        · have := p1.1 b y
          have := p2.1 a z
          omega
    subst e
    rw [asc_one p1.2 p2.2 fun i => ⟨fun hi => ?_, fun hi => ?_⟩]
    · rcases List.mem_cons.mp ((h i).mp (List.mem_cons_of_mem _ hi)) with z | z
      · have := p1.1 i hi
        omega
      · exact z
    · rcases List.mem_cons.mp ((h i).mpr (List.mem_cons_of_mem _ hi)) with z | z
      · have := p2.1 i hi
        omega
      · exact z
theorem ShownIs.det {cs : List (List Int)} {pu tr : List Int} {rw : List (Option Int)} {br m : Option Int} {rs rs' : List Int} (h : ShownIs cs pu tr rw br m rs) (h' : ShownIs cs pu tr rw br m rs') : rs = rs' := by
  cases m with
  | some x =>
    obtain ⟨_, L, a, b, rfl⟩ := h
    obtain ⟨_, L', a', b', rfl⟩ := h'
    rw [asc_one a a' fun i => (b i).trans (b' i).symm]
  | none =>
    obtain ⟨r, c, L, e, hc, a, b, rfl⟩ := h
    obtain ⟨r', c', L', e', hc', a', b', rfl⟩ := h'
    rw [e] at e'
    have er : r = r' := by
      injection e' with e'
      omega
    subst er
    rw [hc] at hc'
    cases hc'
    rw [asc_one a a' fun i => (b i).trans (b' i).symm]
theorem asc_nodup {L : List Nat} (h : L.Pairwise (· < ·)) : L.Nodup := h.imp fun h e => by omega
theorem map_nodup {α β : Type} {f : α → β} : ∀ {l : List α}, l.Nodup → (∀ a ∈ l, ∀ b ∈ l, f a = f b → a = b) → (l.map f).Nodup
  | [], _, _ => List.nodup_nil
  | a :: r, hn, h => by
    have hn' := List.nodup_cons.mp hn
    rw [List.map_cons, List.nodup_cons]
    refine ⟨fun z => ?_, map_nodup hn'.2 fun x hx y hy => h x (List.mem_cons_of_mem _ hx) y (List.mem_cons_of_mem _ hy)⟩
    obtain ⟨b, hb, e⟩ := List.mem_map.mp z
    exact hn'.1 (h b (List.mem_cons_of_mem _ hb) a List.mem_cons_self e ▸ hb)
theorem nd_len {cs : List (List Int)} {pu tr ms : List Int} {rw : List (Option Int)} (ok : Okay cs pu tr rw) {L : List Nat} (h1 : L.Pairwise (· < ·)) (h2 : ∀ i ∈ L, Nd cs pu tr rw ms i) : L.length ≤ tr.length := by
  have := nodup_le (asc_nodup h1) (ys := List.range tr.length) fun i hi => by
    obtain ⟨m, _, _, a1, _⟩ := (h2 i hi).row ok
    exact List.mem_range.mpr (List.getElem?_eq_some_iff.mp a1).1
  rw [List.length_range] at this
  exact this
theorem ShownIs.ok {cs : List (List Int)} {pu tr : List Int} {rw : List (Option Int)} {br m : Option Int} {rs : List Int} (h : ShownIs cs pu tr rw br m rs) (ok : Okay cs pu tr rw) (gn : ∀ c ∈ cs, c.Nodup) (cl : br = none → ∀ m ∈ pu, m ∈ tr) (bk : ∀ r, br = some r → BrkAt cs pu tr rw r) (on : ∀ x, m = some x → x ∈ tr) :
    shownP cs pu rs m = true ∧ rs.Nodup ∧ rs.length ≤ tr.length + 1 := by
  cases m with
  | some x =>
    obtain ⟨eb, L, a, b, rfl⟩ := h
    have hp := cl eb
    obtain ⟨o, e, mo⟩ := bring_rows ok gn (fun i hi m hm z => ok.con m (List.mem_of_getElem? hm) (hp _ z)) L a (fun i hi => (b i).mp hi) fun i _ j _ hj => (b j).mpr hj
    refine ⟨?_, map_nodup (asc_nodup a) fun i hi j hj e => row_one ok ((b i).mp hi) ((b j).mp hj) e rfl, ?_⟩
    · unfold shownP
      simp only
      rw [e]
      refine decide_eq_true ((mo x).mpr ?_)
      by_cases z : x ∈ pu
      · exact .inl z
      · obtain ⟨i, hi⟩ := List.mem_iff_getElem?.mp (on x rfl)
        exact .inr ⟨i, (b i).mpr (.st List.mem_cons_self z hi), hi⟩
    · rw [List.length_map]
      have := nd_len ok a fun i hi => (b i).mp hi
      omega
  | none =>
    obtain ⟨r, c, L, eb, hc, a, b, rfl⟩ := h
    obtain ⟨k, c', ek, hc', alt⟩ := bk _ eb
    have ek' : r = k := by omega
    subst ek'
    rw [hc] at hc'
    cases hc'
    have key : (∀ i, Nd cs pu tr rw (c.map fun x => -x) i → ∀ m, tr[i]? = some m → -m ∉ pu ∧ (m ∈ c → False)) ∧ ∀ x ∈ c, -x ∈ pu ∨ -x ∈ tr := by
      rcases alt with ⟨p1, p2⟩ | ⟨p, i0, q1, q2, q3, q4, q5, q6⟩
      · exact ⟨fun i hi m hm => ⟨fun z => ok.con m (List.mem_of_getElem? hm) (p1 _ z), fun z => ok.con m (List.mem_of_getElem? hm) (p2 m z)⟩, fun x hx => .inr (p2 x hx)⟩
      · have hB : ∀ m ∈ c.map (fun x => -x), m ∈ pu ∨ m ∈ tr.take i0 := fun m hm => by
          obtain ⟨x, hx, rfl⟩ := List.mem_map.mp hm
          by_cases e : x = -p
          · exact .inl (by rw [e, Int.neg_neg]; exact q1)
          · exact .inr (q6 x hx e)
        refine ⟨fun i hi m hm => ?_, fun x hx => (hB _ (List.mem_map.mpr ⟨x, hx, rfl⟩)).imp id List.mem_of_mem_take⟩
        have lt := hi.lt ok hB
        have nm : m ≠ -p := fun e => by
          have := idx_one ok.nd (e ▸ hm) q3
          omega
        refine ⟨fun z => ?_, fun z => ok.con m (List.mem_of_getElem? hm) (List.mem_of_mem_take (q6 m z nm))⟩
        rcases q2 _ z with y | y
        · exact nm (by omega)
        · exact ok.con m (List.mem_of_getElem? hm) y
    obtain ⟨o, e, mo⟩ := bring_rows ok gn (fun i hi m hm => (key.1 i hi m hm).1) L a (fun i hi => (b i).mp hi) fun i _ j _ hj => (b j).mpr hj
    refine ⟨?_, ?_, ?_⟩
    · unfold shownP
      simp only
      rw [List.getLast?_append, List.getLast?_singleton]
      simp only [Option.some_or]
      rw [List.dropLast_concat, e]
      unfold broken
      simp only
      rw [clAt_nat hc]
      simp only
      rw [List.isEmpty_iff]
      unfold left
      refine List.filter_eq_nil_iff.mpr fun x hx => ?_
      have : -x ∈ o := by
        refine (mo _).mpr ?_
        by_cases z : -x ∈ pu
        · exact .inl z
        · rcases key.2 x hx with y | y
          · exact absurd y z
          · obtain ⟨i, hi⟩ := List.mem_iff_getElem?.mp y
            exact .inr ⟨i, (b i).mpr (.st (List.mem_map.mpr ⟨x, hx, rfl⟩) z hi), hi⟩
      simp [this]
    · rw [List.nodup_append]
      refine ⟨map_nodup (asc_nodup a) fun i hi j hj e => row_one ok ((b i).mp hi) ((b j).mp hj) e rfl, by simp, fun x hx y hy e => ?_⟩
      rw [List.mem_singleton.mp hy] at e
      obtain ⟨i, hi, ex⟩ := List.mem_map.mp hx
      obtain ⟨m, k', c2, a1, _, a3, a4, a5, _⟩ := ((b i).mp hi).row ok
      rw [rowN_of a3] at ex
      have ek : k' = r := by omega
      subst ek
      rw [hc] at a4
      cases a4
      exact (key.1 i ((b i).mp hi) m a1).2 a5
    · rw [List.length_append, List.length_map]
      have := nd_len ok a fun i hi => (b i).mp hi
      show L.length + 1 ≤ _
      omega

/-! ### sorted(d), d a dict of whole numbers, as long as it likes -/
theorem ints_of_keys' : ∀ {us : List Value} {ns : List Int}, us.length = ns.length → (∀ (j : Nat) (v : Value), us[j]? = some v → ∃ (x : Int) (t : Tok), ns[j]? = some x ∧ v = Value.int x t) → IntsAre us ns
  | [], [], _, _ => .nil
  | [], _ :: _, hl, _ => absurd hl (by simp)
  | _ :: _, [], hl, _ => absurd hl (by simp)
  | u :: us, n :: ns, hl, h => by
    obtain ⟨x, t, e1, e2⟩ := h 0 u rfl
    obtain rfl : n = x := Option.some.inj e1
    subst e2
    exact .cons _ _ (ints_of_keys' (Nat.succ.inj hl) fun j v e => h (j + 1) v e)
theorem vals_ints : ∀ {us : List Value} {ns : List Int}, IntsAre us ns → Vals (ns.map V.int) us
  | [], [], _ => .nil
  | _ :: _, _ :: _, .cons n t r => .cons ⟨t, rfl⟩ (vals_ints r)
section
variable {X : Cx}
theorem cr_sortedK (hcalm : X.calm = true) : CallR X (.builtin "sorted") (fun xs H Q => ∃ (a : Addr) (kvs : List (Key × V)) (ns : List Int), xs = [.ref a] ∧ H a = some (.dK kvs) ∧ kvs.map (·.1) = ns.map Sum.inl ∧
    ∀ (ns' : List Int) (p : Addr), ns'.Perm ns → ns'.Pairwise (· ≤ ·) → H p = none → Q (.ref p) (upd H p (.lst (ns'.map V.int)))) := by
  intro pins s σ H xs us Q I r h
  obtain ⟨a, kvs, ns, rfl, hd, hkeys, q⟩ := h
  obtain rfl := Vals.ref1 r
  obtain ⟨lo, nsys, ws, rel, dd⟩ := dk_of I.hok hd
  obtain ⟨ep, hat⟩ := dd.dictAt
  have hk2 : ws.map (·.1) = ns.map Sum.inl := rel.keys.symm.trans hkeys
  have lws : ws.length = ns.length := by
    have z := congrArg List.length hk2
    rw [List.length_map, List.length_map] at z
    exact z
  have few : ns.length ≤ sizeLine := by
    have z := congrArg List.length hkeys
    rw [List.length_map, List.length_map] at z
    omega
  refine call_function_entry_kw (kw := []) kind_sorted plain_sorted entry_sorted rfl ?_
  unfold Builtin.«sorted»
  refine wpAny_bind (m := checkCount "sorted" 1 1 _) (wpAny_pure ?_)
  refine wpAny_bind (PySem.W.kdu_collect (A := X.A.in1) (PySem.W.kdl_dict (knd := mixKind X.prog X.w) (kvs := ws) (ep := ep) nsys) (I.ok.hd hcalm) hat (by omega) fun h2 tk2 acc hk hacc => ?_)
  have la : acc.toList.length = ns.length := by rw [Array.length_toList, hacc.1, lws]
  have hS : IntsAre acc.toList ns := ints_of_keys' la fun j v ej => by
    obtain ⟨ky, x, e1, e2⟩ := hacc.2 j v (by rw [← Array.getElem?_toList]; exact ej)
    have e3 : (ws.map (·.1))[j]? = some ky := by
      rw [List.getElem?_map, e1]
      rfl
    rw [hk2, List.getElem?_map] at e3
    cases e4 : ns[j]? with
    | none =>
      rw [e4] at e3
      cases e3
    | some y =>
      rw [e4] at e3
      obtain rfl : Sum.inl y = ky := Option.some.inj e3
      rcases keyIs_shape (show keyIs (Sum.inl y) v = true from e2) with ⟨i, u, ek, eu⟩ | ⟨z, u, ek, eu⟩
      · cases ek
        exact ⟨y, u, rfl, eu⟩
      · cases ek
  have I2 : Inv X pins σ H { s with heap := h2, toks := tk2 } := I.kept hk
  refine wpAny_bind (wpAny_newList ?_ (by omega))
  have hL : (h2.push (seqObj "list" acc.toList.toArray 0)).get? h2.objs.size = some (seqObj "list" acc.toList.toArray 0) := Heap.get?_push_size _ rfl
  show wpAny _ _ _ _ _ { s with heap := h2.push (seqObj "list" acc.toList.toArray 0), toks := tk2 }
  refine wpAny_bind (wpAny_holding (wpAny_call_entry_kw (kw := []) slot_list_sort ⟨_, hL, rfl⟩ entry_list_sort ?body rfl))
  case body =>
    show wpAny _ X.A.in1.in1 (Builtin.«list.sort» ⟨[.ref h2.objs.size], []⟩) _ _ _
    refine SrtO.list_sort_ord (s := { s with heap := h2.push (seqObj "list" acc.toList.toArray 0), toks := tk2 }) (vs := acc.toList) SrtO.swo_int hL (by omega) (fun two => SrtO.ints_sortable hS two) fun out o1 o2 => ⟨_, rfl, wpAny_pure ⟨_, rfl, ?_⟩⟩
    obtain ⟨p1, p2, p3⟩ := SrtO.ints_out hS o1 o2
    obtain ⟨e, hD⟩ := sortedHeap_at (out := out.toArray) hL
    have hlen : ((out.map SrtO.iv).map V.int).length ≤ sizeLine := by
      rw [List.length_map, p2.length_eq]
      exact few
    exact ⟨.ref _, upd H h2.objs.size (.lst ((out.map SrtO.iv).map V.int)), I2.laid (t' := tk2) (fun b u z => by
      have lt := Heap.lt_size z
      rw [sortedHeap_old (Nat.ne_of_lt lt) (Nat.lt_trans lt (by rw [Heap.size_push]; exact Nat.lt_succ_self _))]
      exact Heap.get?_push_of_some _ z) (Nat.le_refl _) ⟨hlen, out, e, vals_ints p1, hD⟩, rfl, q _ _ p2 p3 (I2.hok.fresh (Nat.le_refl _))⟩
end

/-! ### the rows to some marks -/
def negF (x : V) : V := match x with
  | .int m => .int (-m)
  | y => y
def notI (m : Int) (x : V) : Bool := match x with
  | .int y => !decide (y = m)
  | _ => false
theorem map_negF (m : Int) (c : List Int) : ((c.map V.int).filter (notI m)).map negF = ((c.filter fun y => !decide (y = m)).map fun y => -y).map V.int := by
  rw [List.filter_map, List.map_map, List.map_map]
  rfl
theorem map_negF0 (c : List Int) : (((c.map V.int).filter fun _ => true).map negF) = (c.map fun y => -y).map V.int := by
  rw [List.filter_eq_self.mpr fun _ _ => rfl, List.map_map, List.map_map]
  rfl
def nI (N : List Nat) : List Int := N.map fun (i : Nat) => (i : Int)
theorem mem_nI {N : List Nat} {i : Nat} : (i : Int) ∈ nI N ↔ i ∈ N := by
  unfold nI
  rw [List.mem_map]
  exact ⟨fun ⟨j, hj, e⟩ => by
    have : j = i := by omega
    exact this ▸ hj, fun h => ⟨i, h, rfl⟩⟩
theorem nI_keys (ns : List Int) : (tru ns).map (·.1) = ns.map Sum.inl := by
  unfold tru
  rw [List.map_map]
  rfl
theorem asc_of {N : List Nat} (nd : N.Nodup) {ns : List Int} (p : ns.Perm (nI N)) (s : ns.Pairwise (· ≤ ·)) : ∃ L : List Nat, ns = L.map (fun (i : Nat) => (i : Int)) ∧ L.Pairwise (· < ·) ∧ ∀ i, i ∈ L ↔ i ∈ N := by
  have nn : (nI N).Nodup := map_nodup nd fun a _ b _ e => by omega
  have nn' : ns.Nodup := p.nodup_iff.mpr nn
  have e : ns = (ns.map Int.toNat).map fun (i : Nat) => (i : Int) := by
    rw [List.map_map]
    refine (List.map_id ns).symm.trans (List.map_congr_left fun x hx => ?_)
    obtain ⟨j, _, ej⟩ := List.mem_map.mp (p.mem_iff.mp hx)
    show x = ((x.toNat : Nat) : Int)
    omega
  refine ⟨ns.map Int.toNat, e, ?_, fun i => ?_⟩
  · have s2 : ns.Pairwise (· < ·) := (s.and nn').imp fun h => by
      have := h.1
      have := h.2
      omega
    rw [e, List.pairwise_map] at s2
    exact s2.imp fun h => by omega
  · rw [← mem_nI (N := N), ← p.mem_iff, List.mem_map]
    constructor
    · rintro ⟨x, hx, rfl⟩
      obtain ⟨j, _, ej⟩ := List.mem_map.mp (p.mem_iff.mp hx)
      have : ((x.toNat : Nat) : Int) = x := by omega
      rw [this]
      exact hx
    · intro h
      exact ⟨(i : Int), h, rfl⟩
def rowV (rw : List (Option Int)) (x : V) : V := match x with
  | .int i => .int (rowN rw i.toNat)
  | y => y
theorem map_rowV (rw : List (Option Int)) (L : List Nat) : (((L.map fun (i : Nat) => (i : Int)).map V.int).filter fun _ => true).map (rowV rw) = (L.map (rowN rw)).map V.int := by
  rw [List.filter_eq_self.mpr fun _ _ => rfl, List.map_map, List.map_map, List.map_map]
  rfl
def spRowsTo (C : Addr) : Sp := fun vs H Q _ => ∃ (A : FA) (D : Addr → Prop) (qs aq : List Addr) (kvs : List (Key × V)) (cs : List (List Int)) (o : List Int) (g : Int → List Nat) (tr : List Int) (rw : List (Option Int)) (pu : List Int) (ah : List (Int × Int)) (br : Option Int) (p : Addr) (ms : List Int) (W : Nat),
  vs = [.ref A.f, .ref p] ∧ FolR H C A D qs aq kvs cs o g tr rw pu ah br ∧ H p = some (.lst (ms.map V.int)) ∧ Okay cs pu tr rw ∧ (∀ m ∈ ms, m ∈ pu ∨ m ∈ tr) ∧ (∀ c ∈ cs, c.length ≤ W) ∧ ms.length + (tr.length + 1) * W ≤ 1000000 ∧ tr.length ≤ 1000000 ∧
  ∀ (H' : Hp) (q : Addr) (L : List Nat), Same H H' → H q = none → L.Pairwise (· < ·) → (∀ i, i ∈ L ↔ Nd cs pu tr rw ms i) → H' q = some (.lst ((L.map (rowN rw)).map V.int)) → Q (.ref q) H'
/-- what the walk holds -/
structure Rt (cs : List (List Int)) (pu tr : List Int) (rw : List (Option Int)) (ms : List Int) (N : List Nat) (ws : List Int) : Prop where
  nd : N.Nodup
  isN : ∀ i ∈ N, Nd cs pu tr rw ms i
  wt : ∀ m ∈ ws, m ∈ pu ∨ ∃ i, tr[i]? = some m ∧ (m ∉ pu → Nd cs pu tr rw ms i)
  st : ∀ m ∈ ms, m ∈ pu ∨ (∃ i ∈ N, tr[i]? = some m) ∨ m ∈ ws
  cl : ∀ i ∈ N, ∀ (m : Int) (k : Nat) (c : List Int), tr[i]? = some m → rw[i]? = some (some (k : Int)) → cs[k]? = some c → ∀ x ∈ c, x ≠ m → -x ∈ pu ∨ (∃ j ∈ N, tr[j]? = some (-x)) ∨ -x ∈ ws
theorem Rt.start {cs : List (List Int)} {pu tr ms : List Int} {rw : List (Option Int)} (h : ∀ m ∈ ms, m ∈ pu ∨ m ∈ tr) : Rt cs pu tr rw ms [] ms := by
  refine ⟨List.nodup_nil, (fun i hi => by cases hi), fun m hm => ?_, fun m hm => .inr (.inr hm), fun i hi => by cases hi⟩
  rcases h m hm with z | z
  · exact .inl z
  · obtain ⟨i, e⟩ := List.mem_iff_getElem?.mp z
    exact .inr ⟨i, e, fun n => .st hm n e⟩
/-- a mark that is done with -/
theorem Rt.drop {cs : List (List Int)} {pu tr ms ws : List Int} {rw : List (Option Int)} {N : List Nat} {m : Int} (h : Rt cs pu tr rw ms N (ws ++ [m])) (d : m ∈ pu ∨ ∃ i ∈ N, tr[i]? = some m) : Rt cs pu tr rw ms N ws := by
  have out : ∀ y, (y ∈ pu ∨ (∃ i ∈ N, tr[i]? = some y) ∨ y ∈ ws ++ [m]) → y ∈ pu ∨ (∃ i ∈ N, tr[i]? = some y) ∨ y ∈ ws := fun y z => by
    rcases z with z | z | z
    · exact .inl z
    · exact .inr (.inl z)
    · rcases List.mem_append.mp z with z | z
      · exact .inr (.inr z)
      · rw [List.mem_singleton.mp z]
        exact d.imp id .inl
  exact ⟨h.nd, h.isN, fun y hy => h.wt y (List.mem_append_left _ hy), fun y hy => out y (h.st y hy), fun i hi m' k c a b d x hx ne => out (-x) (h.cl i hi m' k c a b d x hx ne)⟩
/-- a mark whose row is needed -/
theorem Rt.more {cs : List (List Int)} {pu tr ms ws : List Int} {rw : List (Option Int)} {N : List Nat} {m : Int} {i k : Nat} {c : List Int} (ok : Okay cs pu tr rw) (h : Rt cs pu tr rw ms N (ws ++ [m])) (hm : tr[i]? = some m) (ni : Nd cs pu tr rw ms i) (nN : i ∉ N) (hk : rw[i]? = some (some (k : Int))) (hc : cs[k]? = some c)
    (ho : ∀ x ∈ c, x ≠ m → -x ∈ tr.take i) : Rt cs pu tr rw ms (N ++ [i]) (ws ++ (c.filter fun y => !decide (y = m)).map fun y => -y) := by
  have out : ∀ y, (y ∈ pu ∨ (∃ i ∈ N, tr[i]? = some y) ∨ y ∈ ws ++ [m]) → y ∈ pu ∨ (∃ j ∈ N ++ [i], tr[j]? = some y) ∨ y ∈ ws ++ (c.filter fun y => !decide (y = m)).map fun y => -y := fun y z => by
    rcases z with z | ⟨j, hj, e⟩ | z
    · exact .inl z
    · exact .inr (.inl ⟨j, List.mem_append_left _ hj, e⟩)
    · rcases List.mem_append.mp z with z | z
      · exact .inr (.inr (List.mem_append_left _ z))
      · rw [List.mem_singleton.mp z]
        exact .inr (.inl ⟨i, List.mem_append_right _ List.mem_cons_self, hm⟩)
  refine ⟨?_, fun j hj => ?_, fun y hy => ?_, fun y hy => out y (h.st y hy), fun j hj m' k' c' e1 e2 e3 x hx ne => ?_⟩
  · rw [List.nodup_append]
    exact ⟨h.nd, by simp, fun a ha b hb e => nN (by rw [← List.mem_singleton.mp hb, ← e]; exact ha)⟩
  · rcases List.mem_append.mp hj with z | z
    · exact h.isN j z
    · rw [List.mem_singleton.mp z]
      exact ni
  · rcases List.mem_append.mp hy with z | z
    · exact h.wt y (List.mem_append_left _ z)
    · obtain ⟨x, hx, rfl⟩ := List.mem_map.mp z
      rw [List.mem_filter] at hx
      have ne : x ≠ m := by simpa using hx.2
      obtain ⟨j, _, e⟩ := mem_take (ho x hx.1 ne)
      exact .inr ⟨j, e, fun n => .cl ni hm hk hc hx.1 ne n e⟩
  · rcases List.mem_append.mp hj with z | z
    · exact out (-x) (h.cl j z m' k' c' e1 e2 e3 x hx ne)
    · rw [List.mem_singleton] at z
      subst z
      rw [hm] at e1
      cases e1
      rw [hk] at e2
      have ek : k = k' := by
        injection e2 with e2
        injection e2 with e2
        omega
      subst ek
      rw [hc] at e3
      cases e3
      exact .inr (.inr (List.mem_append_right _ (List.mem_map.mpr ⟨x, List.mem_filter.mpr ⟨hx, by simpa using ne⟩, rfl⟩)))
/-- all of it -/
theorem Rt.all {cs : List (List Int)} {pu tr ms : List Int} {rw : List (Option Int)} {N : List Nat} (ok : Okay cs pu tr rw) (h : Rt cs pu tr rw ms N []) : ∀ i, i ∈ N ↔ Nd cs pu tr rw ms i := by
  refine fun i => ⟨h.isN i, fun n => ?_⟩
  induction n with
  | @st i m h1 h2 h3 =>
    rcases h.st m h1 with z | ⟨j, hj, e⟩ | z
    · exact absurd z h2
    · rw [idx_one ok.nd h3 e]
      exact hj
    · cases z
  | @cl i j k c x m h1 h2 h3 h4 h5 h6 h7 h8 ih =>
    rcases h.cl i ih m k c h2 h3 h4 x h5 h6 with z | ⟨j', hj, e⟩ | z
    · exact absurd z h7
    · rw [idx_one ok.nd h8 e]
      exact hj
    · cases z
section
variable {P : Program} {w : World} {K : PySem.W.Frag} {mg : Str → Option Value} {base : Heap}
theorem hm_rowsto {cs : Nat → Addr} (T : Top K mg cs) (h_Follower__row_of : HasM P w K mg base (cs 0) 1 "_row_of" ["self", "mark"] (spRowOf (cs 0))) : HasM P w K mg base (cs 0) 2 "_rows_to" ["self", "marks"] (spRowsTo (cs 0)) := by
  refine has_ofM T.m_Follower__rows_to sc_Follower__rows_to bd_Follower__rows_to (fun vs H Q E h => ?_) (fun f cdv Ar outer s H vs Q E hr h => ?_)
  · obtain ⟨A, D, qs, aq, kvs, ks, o, g, tr, rw, pu, ah, br, p, ms, W, rfl, _⟩ := h
    rfl
  · have hu := hu_of hr
    have nd := sc_Follower__rows_to.nd
    obtain ⟨A, D, qs, aq, kvs, ks, o, g, tr, rw, pu, ah, br, p, ms, W, rfl, F, hp, ok, hms, hW, small, lt, k⟩ := h
    refine ⟨_, (pss_cons (ps_set (i := 2) nd rfl (.inl rfl) pe_dnewK)
    (pss_cons (ps_set (i := 3) nd rfl (.inl rfl) (pe_callTy call_list_of (by rfl) T.b_list (by decide +kernel) (pa_cons (pv 1) pa_nil)))
    (pss_cons (ps_while PassesOwn.never (pt_truth (pv 3) (by intro _; rfl)) (pss_cons (ps_set (i := 4) nd rfl (.inr rfl) (pe_bm0 PySem.F.plainAttrs_list PySem.F.slot_list_pop PySem.F.type_list_pop mt_pop (pv 3)))
    (pss_one (ps_if (PW.pt (pw_and (pt_cmp (pc_dnotin hu (pv 4) (pe_fld (pv 0) rfl))) (pw_and1 (pt_cmp (pc_dnotin hu (pe_dget hu (pe_fld (pv 0) rfl) (pv 4) (fun _ _ => rfl)) (pv 2)))))) (pss_cons (ps_dput hu (pv 2) (pe_dget hu (pe_fld (pv 0) rfl) (pv 4) (fun _ _ => rfl)) pe_bl rfl)
    (pss_cons (ps_set (i := 5) nd rfl (.inl rfl) (pe_hasM T.cl_Follower h_Follower__row_of (hr.mono (by omega)) (pv 0) (pa_cons (pv 4) pa_nil)))
    (pss_one (ps_expr (pe_bm PySem.F.plainAttrs_list PySem.F.slot_list_extend PySem.F.type_list_extend mt_extend (pv 3) (pa_cons (pe_lc (own := [("off", 7)]) (by rfl) nd (pi_tup (pe_ix ix_list (pe_fld (pv 0) rfl) (pv 5) (fun _ _ => rfl))) (blkOk_by (own := [("off", 7)]) (N := nm_Follower__rows_to) (sc := defScope s_Follower__rows_to) (by decide +kernel)) (fun _ _ _ _ _ => pg_name (i := 7) nd rfl (.inl rfl)) (fun _ _ _ _ _ => pts_one (pt_cmpR op_ne (pv 7) (pv 4) (nomark _))) (fun _ _ _ _ _ => (pe_un un_neg (pv 7)))) pa_nil)))))) pss_nil))))
    (pss_one (ps_ret (pe_lc (own := [("place", 6)]) (by rfl) nd (pi_list (pe_callB (cr_sortedK rfl) (by rfl) T.b_sorted (by decide +kernel) (pa_cons (pv 2) pa_nil))) (blkOk_by (own := [("place", 6)]) (N := nm_Follower__rows_to) (sc := defScope s_Follower__rows_to) (by decide +kernel)) (fun _ _ _ _ _ => pg_name (i := 6) nd rfl (.inl rfl)) (fun _ _ _ _ _ => pts_nil) (fun _ _ _ _ _ => (pe_ix (ix_listK (K := K) rfl) (pe_fldK (K := K) rfl (pv 0) rfl) (pv 6) (fun _ _ => rfl))))))))), ?_⟩
    have line : 1100000 < sizeLine := by decide
    intro d hd
    have s1 : Same H (upd H d (.dK [])) := same_new hd
    refine ⟨_, rfl, p, _, rfl, .inl (SqL.of (s1 _ _ hp)), fun wq hwq => ?_⟩
    have s2 : Same H (upd (upd H d (.dK [])) wq (.lst (ms.map V.int))) := s1.trans (same_new hwq)
    have ndw : d ≠ wq := fun e => by
      rw [← e, upd_same] at hwq
      cases hwq
    have nwq : H wq = none := by
      rw [← hwq, upd_ne ndw.symm]
    have d2 : (upd (upd H d (.dK [])) wq (.lst (ms.map V.int))) d = some (.dK (tru (nI []))) := by
      rw [upd_ne ndw, upd_same]
      rfl
    have hlW : ∀ n : Nat, n ≤ tr.length → ms.length + n * W + W ≤ 1000000 := fun n hn => by
      have : n * W ≤ tr.length * W := Nat.mul_le_mul_right W hn
      rw [Nat.succ_mul] at small
      omega
    refine ⟨fun n σ H' => ∃ (v4 v5 v6 v7 : Option V) (ws : List Int) (N : List Nat), σ = [some (.ref A.f), some (.ref p), some (.ref d), some (.ref wq), v4, v5, v6, v7] ∧ Same H H' ∧ H' d = some (.dK (tru (nI N))) ∧ H' wq = some (.lst (ws.map V.int)) ∧ Rt ks pu tr rw ms N ws ∧
      ws.length ≤ ms.length + N.length * W ∧ n = ws.length + (tr.length - N.length) * (W + 1), ⟨_, none, none, none, none, ms, [], rfl, s2, d2, upd_same, .start hms, by omega, rfl⟩, ?_⟩
    rintro n σ H1 ⟨v4, v5, v6, v7, ws, N, rfl, sm, hd1, hw1, rt, lw, rfl⟩
    have F1 := F.same sm
    have lN : N.length ≤ tr.length := by
      have := nodup_le rt.nd (ys := List.range tr.length) fun i hi => by
        obtain ⟨m, _, _, a1, _⟩ := (rt.isN i hi).row ok
        exact List.mem_range.mpr (List.getElem?_eq_some_iff.mp a1).1
      rw [List.length_range] at this
      exact this
    refine ⟨_, rfl, _, .inl ⟨_, SqL.of hw1, rfl⟩, ?_⟩
    rw [List.isEmpty_map]
    rcases List.eq_nil_or_concat ws with rfl | ⟨ws0, m, rfl⟩
    · -- the rows, in their order
      refine iteF ⟨_, rfl, d, tru (nI N), nI N, rfl, hd1, nI_keys _, fun ns' q perm pw nq => ?_⟩
      obtain ⟨L, rfl, asc, mL⟩ := asc_of rt.nd perm pw
      have all := fun i => (mL i).trans (rt.all ok i)
      have sq : Same H (upd H1 q (.lst ((L.map fun (i : Nat) => (i : Int)).map V.int))) := sm.trans (same_new nq)
      have hq : (upd H1 q (.lst ((L.map fun (i : Nat) => (i : Int)).map V.int))) q = some (.lst ((L.map fun (i : Nat) => (i : Int)).map V.int)) := upd_same
      generalize upd H1 q (.lst ((L.map fun (i : Nat) => (i : Int)).map V.int)) = H2 at sq hq
      have lL : L.length ≤ tr.length := nd_len ok asc fun i hi => (all i).mp hi
      have F2 := F.same sq
      refine ⟨q, rfl, ⟨_, SqL.of hq⟩, fun Z nZ => lc_sel_list (fun _ => true) (rowV rw) (SqL.of hq) nZ (by rw [List.length_map, List.length_map]; omega) (fun x hx => ?_) fun H3 s3 h3 => ?_⟩
      · obtain ⟨y, hy, rfl⟩ := List.mem_map.mp hx
        obtain ⟨i, hi, rfl⟩ := List.mem_map.mp hy
        refine ⟨rfl, fun H' s' R g => g H' (Same.refl _), fun _ H' s' R g => ?_⟩
        obtain ⟨m, k', c, a1, _, a3, _⟩ := ((all i).mp hi).row ok
        have er : (rw.map optI)[i]? = some (.int (k' : Int)) := by
          rw [List.getElem?_map, a3]
          rfl
        have g' : ∀ H'', Same H' H'' → R (V.int (rowN rw i)) H'' := g
        rw [rowN_of a3] at g'
        have F3 := F2.same s'
        exact ⟨_, rfl, A.f, cs 0, A.dx, _, _, rfl, F3.ins, T.cl_Follower, T.n_Follower__rows, rfl, _, rfl, A.rw, _, _, _, rfl, rfl, SqL.of F3.rwl, atI_nat er, g' H' (Same.refl _)⟩
      · rw [map_rowV] at h3
        exact k H3 Z L (sq.trans s3) (sq.free nZ) asc all h3
    · rw [List.concat_eq_append] at hw1 rt lw ⊢
      have ne : (ws0 ++ [m]).isEmpty = false := by
        cases ws0 <;> rfl
      rw [ne]
      have lastM : ((ws0 ++ [m]).map V.int)[((ws0 ++ [m]).map V.int).length - 1]? = some (.int m) := by
        rw [List.length_map, List.length_append, List.length_singleton, Nat.add_sub_cancel, List.getElem?_map, List.getElem?_append_right (Nat.le_refl _), Nat.sub_self]
        rfl
      have dropM : ((ws0 ++ [m]).map V.int).dropLast = ws0.map V.int := by
        rw [List.map_append]
        exact List.dropLast_concat
      refine iteT ⟨_, fun σ' H' h => h, ?_⟩
      refine ⟨_, rfl, .inl ⟨rfl, _, SqL.of hw1⟩, wq, _, _, rfl, rfl, hw1, lastM, ?_⟩
      rw [dropM]
      have sm2 : Same H (upd H1 wq (.lst (ws0.map V.int))) := same_mut sm nwq
      have hd2 : (upd H1 wq (.lst (ws0.map V.int))) d = some (.dK (tru (nI N))) := by
        rw [upd_ne ndw]
        exact hd1
      have hw2 : (upd H1 wq (.lst (ws0.map V.int))) wq = some (.lst (ws0.map V.int)) := upd_same
      generalize upd H1 wq (.lst (ws0.map V.int)) = H2 at sm2 hd2 hw2
      have F2 := F.same sm2
      rw [List.length_append, List.length_singleton] at lw ⊢
      refine ⟨_, rfl, _, rfl, A.f, cs 0, A.dx, _, _, rfl, F2.ins, T.cl_Follower, T.n_Follower__is_put, rfl, A.ip, _, rfl, DGet.k (k := Sum.inl m) F2.ipd, _, rfl, ?_⟩
      rw [tru_some]
      have hwm := rt.wt m (List.mem_append_right _ List.mem_cons_self)
      by_cases hmp : m ∈ pu
      · rw [decide_eq_true hmp]
        exact iteF (iteF ⟨_, by omega, _, _, _, _, ws0, N, rfl, sm2, hd2, hw2, rt.drop (.inl hmp), by omega, rfl⟩)
      rw [decide_eq_false hmp]
      obtain ⟨i, ei, ni⟩ : ∃ i, tr[i]? = some m ∧ Nd ks pu tr rw ms i := by
        rcases hwm with z | ⟨i, e, z⟩
        · exact absurd z hmp
        · exact ⟨i, e, z hmp⟩
      obtain ⟨m', k', c, a1, _, a3, a4, a5, a6⟩ := ni.row ok
      rw [ei] at a1
      cases a1
      have gp : DGet H2 A.pl (.int m) (some (.int (i : Nat))) := by
        have g := DGet.k (k := (Sum.inl m : Key)) F2.pld
        rw [plD_some ok.nd ei] at g
        exact g
      refine iteT ⟨_, rfl, A.f, cs 0, A.dx, _, _, rfl, F2.ins, T.cl_Follower, T.n_Follower__place, rfl, _, rfl, A.pl, _, rfl, gp, _, rfl, d, _, rfl, DGet.k (k := Sum.inl (i : Int)) hd2, _, rfl, ?_⟩
      rw [tru_some]
      by_cases hN : i ∈ N
      · rw [decide_eq_true (mem_nI.mpr hN)]
        exact iteF ⟨_, by omega, _, _, _, _, ws0, N, rfl, sm2, hd2, hw2, rt.drop (.inr ⟨i, hN, ei⟩), by omega, rfl⟩
      have hN' : (i : Int) ∉ nI N := fun z => hN (mem_nI.mp z)
      rw [decide_eq_false hN']
      have lN' : N.length + 1 ≤ tr.length := by
        have := nodup_le (xs := N ++ [i]) (ys := List.range tr.length) (by rw [List.nodup_append]; exact ⟨rt.nd, by simp, fun a ha b hb e => hN (by rw [← List.mem_singleton.mp hb, ← e]; exact ha)⟩) fun j hj => by
          rcases List.mem_append.mp hj with z | z
          · obtain ⟨m, _, _, a1, _⟩ := (rt.isN j z).row ok
            exact List.mem_range.mpr (List.getElem?_eq_some_iff.mp a1).1
          · rw [List.mem_singleton.mp z]
            exact List.mem_range.mpr (List.getElem?_eq_some_iff.mp ei).1
        rw [List.length_append, List.length_range] at this
        exact this
      refine iteT ⟨_, rfl, _, rfl, A.f, cs 0, A.dx, _, _, rfl, F2.ins, T.cl_Follower, T.n_Follower__place, rfl, _, rfl, A.pl, _, rfl, gp, d, _, rfl, DPut.k (k := Sum.inl (i : Int)) hd2 (by unfold tru nI; rw [List.length_map, List.length_map]; omega), ?_⟩
      rw [tru_put, show ins (nI N) (i : Int) = nI (N ++ [i]) from by unfold nI; rw [List.map_append]; exact if_neg hN']
      have sm3 : Same H (upd H2 d (.dK (tru (nI (N ++ [i]))))) := same_mut sm2 hd
      have hd3 : (upd H2 d (.dK (tru (nI (N ++ [i]))))) d = some (.dK (tru (nI (N ++ [i])))) := upd_same
      have hw3 : (upd H2 d (.dK (tru (nI (N ++ [i]))))) wq = some (.lst (ws0.map V.int)) := by
        rw [upd_ne ndw.symm]
        exact hw2
      generalize upd H2 d (.dK (tru (nI (N ++ [i])))) = H3 at sm3 hd3 hw3
      have F3 := F.same sm3
      have lqk : k' < qs.length := by
        have := F.re.cn
        have := (List.getElem?_eq_some_iff.mp a4).1
        omega
      have hqk : qs[k']? = some qs[k'] := List.getElem?_eq_getElem lqk
      have hct := F3.re.ct k' _ _ hqk a4
      have eq : (qs.map V.ref)[k']? = some (.ref qs[k']) := by
        rw [List.getElem?_map, hqk]
        rfl
      generalize qs[k'] = q at hqk hct eq
      have lc := hW c (List.mem_of_getElem? a4)
      have b1 := hlW N.length lN
      have b2 := hlW (N.length + 1) lN'
      rw [Nat.succ_mul] at b2
      refine ⟨_, rfl, A.f, A.dx, _, rfl, F3.ins, rfl, _, rfl, A, br, tr, rw, m, i, some (k' : Int), rfl, F3.ins, F3.pld, F3.rwl, ok.nd, ei, a3, ?_⟩
      refine ⟨_, rfl, .inl ⟨rfl, _, SqL.of hw3⟩, _, rfl, A.f, cs 0, A.dx, _, _, rfl, F3.ins, T.cl_Follower, T.n_Follower__clauses, rfl, _, rfl, A.cl, _, _, _, rfl, rfl, SqL.of F3.cl, atI_nat eq, q, rfl, ⟨_, SqT.of hct⟩, fun Z nZ => lc_sel_tup (notI m) negF (SqT.of hct) nZ (by rw [List.length_map]; omega) (fun x hx => ?_) fun H4 s4 h4 => ?_⟩
      · obtain ⟨y, _, rfl⟩ := List.mem_map.mp hx
        refine ⟨rfl, fun H' s' R g => ⟨_, rfl, _, rfl, rfl, _, rfl, ?_⟩, fun _ H' s' R g => ⟨_, rfl, y, rfl, g H' (Same.refl _)⟩⟩
        have g' : ∀ H'', Same H' H'' → R (!decide (y = m)) H'' := g
        have e : decide (V.int y = V.int m) = decide (y = m) := by simp
        rw [e]
        exact g' H' (Same.refl _)
      · rw [map_negF] at h4
        have hw4 := s4 _ _ hw3
        have hd4 := s4 _ _ hd3
        have lf : ((c.filter fun y => !decide (y = m)).map fun y => -y).length ≤ W := by
          rw [List.length_map]
          exact Nat.le_trans (List.length_filter_le _ _) lc
        refine ⟨wq, Z, _, _, rfl, rfl, hw4, h4, by rw [List.length_map, List.length_map]; omega, ?_⟩
        rw [← List.map_append]
        have e1 : (N ++ [i]).length = N.length + 1 := by rw [List.length_append]; rfl
        have e2 : tr.length - N.length = (tr.length - (N.length + 1)) + 1 := by omega
        refine ⟨(ws0 ++ (c.filter fun y => !decide (y = m)).map fun y => -y).length + (tr.length - (N ++ [i]).length) * (W + 1), ?_, _, _, _, _, ws0 ++ (c.filter fun y => !decide (y = m)).map fun y => -y, N ++ [i], rfl, same_mut (sm3.trans s4) nwq, ?_, upd_same, rt.more ok ei ni hN a3 a4 a6, ?_, rfl⟩
        · rw [List.length_append, e1, e2, Nat.succ_mul]
          omega
        · rw [upd_ne ndw]
          exact hd4
        · rw [List.length_append, e1, Nat.succ_mul]
          omega
end
def spShownM (C : Addr) : Sp := fun vs H Q _ => ∃ (A : FA) (D : Addr → Prop) (cs : List (List Int)) (pu tr : List Int) (rw : List (Option Int)) (ah : List (Int × Int)) (br m : Option Int) (W : Nat), vs = [.ref A.f, optI m] ∧ Fol H C A D cs pu tr rw ah br ∧
  (∀ x, m = some x → br = none ∧ x ∈ tr) ∧ (m = none → br ≠ none) ∧ (∀ c ∈ cs, c.length ≤ W) ∧ (tr.length + 2) * W + 1 ≤ 1000000 ∧ tr.length ≤ 999999 ∧
  ∀ (H' : Hp) (q : Addr) (rs : List Int), Same H H' → H q = none → H' q = some (.lst (rs.map V.int)) → ShownIs cs pu tr rw br m rs → Q (.ref q) H'
theorem Fol.shows {H : Hp} {C : Addr} {A : FA} {D : Addr → Prop} {cs : List (List Int)} {pu tr rs : List Int} {rw : List (Option Int)} {ah : List (Int × Int)} {br m : Option Int} (h : Fol H C A D cs pu tr rw ah br) (s : ShownIs cs pu tr rw br m rs) (on : ∀ x, m = some x → x ∈ tr) :
    shownP cs pu rs m = true ∧ rs.Nodup ∧ rs.length ≤ tr.length + 1 := by
  obtain ⟨qs, aq, kvs, X⟩ := h
  exact s.ok X.ok X.gd.nd (fun e => (X.cl e).2) X.bk on
section
variable {P : Program} {w : World} {K : PySem.W.Frag} {mg : Str → Option Value} {base : Heap}
theorem hm_shown {cs : Nat → Addr} (T : Top K mg cs) (h_Follower__refuse_broken : HasM P w K mg base (cs 0) 1 "_refuse_broken" ["self"] (spRefuse (cs 0))) (h_Follower__rows_to : HasM P w K mg base (cs 0) 2 "_rows_to" ["self", "marks"] (spRowsTo (cs 0))) : HasM P w K mg base (cs 0) 3 "shown" ["self", "mark"] (spShownM (cs 0)) := by
  refine has_ofM T.m_Follower_shown sc_Follower_shown bd_Follower_shown (fun vs H Q E h => ?_) (fun f cdv Ar outer s H vs Q E hr h => ?_)
  · obtain ⟨A, D, ks, pu, tr, rw, ah, br, m, W, rfl, _⟩ := h
    rfl
  · have hu := hu_of hr
    have nd := sc_Follower_shown.nd
    obtain ⟨A, D, ks, pu, tr, rw, ah, br, m, W, rfl, ⟨qs, aq, kvs, X⟩, on, nb, hW, small, lt, k⟩ := h
    have F := X.r
    refine ⟨_, (pss_cons (ps_if (pt_cmpR op_isN (pv 1) pe_non (nomark _)) (pss_cons (ps_if (pt_cmpR op_isN (pe_fld (pv 0) rfl) pe_non (nomark _)) (pss_one ps_never) pss_nil)
    (pss_cons (ps_set (i := 2) nd rfl (.inl rfl) (pe_ix ix_list (pe_fld (pv 0) rfl) (pe_fld (pv 0) rfl) (fun _ _ => rfl)))
    (pss_one (ps_ret (pe_op op_cat (pe_hasM T.cl_Follower h_Follower__rows_to (hr.mono (by omega)) (pv 0) (pa_cons (pe_lc (own := [("off", 3)]) (by rfl) nd (pi_tup (pv 2)) (blkOk_by (own := [("off", 3)]) (N := nm_Follower_shown) (sc := defScope s_Follower_shown) (by decide +kernel)) (fun _ _ _ _ _ => pg_name (i := 3) nd rfl (.inl rfl)) (fun _ _ _ _ _ => pts_nil) (fun _ _ _ _ _ => (pe_un un_neg (pv 3)))) pa_nil)) (pe_lst (pa_cons (pe_fld (pv 0) rfl) pa_nil))))))) pss_nil)
    (pss_cons (ps_expr (pe_hasM0 T.cl_Follower h_Follower__refuse_broken (hr.mono (by omega)) (pv 0)))
    (pss_cons (ps_if (pt_cmp (pc_dnotin hu (pv 1) (pe_fld (pv 0) rfl))) (pss_one ps_never) pss_nil)
    (pss_one (ps_ret (pe_hasM T.cl_Follower h_Follower__rows_to (hr.mono (by omega)) (pv 0) (pa_cons (pe_lst (pa_cons (pv 1) pa_nil)) pa_nil))))))), ?_⟩
    have line : 1100000 < sizeLine := by decide
    have sW : ∀ n : Nat, n ≤ W + 1 → n + (tr.length + 1) * W ≤ 1000000 := fun n hn => by
      rw [Nat.succ_mul] at small
      rw [Nat.succ_mul] at small ⊢
      omega
    cases m with
    | some x =>
      obtain ⟨rfl, hx⟩ := on x rfl
      refine ⟨_, rfl, rfl, _, rfl, iteF ?_⟩
      refine ⟨_, rfl, A.f, A.dx, _, rfl, F.ins, rfl, A, rfl, F.ins, ?_⟩
      refine ⟨_, rfl, _, rfl, A.f, cs 0, A.dx, _, _, rfl, F.ins, T.cl_Follower, T.n_Follower__place, rfl, A.pl, _, rfl, DGet.k (k := Sum.inl x) F.pld, _, rfl, ?_⟩
      rw [plD_is X.ok.nd, decide_eq_true hx]
      refine iteF ⟨_, rfl, A.f, A.dx, _, rfl, F.ins, rfl, _, rfl, by show 1 ≤ sizeLine; decide, fun e1 n1 => ?_⟩
      have s1 := same_new (o := .lst [.int x]) n1
      refine ⟨A, D, qs, aq, kvs, ks, _, _, tr, rw, pu, ah, none, e1, [x], W, rfl, F.same s1, upd_same, X.ok, fun y hy => .inr (by rw [List.mem_singleton.mp hy]; exact hx), hW, sW 1 (by omega), by omega, fun H2 q L s2 nq asc all hq => ?_⟩
      exact k H2 q _ (s1.trans s2) (s1.free nq) hq ⟨rfl, L, asc, all, rfl⟩
    | none =>
      cases br with
      | none => exact absurd rfl (nb rfl)
      | some r =>
        obtain ⟨k', c, er, hc, alt⟩ := X.bk r rfl
        subst er
        have old : ∀ y ∈ c.map (fun x => -x), y ∈ pu ∨ y ∈ tr := fun y hy => by
          obtain ⟨k2, c2, e2, hc2, ho⟩ := (X.bk _ rfl).old
          have : k' = k2 := by omega
          subst this
          rw [hc] at hc2
          cases hc2
          obtain ⟨x, hx, rfl⟩ := List.mem_map.mp hy
          exact (ho x hx).symm
        have lqk : k' < qs.length := by
          have := F.re.cn
          have := (List.getElem?_eq_some_iff.mp hc).1
          omega
        have hqk : qs[k']? = some qs[k'] := List.getElem?_eq_getElem lqk
        have hct := F.re.ct k' _ _ hqk hc
        have eq : (qs.map V.ref)[k']? = some (.ref qs[k']) := by
          rw [List.getElem?_map, hqk]
          rfl
        generalize qs[k'] = q at hqk hct eq
        have lc := hW c (List.mem_of_getElem? hc)
        have w1 := sW W (by omega)
        refine ⟨_, rfl, rfl, _, rfl, iteT ?_⟩
        refine ⟨_, rfl, A.f, cs 0, A.dx, _, _, rfl, F.ins, T.cl_Follower, T.n_Follower__broken_row, rfl, rfl, _, rfl, iteF ?_⟩
        refine ⟨_, rfl, A.f, cs 0, A.dx, _, _, rfl, F.ins, T.cl_Follower, T.n_Follower__clauses, rfl, _, rfl, A.f, cs 0, A.dx, _, _, rfl, F.ins, T.cl_Follower, T.n_Follower__broken_row, rfl, A.cl, _, _, _, rfl, rfl, SqL.of F.cl, atI_nat eq, ?_⟩
        refine ⟨_, rfl, A.f, A.dx, _, rfl, F.ins, rfl, _, rfl, q, rfl, ⟨_, SqT.of hct⟩, fun Z nZ => lc_sel_tup (fun _ => true) negF (SqT.of hct) nZ (by rw [List.length_map]; omega) (fun x hx => ?_) fun H1 s1 h1 => ?_⟩
        · obtain ⟨y, _, rfl⟩ := List.mem_map.mp hx
          exact ⟨rfl, fun H' s' R g => g H' (Same.refl _), fun _ H' s' R g => ⟨_, rfl, y, rfl, g H' (Same.refl _)⟩⟩
        · rw [map_negF0] at h1
          refine ⟨A, D, qs, aq, kvs, ks, _, _, tr, rw, pu, ah, some (k' : Int), Z, c.map (fun x => -x), W, rfl, F.same s1, h1, X.ok, old, hW, by rw [List.length_map]; exact sW _ (by omega), by omega, fun H2 q2 L s2 nq asc all hq => ?_⟩
          have lL : L.length ≤ tr.length := nd_len X.ok asc fun i hi => (all i).mp hi
          have F2 := (F.same s1).same s2
          refine ⟨_, rfl, A.f, cs 0, A.dx, _, _, rfl, F2.ins, T.cl_Follower, T.n_Follower__broken_row, rfl, by show 1 ≤ sizeLine; decide, fun e3 n3 => ?_⟩
          refine ⟨q2, e3, _, _, rfl, rfl, same_new n3 _ _ hq, upd_same, by rw [List.length_map, List.length_map]; show L.length + 1 ≤ sizeLine; omega, fun q4 n4 => ?_⟩
          exact k _ q4 (L.map (rowN rw) ++ [(k' : Int)]) (((s1.trans s2).trans (same_new n3)).trans (same_new n4)) (((s1.trans s2).trans (same_new n3)).free n4) (by rw [upd_same, List.map_append]; rfl) ⟨k', c, L, rfl, hc, asc, all, rfl⟩
end

/-! ### marks of unlike names -/
def nas (l : List Int) : List Nat := l.map Int.natAbs
structure Un (ms : List Int) : Prop where
  nd : (nas ms).Nodup
  nz : ∀ x ∈ ms, x ≠ 0
  lim : ∀ x ∈ ms, x.natAbs ≤ 10 ^ 12
theorem Un.nodup {ms : List Int} (h : Un ms) : ms.Nodup := by
  have := h.nd
  unfold nas at this
  exact (List.pairwise_map.mp this).imp fun h e => h (by rw [e])
theorem nas_one : ∀ {l : List Int}, (nas l).Nodup → ∀ x ∈ l, ∀ y ∈ l, x.natAbs = y.natAbs → x = y
  | a :: r, h, x, hx, y, hy, e => by
    have h' := List.nodup_cons.mp (show (a.natAbs :: nas r).Nodup from h)
    rcases List.mem_cons.mp hx with rfl | hx'
    · rcases List.mem_cons.mp hy with rfl | hy'
      · rfl
      · exact absurd (show x.natAbs ∈ nas r from List.mem_map.mpr ⟨y, hy', e.symm⟩) h'.1
    · rcases List.mem_cons.mp hy with rfl | hy'
      · exact absurd (show y.natAbs ∈ nas r from List.mem_map.mpr ⟨x, hx', e⟩) h'.1
      · exact nas_one h'.2 x hx' y hy' e
theorem Un.con {ms : List Int} (h : Un ms) {x : Int} (hx : x ∈ ms) : -x ∉ ms := fun z => by
  have e := nas_one h.nd x hx (-x) z (by omega)
  have := h.nz x hx
  omega
theorem Un.of_perm {ms ys : List Int} (h : Un ms) (p : (nas ys).Perm (nas ms)) : Un ys := by
  refine ⟨(p.nodup_iff).mpr h.nd, fun x hx z => ?_, fun x hx => ?_⟩
  · subst z
    have := p.mem_iff.mp (List.mem_map.mpr ⟨0, hx, rfl⟩)
    obtain ⟨y, hy, e⟩ := List.mem_map.mp this
    have := h.nz y hy
    omega
  · obtain ⟨y, hy, e⟩ := List.mem_map.mp (p.mem_iff.mp (List.mem_map.mpr ⟨x, hx, rfl⟩))
    have := h.lim y hy
    omega
/-- a clause of marks of these names -/
structure ClM (ms c : List Int) : Prop where
  nd : (nas c).Nodup
  sub : ∀ x ∈ c, ∃ y ∈ ms, x.natAbs = y.natAbs
theorem ClM.nodup {ms c : List Int} (h : ClM ms c) : c.Nodup := by
  have := h.nd
  unfold nas at this
  exact (List.pairwise_map.mp this).imp fun h e => h (by rw [e])
theorem ClM.nz {ms c : List Int} (h : ClM ms c) (u : Un ms) {x : Int} (hx : x ∈ c) : x ≠ 0 := by
  obtain ⟨y, hy, e⟩ := h.sub x hx
  have := u.nz y hy
  omega
theorem ClM.nil (ms : List Int) : ClM ms [] := ⟨List.nodup_nil, fun x hx => by cases hx⟩
theorem ClM.of_perm {ms ys ss : List Int} (h : Un ms) (p : (nas ys ++ nas ss).Perm (nas ms)) : ClM ms ys := by
  have n := (p.nodup_iff).mpr h.nd
  refine ⟨n.sublist (List.sublist_append_left _ _), fun x hx => ?_⟩
  obtain ⟨y, hy, e⟩ := List.mem_map.mp (p.mem_iff.mp (List.mem_append_left _ (List.mem_map.mpr ⟨x, hx, rfl⟩)))
  exact ⟨y, hy, e.symm⟩
theorem ClM.of_nas {ms c d : List Int} (h : ClM ms c) (e : nas d = nas c) : ClM ms d := by
  refine ⟨by rw [e]; exact h.nd, fun x hx => ?_⟩
  have : x.natAbs ∈ nas d := List.mem_map.mpr ⟨x, hx, rfl⟩
  rw [e] at this
  obtain ⟨y, hy, ey⟩ := List.mem_map.mp this
  obtain ⟨z, hz, ez⟩ := h.sub y hy
  exact ⟨z, hz, by omega⟩
theorem nas_snoc (l : List Int) (y : Int) : nas (l ++ [y]) = nas l ++ [y.natAbs] := by
  unfold nas
  rw [List.map_append]
  rfl
theorem erase_perm : ∀ (l : List Int) (r : Nat) (h : r < l.length), (l[r] :: l.eraseIdx r).Perm l
  | a :: t, 0, _ => List.Perm.refl _
  | a :: t, r + 1, h => (List.Perm.swap a _ _).trans ((List.perm_cons a).mpr (erase_perm t r (by simpa using h)))
theorem perm_move {ys ss : List Int} {r : Nat} (hr : r < ss.length) {y : Int} (e : y.natAbs = ss[r].natAbs) : (nas (ys ++ [y]) ++ nas (ss.eraseIdx r)).Perm (nas ys ++ nas ss) := by
  rw [nas_snoc, e, List.append_assoc]
  refine List.Perm.append_left _ ?_
  have p := (erase_perm ss r hr).map Int.natAbs
  exact p
theorem Tape.cs {H H' : Hp} {t c a : Addr} {n : Nat} {qs : List Addr} {cs : List (List Int)} (h : Tape H t c n) (e : Cs H a qs cs) (k : Kp t H H') : Cs H' a qs cs := by
  obtain ⟨ns, spot, left, tc, _⟩ := h
  exact e.kp tc.d k
theorem Cs.snoc {H : Hp} {a q : Addr} {qs : List Addr} {cs : List (List Int)} {c : List Int} (h : Cs H a qs cs) (hq : H q = some (.tup (c.map V.int))) : Cs (upd H a (.lst (qs.map V.ref ++ [.ref q]))) a (qs ++ [q]) (cs ++ [c]) := by
  have hn := h.n
  refine ⟨by rw [upd_same, List.map_append]; rfl, by rw [List.length_append, List.length_append, hn]; rfl, fun i p d hp hd => ?_⟩
  have g : H p = some (.tup (d.map V.int)) := by
    rcases getElem_snoc hp with ⟨_, e⟩ | ⟨e1, rfl⟩
    · rcases getElem_snoc hd with ⟨_, e2⟩ | ⟨e2, _⟩
      · exact h.t i p d e e2
      · omega
    · rcases getElem_snoc hd with ⟨e2, _⟩ | ⟨_, rfl⟩
      · omega
      · exact hq
  rw [upd_ne (ne_of g h.l (by intro z; cases z))]
  exact g
theorem ins_at {α : Type} {xs : List α} {x y : α} {j i : Nat} (hj : j ≤ xs.length) (h : (xs.take j ++ [x] ++ xs.drop j)[i]? = some y) : (i < j ∧ xs[i]? = some y) ∨ (i = j ∧ x = y) ∨ (j < i ∧ xs[i - 1]? = some y) := by
  have lt : (xs.take j).length = j := by
    rw [List.length_take]
    omega
  rcases Nat.lt_trichotomy i j with c | c | c
  · rw [List.append_assoc, List.getElem?_append_left (by omega), List.getElem?_take, if_pos c] at h
    exact .inl ⟨c, h⟩
  · subst c
    rw [List.append_assoc, List.getElem?_append_right (by omega), lt, Nat.sub_self] at h
    exact .inr (.inl ⟨rfl, Option.some.inj h⟩)
  · rw [List.getElem?_append_right (by rw [List.length_append, lt]; exact c), List.length_append, lt, List.getElem?_drop] at h
    refine .inr (.inr ⟨c, ?_⟩)
    rw [← h]
    congr 1
    show i - 1 = j + (i - (j + 1))
    omega
theorem Cs.insert {H : Hp} {a q : Addr} {qs : List Addr} {cs : List (List Int)} {c : List Int} {j : Nat} (h : Cs H a qs cs) (hj : j ≤ cs.length) (hq : H q = some (.tup (c.map V.int))) :
    Cs (upd H a (.lst ((qs.map V.ref).take j ++ [.ref q] ++ (qs.map V.ref).drop j))) a (qs.take j ++ [q] ++ qs.drop j) (cs.take j ++ [c] ++ cs.drop j) := by
  have hn := h.n
  refine ⟨by rw [upd_same, List.map_append, List.map_append, List.map_take, List.map_drop]; rfl, by simp only [List.length_append, List.length_take, List.length_drop, hn]; rfl, fun i p d hp hd => ?_⟩
  have g : H p = some (.tup (d.map V.int)) := by
    rcases ins_at (by omega) hp with ⟨c1, e⟩ | ⟨c1, rfl⟩ | ⟨c1, e⟩
    · rcases ins_at hj hd with ⟨_, e2⟩ | ⟨e2, _⟩ | ⟨e2, _⟩
      · exact h.t i p d e e2
      · omega
      · omega
    · rcases ins_at hj hd with ⟨e2, _⟩ | ⟨_, rfl⟩ | ⟨e2, _⟩
      · omega
      · exact hq
      · omega
    · rcases ins_at hj hd with ⟨e2, _⟩ | ⟨e2, _⟩ | ⟨_, e2⟩
      · omega
      · omega
      · exact h.t (i - 1) p d e e2
  rw [upd_ne (ne_of g h.l (by intro z; cases z))]
  exact g

/-! ### what the data are -/
theorem lay_ints : ∀ l : List Int, PyData.canLayAll0 (l.map PyData.int) = true
  | [] => rfl
  | x :: r => by
    rw [List.map_cons, PyData.canLayAll0, lay_ints r]
    rfl
theorem dep_ints : ∀ l : List Int, PyData.depthAll (l.map PyData.int) ≤ 0
  | [] => Nat.le_refl _
  | x :: r => by
    rw [List.map_cons, PyData.depthAll]
    exact Nat.max_le.mpr ⟨Nat.le_refl _, dep_ints r⟩
def tupD (c : List Int) : PyData := .tuple (c.map PyData.int)
def lstD (c : List Int) : PyData := .list (c.map PyData.int)
theorem lay_tup (c : List Int) : (tupD c).canLay0 = true := by
  unfold tupD
  rw [PyData.canLay0]
  exact lay_ints c
theorem lay_lst (c : List Int) : (lstD c).canLay0 = true := by
  unfold lstD
  rw [PyData.canLay0]
  exact lay_ints c
theorem dep_tup (c : List Int) : (tupD c).depth ≤ 1 := by
  unfold tupD
  rw [PyData.depth]
  exact Nat.succ_le_succ (dep_ints c)
theorem dep_lst (c : List Int) : (lstD c).depth ≤ 1 := by
  unfold lstD
  rw [PyData.depth]
  exact Nat.succ_le_succ (dep_ints c)
theorem lay_tups : ∀ cs : List (List Int), PyData.canLayAll0 (cs.map tupD) = true
  | [] => rfl
  | x :: r => by
    rw [List.map_cons, PyData.canLayAll0, lay_tups r, lay_tup]
    rfl
theorem dep_tups : ∀ cs : List (List Int), PyData.depthAll (cs.map tupD) ≤ 1
  | [] => Nat.zero_le _
  | x :: r => by
    rw [List.map_cons, PyData.depthAll]
    exact Nat.max_le.mpr ⟨dep_tup x, dep_tups r⟩
section
variable {K : PySem.W.Frag} {H : Hp}
theorem dp_ints : ∀ l : List Int, DpAll K H (l.map V.int) (l.map PyData.int)
  | [] => .nil
  | x :: r => .cons (.int x) (dp_ints r)
theorem dp_lst {a : Addr} {l : List Int} (h : H a = some (.lst (l.map V.int))) : Dp K H (.ref a) (lstD l) := .lst (SqL.of h) (dp_ints l)
theorem dp_tups : ∀ {qs : List Addr} {cs : List (List Int)}, qs.length = cs.length → (∀ (i : Nat) q c, qs[i]? = some q → cs[i]? = some c → H q = some (.tup (c.map V.int))) → DpAll K H (qs.map V.ref) (cs.map tupD)
  | [], [], _, _ => .nil
  | [], _ :: _, n, _ => absurd n (by simp)
  | _ :: _, [], n, _ => absurd n (by simp)
  | q :: qs, c :: cs, n, t => .cons (.tup (SqT.of (t 0 q c rfl rfl)) (dp_ints c)) (dp_tups (Nat.succ.inj n) fun i q c hq hc => t (i + 1) q c hq hc)
end
theorem shape_lst (l : List Int) : SeqAt.shaped (lstD l) = true := by
  unfold SeqAt.shaped
  rw [lay_lst, decide_eq_true (Nat.le_trans (dep_lst l) (by decide))]
  rfl

/-! ### for laws over followers -/
theorem inV_ints (m : Int) : ∀ S : List Int, inV (V.int m) (S.map V.int) = decide (m ∈ S)
  | [] => rfl
  | a :: r => by
    have ih := inV_ints m r
    unfold inV at ih ⊢
    rw [List.map_cons, List.any_cons, ih]
    show ((a == m) || _) = _
    by_cases e : a = m
    · subst e
      simp
    · have e' : m ≠ a := fun z => e z.symm
      simp [e, e']
theorem flat_le {k : Nat} : ∀ cs : List (List Int), (∀ c ∈ cs, c.length ≤ k) → cs.flatten.length ≤ k * cs.length
  | [], _ => Nat.zero_le _
  | c :: r, h => by
    have ih := flat_le r fun d hd => h d (List.mem_cons_of_mem _ hd)
    have hc := h c List.mem_cons_self
    rw [List.flatten_cons, List.length_append, List.length_cons, Nat.mul_succ]
    omega
theorem Good.of_sys {ms : List Int} {cs : List (List Int)} (un : Un ms) (w : ∀ c ∈ cs, c.length ≤ 5 ∧ ClM ms c) (l : cs.length ≤ 1000) : Good cs := by
  have f := flat_le cs fun c hc => (w c hc).1
  exact ⟨fun c hc => (w c hc).2.nodup, fun c hc m hm => (w c hc).2.nz un hm, by omega, by omega⟩
/-- a new follower's making leaves all that is known -/
theorem made_same {H H2 : Hp} {x dx : Addr} {u o : HO} (nx : H x = none) (ndx : H dx = none) (ne : dx ≠ x) (mk : Mk1 x (upd (upd H dx u) x o) H2) : Same H H2 := fun b v e => by
  have n1 := ne_of_none e nx
  have n2 := ne_of_none e ndx
  exact mk.k b v (by rw [upd_ne n1, upd_ne n2]; exact e) n1
theorem made_new {H : Hp} {x dx b : Addr} {u o : HO} (nx : H x = none) (ndx : H dx = none) (h : b = x ∨ (upd (upd H dx u) x o) b = none) : H b = none := by
  rcases h with rfl | h
  · exact nx
  · by_cases e1 : b = x
    · rw [e1]
      exact nx
    · rw [upd_ne e1] at h
      by_cases e2 : b = dx
      · rw [e2]
        exact ndx
      · rw [upd_ne e2] at h
        exact h
theorem Tape.fr {H H' : Hp} {t c : Addr} {n : Nat} {D D' : Addr → Prop} (h : Tape H t c n) (f : Fr D D' H H') (nt : ¬ D t) (nc : ¬ D c) : Tape H' t c n := h.stay fun b o e z => f.k b o e (by
  rcases z with rfl | rfl
  · exact nt
  · exact nc)

/-! ### followers beside one another -/
theorem FolR.ntup {H : Hp} {C : Addr} {A : FA} {D : Addr → Prop} {qs aq : List Addr} {kvs : List (Key × V)} {cs : List (List Int)} {o : List Int} {g : Int → List Nat} {tr : List Int} {rw : List (Option Int)} {pu : List Int} {ah : List (Int × Int)} {br : Option Int}
    (h : FolR H C A D qs aq kvs cs o g tr rw pu ah br) {b : Addr} (hb : D b) (xs : List V) : H b ≠ some (.tup xs) := fun z => by
  rcases (h.re.dd b).mp hb with y | ⟨m, y⟩
  · obtain ⟨u, hu, e⟩ := h.co.has y
    rw [e] at z
    cases z
    simp at hu
  · rcases h.re.hv.at_ m with ⟨e, _⟩ | ⟨l, e, hl, _⟩
    · rw [y] at e
      cases e
    · rw [y] at e
      cases e
      rw [hl] at z
      cases z
theorem Fol.beside {H H' : Hp} {C : Addr} {A B : FA} {D D' E : Addr → Prop} {cs ds : List (List Int)} {pu tr pv tv : List Int} {rw rv : List (Option Int)} {ah av : List (Int × Int)} {br bv : Option Int}
    (h : Fol H C B E ds pv tv rv av bv) (f : Fol H C A D cs pu tr rw ah br) (k : Fr D D' H H') (dis : ∀ b, D b → ¬ E b) : Fol H' C B E ds pv tv rv av bv := h.keep fun b o e z => k.k b o e fun y => by
  rcases z with z | ⟨xs, rfl⟩
  · exact dis b y z
  · obtain ⟨qs, aq, kvs, x⟩ := f
    exact x.r.ntup y xs e
theorem Fol.facts {H : Hp} {C : Addr} {A : FA} {D : Addr → Prop} {cs : List (List Int)} {pu tr : List Int} {rw : List (Option Int)} {ah : List (Int × Int)} {br : Option Int} (h : Fol H C A D cs pu tr rw ah br) :
    tr.Nodup ∧ (∀ m ∈ tr, -m ∉ tr) ∧ tr.length ≤ 900000 ∧ H A.tr = some (.lst (tr.map V.int)) ∧ H A.pu = some (.lst (pu.map V.int)) := by
  obtain ⟨qs, aq, kvs, X⟩ := h
  have lt := X.ok.small
  have lf := X.gd.fl
  have lp := X.pt.n
  exact ⟨X.ok.nd, X.ok.con, by omega, X.r.trl, X.r.pul⟩
theorem Fol.is {H : Hp} {C : Addr} {A : FA} {D : Addr → Prop} {cs : List (List Int)} {pu tr : List Int} {rw : List (Option Int)} {ah : List (Int × Int)} {br : Option Int} (h : Fol H C A D cs pu tr rw ah br) : br.isSome = true ↔ Brk cs pu := by
  cases br with
  | none => exact ⟨fun z => (by cases z), fun z => absurd z h.der.2⟩
  | some r => exact ⟨fun _ => h.brk, fun _ => rfl⟩
theorem Der.cut {cs : List (List Int)} {ps qs : List Int} (h : ∀ m ∈ qs, Der cs ps m) {x : Int} (d : Der cs qs x) : Der cs ps x := by
  induction d with
  | put hp => exact h _ hp
  | cl h1 h2 _ ih => exact .cl h1 h2 ih
theorem Brk.cut {cs : List (List Int)} {ps qs : List Int} (h : ∀ m ∈ qs, Der cs ps m) (b : Brk cs qs) : Brk cs ps := by
  obtain ⟨c, hc, z⟩ := b
  exact ⟨c, hc, fun x hx => (z x hx).cut h⟩
theorem Brk.more {cs ds : List (List Int)} {ps qs : List Int} (hc : ∀ c ∈ cs, c ∈ ds) (hp : ∀ m ∈ ps, m ∈ qs) (b : Brk cs ps) : Brk ds qs := by
  obtain ⟨c, h, z⟩ := b
  exact ⟨c, hc c h, fun x hx => (z x hx).more hc hp⟩
/-- a new follower of a list of clauses -/
theorem made_fol {C : Addr} {K : PySem.W.Frag} {H : Hp} {L x dx : Addr} {qs : List Addr} {ks : List (List Int)} {Q : VK} {E : XK} (nx : H x = none) (ndx : H dx = none) (nex : dx ≠ x) (hL : H L = some (.lst (qs.map V.ref))) (cn : qs.length = ks.length)
    (ct : ∀ (i : Nat) q c, qs[i]? = some q → ks[i]? = some c → H q = some (.tup (c.map V.int))) (gd : Good ks) (few : ∀ c ∈ ks, c.length ≤ 1000)
    (k : ∀ (H' : Hp) (A : FA) (D : Addr → Prop) (tr : List Int) (rw : List (Option Int)) (br : Option Int), A.f = x → Fol H' C A D ks [] tr rw [] br → Same H H' → (∀ b, D b → H b = none) → Q .non H') :
    spInit C K (.ref x :: ([.ref L] ++ [])) (upd (upd H dx (.own x)) x (.ins C dx [])) Q E := by
  have s1 : Same H (upd (upd H dx (.own x)) x (.ins C dx [])) := (same_new ndx).trans (same_new (by rw [upd_ne nex.symm]; exact nx))
  refine ⟨x, dx, L, qs, ks, rfl, upd_same, SqL.of (s1 _ _ hL), (ne_of_none hL nx).symm, cn, fun i q c hq hc => s1 _ _ (ct i q c hq hc), gd, few, fun H7 A D tr7 rw7 br7 eA F7 mk7 dn7 => ?_⟩
  exact k H7 A D tr7 rw7 br7 eA F7 (made_same nx ndx nex mk7) fun b hb => made_new nx ndx (dn7 b hb)
/-- sorted(..) of the same numbers -/
theorem same_sorted : ∀ {xs ys : List Int}, xs.Perm ys → xs.Pairwise (· ≤ ·) → ys.Pairwise (· ≤ ·) → xs = ys
  | [], ys, h, _, _ => (List.nil_perm.mp h).symm
  | a :: r, [], h, _, _ => absurd h.length_eq (by simp)
  | a :: r, b :: s, h, h1, h2 => by
    have p1 := List.pairwise_cons.mp h1
    have p2 := List.pairwise_cons.mp h2
    have ma : a ∈ b :: s := h.mem_iff.mp List.mem_cons_self
    have mb : b ∈ a :: r := h.mem_iff.mpr List.mem_cons_self
    have le1 : b ≤ a := by
      rcases List.mem_cons.mp ma with e | m
      · rw [e]; exact Int.le_refl _
      · exact p2.1 a m
    have le2 : a ≤ b := by
      rcases List.mem_cons.mp mb with e | m
      · rw [e]; exact Int.le_refl _
      · exact p1.1 b m
    have e : a = b := by omega
    subst e
    rw [same_sorted ((List.perm_cons a).mp h) p1.2 p2.2]
theorem ints_inj : ∀ {a b : List Int}, a.map V.int = b.map V.int → a = b
  | [], [], _ => rfl
  | [], _ :: _, h => by cases h
  | _ :: _, [], h => by cases h
  | x :: a, y :: b, h => by
    injection h with h1 h2
    injection h1 with h1
    rw [h1, ints_inj h2]
theorem eqv_lst (l : List Int) : PyData.eqv (lstD l) (lstD l) = true := SeqAt.eqv_refl _ (lay_lst l)
theorem due_perm {tr tr' ws zs : List Int} {m : Int} (n1 : tr.Nodup) (n2 : tr'.Nodup) (hw : ws.Perm tr) (hz : zs.Nodup) (iff : ∀ x, x ∈ zs ↔ x ∈ tr' ∧ x ∉ tr ∧ x ≠ m) (sub : ∀ x ∈ tr, x ∈ tr') (hm : m ∈ tr') :
    (ws ++ zs ++ (if m ∈ ws then [] else [m])).Perm tr' := by
  refine perm_of ?_ n2 fun x => ?_
  · rw [List.nodup_append, List.nodup_append]
    refine ⟨⟨(hw.nodup_iff).mpr n1, hz, fun a ha b hb e => ?_⟩, ?_, fun a ha b hb e => ?_⟩
    · subst e
      exact ((iff a).mp hb).2.1 (hw.mem_iff.mp ha)
    · split <;> simp
    · subst e
      by_cases c : m ∈ ws
      · rw [if_pos c] at hb
        cases hb
      · rw [if_neg c, List.mem_singleton] at hb
        subst hb
        rcases List.mem_append.mp ha with z | z
        · exact c z
        · exact ((iff a).mp z).2.2 rfl
  · rw [List.mem_append, List.mem_append, hw.mem_iff, iff]
    constructor
    · rintro ((z | z) | z)
      · exact sub x z
      · exact z.1
      · by_cases c : m ∈ ws
        · rw [if_pos c] at z
          cases z
        · rw [if_neg c, List.mem_singleton] at z
          rw [z]
          exact hm
    · intro z
      by_cases c1 : x ∈ tr
      · exact .inl (.inl c1)
      · by_cases c2 : x = m
        · refine .inr ?_
          rw [if_neg fun y => c1 (by rw [c2]; exact hw.mem_iff.mp y), c2]
          exact List.mem_cons_self
        · exact .inl (.inr ⟨z, c1, c2⟩)
/-- told or [] -/
def tOrL (i : Nat) : TE := fun σ H Q => ∃ v, σ[i]? = some (some v) ∧ (v = .non ∨ ∃ p zs, v = .ref p ∧ H p = some (.lst zs)) ∧
  ∀ H' N zs, Same H H' → H' N = some (.lst zs) → (v = .non ∧ zs = [] ∨ ∃ p, v = .ref p ∧ H p = some (.lst zs)) → Q (.ref N) H'
theorem pe_orL {X : Cx} {e : Expr} {i : Nat} {p2 pos : Pos} (h : PE X e (tVar i)) : PE X (.BoolOp .Or [e, .List [] p2] pos) (tOrL i) := by
  refine ⟨fun pins s σ H Q I hw => (pe_orT h (pe_one (pe_lst pa_nil))).run pins s σ H Q I ?_⟩
  obtain ⟨v, ev, hv, hQ⟩ := hw
  refine ⟨v, ev, ?_⟩
  rcases hv with rfl | ⟨p, zs, rfl, hp⟩
  · exact ⟨false, rfl, iteF ⟨by show 0 ≤ sizeLine; decide, fun N nN => hQ _ N [] (same_new nN) upd_same (.inl ⟨rfl, rfl⟩)⟩⟩
  · cases zs with
    | nil => exact ⟨false, .inl ⟨_, SqL.of hp, rfl⟩, iteF ⟨by show 0 ≤ sizeLine; decide, fun N nN => hQ _ N [] (same_new nN) upd_same (.inr ⟨p, rfl, hp⟩)⟩⟩
    | cons z r => exact ⟨true, .inl ⟨_, SqL.of hp, rfl⟩, iteT (hQ _ p (z :: r) (Same.refl _) hp (.inr ⟨p, rfl, hp⟩))⟩

theorem mem_fold {x : Int} : ∀ (b a : List Int), x ∈ b.foldl ins a ↔ x ∈ a ∨ x ∈ b
  | [], a => by simp
  | y :: r, a => by
    show x ∈ r.foldl ins (ins a y) ↔ _
    rw [mem_fold r]
    have : x ∈ ins a y ↔ x ∈ a ∨ x = y := by
      unfold ins
      by_cases h : y ∈ a
      · rw [if_pos h]
        exact ⟨.inl, fun z => z.elim id fun e => e ▸ h⟩
      · rw [if_neg h, List.mem_append, List.mem_singleton]
    rw [this, List.mem_cons, or_assoc]

/-! ### xs[::2], xs[1::2] -/
def stp2 {α : Type} : List α → List α
  | [] => []
  | [x] => [x]
  | x :: _ :: r => x :: stp2 r
theorem stp2_len {α : Type} : ∀ l : List α, (stp2 l).length = (l.length + 1) / 2
  | [] => by
    show 0 = (0 + 1) / 2
    decide
  | [x] => by
    show 1 = (1 + 1) / 2
    decide
  | _ :: _ :: r => by
    rw [stp2, List.length_cons, stp2_len r, List.length_cons, List.length_cons]
    omega
theorem stp2_map {α β : Type} (f : α → β) : ∀ l : List α, stp2 (l.map f) = (stp2 l).map f
  | [] => rfl
  | [_] => rfl
  | _ :: _ :: r => by
    rw [List.map_cons, List.map_cons, stp2, stp2, stp2_map f r, List.map_cons]
theorem stp2_vals : ∀ {xs : List V} {us : List Value}, Vals xs us → Vals (stp2 xs) (stp2 us)
  | _, _, .nil => .nil
  | _, _, .cons a .nil => .cons a .nil
  | _, _, .cons a (.cons _ r) => .cons a (stp2_vals r)
theorem pick2_list {α : Type} : ∀ l : List α, ((List.range ((l.length + 1) / 2)).filterMap fun m => l[2 * m]?) = stp2 l
  | [] => by
    have e : (([] : List α).length + 1) / 2 = 0 := by
      show (0 + 1) / 2 = 0
      decide
    rw [e]
    rfl
  | [x] => by
    have e : ([x].length + 1) / 2 = 1 := by
      show (1 + 1) / 2 = 1
      decide
    rw [e]
    rfl
  | x :: y :: r => by
    have e : ((x :: y :: r).length + 1) / 2 = (r.length + 1) / 2 + 1 := by
      rw [List.length_cons, List.length_cons]
      omega
    rw [e, List.range_succ_eq_map, List.filterMap_cons]
    show x :: _ = _
    rw [stp2, List.filterMap_map, ← pick2_list r]
    rfl
/-- where it begins -/
def st0 (n : Nat) : Option Int → Nat
  | none => 0
  | some _ => min 1 n
theorem pick2 (xs : Array Value) (k : Nat) : ((List.range ((xs.size - k + 1) / 2)).filterMap fun (m : Nat) => xs[((k : Int) + (m : Int) * 2).toNat]?).toArray = (stp2 (xs.toList.drop k)).toArray := by
  congr 1
  rw [← pick2_list, List.length_drop, Array.length_toList]
  congr 1
  funext m
  rw [List.getElem?_drop, show ((k : Int) + (m : Int) * 2).toNat = k + 2 * m by omega, Array.getElem?_toList]
theorem adj2 (o : Option Int) (ho : o = none ∨ o = some 1) (n : Nat) : Builtin.Slice.sliceAdjust o none 2 (n : Int) = (((st0 n o : Nat) : Int), (n : Int)) := by
  rcases ho with rfl | rfl
  · rfl
  · unfold Builtin.Slice.sliceAdjust
    simp only [show ¬ ((2 : Int) < 0) by decide, if_false, show ¬ ((1 : Int) < 0) by decide]
    refine Prod.ext ?_ rfl
    show min (1 : Int) (n : Int) = ((min 1 n : Nat) : Int)
    omega
theorem st0_le (n : Nat) (o : Option Int) : st0 n o ≤ n := by
  cases o with
  | none => exact Nat.zero_le _
  | some _ => exact Nat.min_le_right _ _
theorem places2 (n k : Nat) (h : k ≤ n) : Builtin.Slice.slicePlaces (k : Int) (n : Int) 2 = (n - k + 1) / 2 := by
  unfold Builtin.Slice.slicePlaces
  rw [if_pos (by decide)]
  by_cases c : (k : Int) < (n : Int)
  · rw [if_pos c]
    omega
  · rw [if_neg c]
    omega
theorem slicePick2 (xs : Array Value) (o : Option Int) (ho : o = none ∨ o = some 1) : slicePick xs o none (some 2) = (stp2 (xs.toList.drop (st0 xs.size o))).toArray := by
  have b : sliceBounds o none (some 2) xs.size = (((st0 xs.size o : Nat) : Int), ((xs.size : Nat) : Int), 2) := by
    rcases ho with rfl | rfl
    · rfl
    · show (max 0 (min 1 (xs.size : Int)), _) = _
      refine Prod.ext ?_ rfl
      show max 0 (min 1 (xs.size : Int)) = ((min 1 xs.size : Nat) : Int)
      omega
  have hle := st0_le xs.size o
  unfold slicePick
  rw [b, ← pick2]
  unfold sliceRange
  dsimp only
  rw [List.filterMap_map]
  have e : (if (2 : Int) > 0 then (if ((st0 xs.size o : Nat) : Int) < (xs.size : Int) then (((xs.size : Nat) : Int) - ((st0 xs.size o : Nat) : Int) + 2 - 1) / 2 else 0) else (if ((st0 xs.size o : Nat) : Int) > (xs.size : Int) then (((st0 xs.size o : Nat) : Int) - ((xs.size : Nat) : Int) - 2 - 1) / -2 else 0)).toNat = (xs.size - st0 xs.size o + 1) / 2 := by
    rw [if_pos (by decide)]
    split <;> omega
  rw [e]
  congr 2
  funext m
  show xs[(((st0 xs.size o : Nat) : Int) + 2 * (m : Int)).toNat]? = _
  rw [Int.mul_comm]
section
variable {prog : Program} {w : World} {A : Around} {E : Value → Shared → Prop} {s : Shared}
theorem getItem_tuple_st2 {t sl : Addr} {items : Array Value} {vl vs : Value} {o : Option Int} {Q : Value → Shared → Prop} (ho : o = none ∨ o = some 1) (ht : IsTup s.heap t items) (hs : s.heap.IsSliceOf sl vl .none vs) (pl : IsPart vl o) (ps : IsPart vs (some 2))
    (h : Q (.ref s.heap.objs.size) { s with heap := s.heap.push { cls := .type "tuple", data := .seq (stp2 (items.toList.drop (st0 items.size o))).toArray } }) (hsz : items.size ≤ sizeLine) : wpAny (model prog w) A (getItem (.ref t) (.ref sl)) Q E s := by
  have fits : sizeOk (.seq (stp2 (items.toList.drop (st0 items.size o))).toArray) := by
    show (stp2 (items.toList.drop (st0 items.size o))).toArray.size ≤ sizeLine
    rw [List.size_toArray, stp2_len, List.length_drop, Array.length_toList]
    omega
  obtain ⟨os, hos, hcs, hds⟩ := id hs
  have kind : s.TypeIs (.ref sl) "slice" := ⟨os, hos, hcs⟩
  unfold getItem
  try with_reducible refine wpAny_holding ?_
  first
    | refine wpAny_bind (wpAny_pure ?_)
    | skip
  refine wpAny_bind (wpAny_sequenceKey ht.typeIs (by decide) ?_)
  refine wpAny_bind (wpAny_callSpecial?_slot (name := Str.ofString "__getitem__") ht.typeIs PyProof.Rows.slot_tuple_getitem (wpAny_call_entry PyProof.Rows.slot_tuple_getitem ht.typeIs entry_tuple_getitem ?_ (args_tuple_getitem _ _)))
  show wpAny _ _ (Builtin.Tuple.tupleItemsOf (.ref t) >>= _) _ _ s
  refine wpAny_bind (tupleItemsOf_ ht ?_)
  refine wpAny_bind (wpAny_typeOf kind ?_)
  rw [if_pos (by decide)]
  refine wpAny_bind ?_
  unfold Builtin.Slice.sliceApplied Builtin.Slice.sliceFields
  refine wpAny_bind (wpAny_bind (wpAny_field hos hds (x := vl) rfl (wpAny_bind (wpAny_field hos hds (x := .none) rfl (wpAny_bind (wpAny_field hos hds (x := vs) rfl (wpAny_pure ?_)))))))
  refine wpAny_bind (HT.slicePart_ ps ?_)
  show wpAny _ _ (if ((2 : Int) == 0) = true then _ else _) _ _ s
  rw [if_neg (by decide)]
  refine wpAny_bind (HT.slicePart_ pl (wpAny_bind (HT.slicePart_ .none (wpAny_bind (wpAny_pure ?_)))))
  show wpAny _ _ (match Builtin.Slice.sliceAdjust o none 2 (items.size : Int) with | (lo, hi) => pure (lo, (2 : Int), Builtin.Slice.slicePlaces lo hi 2)) _ _ s
  rw [adj2 o ho]
  show wpAny _ _ (pure (((st0 items.size o : Nat) : Int), (2 : Int), Builtin.Slice.slicePlaces ((st0 items.size o : Nat) : Int) (items.size : Int) 2)) _ _ s
  rw [places2 _ _ (st0_le _ _)]
  refine wpAny_pure ?_
  have hno : ¬ ((((st0 items.size o : Nat) : Int) == 0 && (2 : Int) == 1 && (items.size - st0 items.size o + 1) / 2 == items.size) = true) := by
    rw [show ((2 : Int) == 1) = false from rfl, Bool.and_false, Bool.false_and]
    exact Bool.false_ne_true
  show wpAny _ _ (if ((((st0 items.size o : Nat) : Int) == 0 && (2 : Int) == 1 && (items.size - st0 items.size o + 1) / 2 == items.size) = true) then _ else _) _ _ s
  rw [if_neg hno, pick2]
  first
    | exact wpAny_bind (m := Builtin.Tuple.tupleExact _) (wpAny_newObj_type (wpAny_pure ⟨_, rfl, wpAny_pure h⟩) fits)
    | exact wpAny_bind (m := Builtin.Tuple.tupleExact _) (wpAny_newObj_type (wpAny_bind (wpAny_pure (wpAny_pure ⟨_, rfl, wpAny_pure h⟩))) fits)
    | exact wpAny_bind (wpAny_bind (m := Builtin.Tuple.tupleExact _) (wpAny_newObj_type (wpAny_pure (wpAny_pure ⟨_, rfl, wpAny_pure h⟩)) fits))
    | exact wpAny_bind (wpAny_bind (m := Builtin.Tuple.tupleExact _) (wpAny_newObj_type (wpAny_pure ⟨_, rfl, wpAny_pure h⟩) fits))
end
/-- x[::2], x[1::2] of a tuple or of a list -/
def cut2 (xs : List V) (o : Option Int) : List V := stp2 (xs.drop (st0 xs.length o))
def tSt2 (K : PySem.W.Frag) (te : TE) (tl : TO) : TE := fun σ H Q => te σ H fun x H1 => tl σ H1 fun o H2 => ∃ a xs, x = .ref a ∧ (o = none ∨ o = some 1) ∧
  ((SqT K H2 a xs ∧ ∀ p, H2 p = none → Q (.ref p) (upd H2 p (.tup (cut2 xs o)))) ∨ (SqL K H2 a xs ∧ ∀ p, H2 p = none → Q (.ref p) (upd H2 p (.lst (cut2 xs o)))))
section
variable {X : Cx}
theorem pe_st2 {e : Expr} {te : TE} {lo : Option Expr} {tl : TO} {k : Nat} {p1 p3 pos : Pos} (he : PE X e te) (hl : PO X lo tl) : PE X (.Subscript e (.Slice lo none (some (.Constant (.int 2) k p1)) p3) pos) (tSt2 X.K te tl) := by
  refine ⟨fun pins s σ H Q I h => ?_⟩
  refine Subscript_ (thn (he.run pins s σ H _ I h) fun v s1 ⟨x, H1, I1, r1, q1⟩ => ?_)
  have two : PO X (some (.Constant (.int 2) k p1)) (tPart (tC (.int 2))) := po_some pe_int
  refine wpAny_Slice (thn (hl.run pins s1 σ H1 _ I1 q1) fun vl s2 ⟨o, H2, I2, pl, q2⟩ => ?_)
  refine thn (po_none.run pins s2 σ H2 (fun o H3 => o = none ∧ H3 = H2) I2 ⟨rfl, rfl⟩) fun vu s3 ⟨u, H3, I3, pu, eu, e3⟩ => ?_
  subst eu e3
  refine thn (two.run pins s3 σ H3 (fun o H4 => o = some 2 ∧ H4 = H3) I3 ⟨2, rfl, rfl, rfl⟩) fun vs s4 ⟨o4, H4, I4, ps, eo, e4⟩ => ?_
  subst eo e4
  obtain ⟨a, xs, ex, ho, q⟩ := q2
  subst ex
  cases r1
  cases pu
  have I5 : Inv X pins σ H4 { s4 with heap := s4.heap.push { cls := .type "slice", data := .fields #[vl, .none, vs] } } := I4.kept (t' := s4.toks) fun b ob z => Heap.get?_push_of_some _ z
  show wpAny (model X.prog X.w) X.A (subscriptTail e (.Slice lo none (some (.Constant (.int 2) k p1)) p3) (.ref a) (.ref s4.heap.objs.size)) (EP X pins σ Q) X.xe { s4 with heap := s4.heap.push { cls := .type "slice", data := .fields #[vl, .none, vs] } }
  rcases q with ⟨hx, q⟩ | ⟨hx, q⟩
  · obtain ⟨its, r, ht, hz⟩ := I5.tuple hx
    have hlen := r.length
    refine tail_any (ops := [.ref a, .ref s4.heap.objs.size]) ht.typeIs (PyProof.Rows.slot_tuple_getitem.lookup) ?_ (by with_unfolding_all rfl)
    refine getItem_tuple_st2 ho ht (Heap.IsSliceOf.new _ vl .none vs) pl ps ?_ (by rw [List.size_toArray]; omega)
    refine ⟨.ref _, _, I5.laid (t' := s4.toks) (o := .tup (cut2 xs o)) (fun b ob z => Heap.get?_push_of_some _ z) (Nat.le_refl _) ⟨?_, _, ?_, IsTup.new _ _⟩, rfl, q _ (I5.hok.fresh (Nat.le_refl _))⟩
    · unfold cut2
      rw [stp2_len, List.length_drop]
      omega
    · unfold cut2
      rw [List.size_toArray, ← hlen]
      exact stp2_vals (r.drop _)
  · obtain ⟨its, r, ht, hz⟩ := I5.list hx
    have hlen := r.length
    refine tail_any (ops := [.ref a, .ref s4.heap.objs.size]) ht.isList.typeIs (PySem.slot_list_getitem.lookup) ?_ (by with_unfolding_all rfl)
    refine wpAny_getItem_list_slice ht.isList (Heap.IsSliceOf.new _ vl .none vs) pl .none ps (by decide) ?_ (by rw [List.size_toArray]; omega)
    rw [slicePick2 _ _ ho]
    refine ⟨.ref _, _, I5.laid (t' := s4.toks) (o := .lst (cut2 xs o)) (fun b ob q => Heap.get?_push_of_some _ q) (Nat.le_refl _) ⟨?_, _, 0, ?_, Heap.get?_push_size _ rfl⟩, rfl, q _ (I5.hok.fresh (Nat.le_refl _))⟩
    · unfold cut2
      rw [stp2_len, List.length_drop]
      omega
    · unfold cut2
      rw [List.size_toArray, ← hlen]
      exact stp2_vals (r.drop _)
theorem pe_st2K {K : PySem.W.Frag} {e : Expr} {te : TE} {lo : Option Expr} {tl : TO} {k : Nat} {p1 p3 pos : Pos} (hK : X.K = K) (he : PE X e te) (hl : PO X lo tl) : PE X (.Subscript e (.Slice lo none (some (.Constant (.int 2) k p1)) p3) pos) (tSt2 K te tl) := hK ▸ pe_st2 he hl
end

/-! ### xs[::k] of a list, k 1 or -1 -/
theorem pick_one (items : Array Value) : slicePick items none none (some 1) = items := by
  have b : sliceBounds none none (some 1) items.size = (0, ((items.size : Nat) : Int), 1) := rfl
  unfold slicePick
  rw [b]
  unfold sliceRange
  dsimp only
  rw [List.filterMap_map]
  have e : (if (1 : Int) > 0 then (if (0 : Int) < (items.size : Int) then (((items.size : Nat) : Int) - 0 + 1 - 1) / 1 else 0) else (if (0 : Int) > (items.size : Int) then ((0 : Int) - ((items.size : Nat) : Int) - 1 - 1) / -1 else 0)).toNat = items.size := by
    rw [if_pos (by decide)]
    split <;> omega
  rw [e]
  have f : ((fun i => items[i]?) ∘ fun m : Nat => ((0 : Int) + 1 * (m : Int)).toNat) = fun m : Nat => items[m]? := by
    funext m
    show items[((0 : Int) + 1 * (m : Int)).toNat]? = _
    congr 1
    omega
  have g : ((List.range items.size).filterMap fun m : Nat => items[m]?) = items.toList := by
    have h : ∀ l : List Value, ((List.range l.length).filterMap fun m : Nat => l[m]?) = l := by
      intro l
      induction l with
      | nil => rfl
      | cons x r ih =>
        rw [List.length_cons, List.range_succ_eq_map, List.filterMap_cons]
        show x :: _ = _
        rw [List.filterMap_map]
        congr 1
    have z := h items.toList
    rw [Array.length_toList] at z
    rw [← z]
    congr 1
    funext m
    rw [Array.getElem?_toList]
  first
    | (rw [f, g])
    | (rw [show ((List.range items.size).filterMap _) = items.toList from g])
def stpV {α : Type} (xs : List α) (k : Int) : List α := if k = 1 then xs else xs.reverse
def tStV (K : PySem.W.Frag) (te ts : TE) : TE := fun σ H Q => te σ H fun x H1 => tPart ts σ H1 fun o H2 => ∃ (a : Addr) (xs : List V) (k : Int), x = .ref a ∧ o = some k ∧ (k = 1 ∨ k = -1) ∧ SqL K H2 a xs ∧ ∀ p, H2 p = none → Q (.ref p) (upd H2 p (.lst (stpV xs k)))
section
variable {X : Cx}
theorem pe_stV {e es : Expr} {te ts : TE} {p3 pos : Pos} (he : PE X e te) (hs : PE X es ts) : PE X (.Subscript e (.Slice none none (some es) p3) pos) (tStV X.K te ts) := by
  refine ⟨fun pins s σ H Q I h => ?_⟩
  refine Subscript_ (thn (he.run pins s σ H _ I h) fun v s1 ⟨x, H1, I1, r1, q1⟩ => ?_)
  have hst : PO X (some es) (tPart ts) := po_some hs
  refine wpAny_Slice (thn (po_none.run pins s1 σ H1 (fun o H2 => o = none ∧ H2 = H1) I1 ⟨rfl, rfl⟩) fun vl s2 ⟨l, H2, I2, pl, el, e2⟩ => ?_)
  subst el e2
  refine thn (po_none.run pins s2 σ H2 (fun o H3 => o = none ∧ H3 = H2) I2 ⟨rfl, rfl⟩) fun vu s3 ⟨u, H3, I3, pu, eu, e3⟩ => ?_
  subst eu e3
  refine thn (hst.run pins s3 σ H3 (fun o H4 => ∃ (a : Addr) (xs : List V) (k : Int), x = .ref a ∧ o = some k ∧ (k = 1 ∨ k = -1) ∧ SqL X.K H4 a xs ∧ ∀ p, H4 p = none → Q (.ref p) (upd H4 p (.lst (stpV xs k)))) I3 q1) fun vs s4 ⟨o, H4, I4, ps, a, xs, k, ex, eo, hk, hx, q⟩ => ?_
  subst ex eo
  cases r1
  have I5 : Inv X pins σ H4 { s4 with heap := s4.heap.push { cls := .type "slice", data := .fields #[vl, vu, vs] } } := I4.kept (t' := s4.toks) fun b ob q => Heap.get?_push_of_some _ q
  obtain ⟨its, r, ht, hz⟩ := I5.list hx
  have hlen := r.length
  show wpAny (model X.prog X.w) X.A (subscriptTail e (.Slice none none (some es) p3) (.ref a) (.ref s4.heap.objs.size)) (EP X pins σ Q) X.xe { s4 with heap := s4.heap.push { cls := .type "slice", data := .fields #[vl, vu, vs] } }
  refine tail_any (ops := [.ref a, .ref s4.heap.objs.size]) ht.isList.typeIs (PySem.slot_list_getitem.lookup) ?_ (by with_unfolding_all rfl)
  refine wpAny_getItem_list_slice ht.isList (Heap.IsSliceOf.new _ vl vu vs) pl pu ps (by rcases hk with rfl | rfl <;> decide) ?_ (by rw [List.size_toArray]; omega)
  rcases hk with rfl | rfl
  · rw [pick_one]
    refine ⟨.ref _, _, I5.laid (t' := s4.toks) (o := .lst (stpV xs 1)) (fun b ob q => Heap.get?_push_of_some _ q) (Nat.le_refl _) ?_, rfl, q _ (I5.hok.fresh (Nat.le_refl _))⟩
    exact ⟨hz, _, 0, r, Heap.get?_push_size _ rfl⟩
  · rw [PySem.W.krv_pick]
    refine ⟨.ref _, _, I5.laid (t' := s4.toks) (o := .lst xs.reverse) (fun b ob q => Heap.get?_push_of_some _ q) (Nat.le_refl _) ?_, rfl, q _ (I5.hok.fresh (Nat.le_refl _))⟩
    exact ⟨by rw [List.length_reverse]; exact hz, _, 0, r.reverse, Heap.get?_push_size _ rfl⟩
theorem pe_stVK {K : PySem.W.Frag} {e es : Expr} {te ts : TE} {p3 pos : Pos} (hK : X.K = K) (he : PE X e te) (hs : PE X es ts) : PE X (.Subscript e (.Slice none none (some es) p3) pos) (tStV K te ts) := hK ▸ pe_stV he hs
end

/-! ### dict([(x, True) for x in xs]) -/
/-- pairs (n, True), new tuples -/
structure Prs (H : Hp) (ps : List Addr) (ns : List Int) : Prop where
  n : ps.length = ns.length
  t : ∀ (i : Nat) p m, ps[i]? = some p → ns[i]? = some m → H p = some (.tup [.int m, .bl true])
theorem Prs.paired {K : PySem.W.Frag} {H : Hp} : ∀ {ps : List Addr} {ns : List Int}, Prs H ps ns → Paired (fun p kv => SqT K H p [kV kv.1, kv.2]) ps (tru ns)
  | [], [], _ => .nil
  | [], _ :: _, h => absurd h.n (by simp)
  | _ :: _, [], h => absurd h.n (by simp)
  | p :: ps, m :: ns, h => by
    refine .cons (SqT.of (h.t 0 p m rfl rfl)) (Prs.paired ⟨Nat.succ.inj h.n, fun i q k hq hk => h.t (i + 1) q k hq hk⟩)
theorem lc_pairs {K : PySem.W.Frag} {a : Addr} {ns : List Int} {te : TE} {vs : List Nat} {σ : L2.St} {H : Hp} {D : Addr} {Qd : Hp → Prop} {j : Nat} (hx : SqL K H a (ns.map V.int)) (hD : H D = none) (hz : ns.length ≤ 1000000)
    (wip : ∀ n, wipe ((wipe σ vs).set j (some (.int n))) vs = wipe σ vs) (he : ∀ n H' (R : VK), (∀ p, H' p = none → R (.ref p) (upd H' p (.tup [.int n, .bl true]))) → te ((wipe σ vs).set j (some (.int n))) H' R)
    (k : ∀ H' ps, Same H H' → H' D = some (.lst (ps.map V.ref)) → Prs H' ps ns → Qd H') :
    ∃ W : Nat → Nat → Hp → Prop, (∃ m, W 0 m (upd H D (.lst []))) ∧ ∀ i m Hc, W i m Hc →
      ((Itl K a).stop i Hc ∧ Qd Hc) ∨ ((Itl K a).go i Hc ∧ ∃ Nx : Hp → Prop, (∀ H', Nx H' → ∃ m', m' < m ∧ W (i + 1) m' H') ∧ ∀ x H', (Itl K a).yld i Hc x H' → gName j x (wipe σ vs) H' fun σ2 H2 => wipe σ2 vs = wipe σ vs ∧ tYes σ2 H2 fun b H3 =>
        if b = true then te σ2 H3 fun y H4 => ∃ acc, H4 D = some (.lst acc) ∧ acc.length < sizeLine ∧ Nx (upd H4 D (.lst (acc ++ [y]))) else Nx H3) := by
  have line : 1000000 < sizeLine := by decide
  refine lc_list (xs := ns.map V.int) (fun i H' => Same H H' ∧ ∃ ps, H' D = some (.lst (ps.map V.ref)) ∧ Prs H' ps (ns.take i)) ⟨same_new hD, [], upd_same, rfl, fun i p m hp => by simp at hp⟩ (fun i H' _ p => p.1.seq hx) (fun i x H' hi p => ?_) fun H' p => ?_
  · obtain ⟨sm, ps, hd, pr⟩ := p
    obtain ⟨n, rfl, hn⟩ := int_at hi
    have li : i < ns.length := (List.getElem?_eq_some_iff.mp hn).1
    have ln : ps.length = i := by
      rw [pr.n, List.length_take]
      omega
    refine ⟨wip n, yes_go (he n H' _ fun q hq => ⟨ps.map V.ref, by rw [upd_ne (ne_of_none hd hq)]; exact hd, by rw [List.length_map]; omega, fun b o e => ?_, ps ++ [q], by rw [upd_same, List.map_append]; rfl, ?_⟩)⟩
    · rw [upd_ne (ne_of_none e hD), upd_ne (ne_of_none (sm b o e) hq)]
      exact sm b o e
    · have qD : q ≠ D := (ne_of_none hd hq).symm
      refine ⟨by rw [List.length_append, List.length_take, ln]; show i + 1 = min (i + 1) ns.length; omega, fun l p m hp hm => ?_⟩
      rw [List.take_add_one, hn] at hm
      by_cases c : l < ps.length
      · rw [List.getElem?_append_left c] at hp
        rw [List.getElem?_append_left (by rw [List.length_take]; omega)] at hm
        have g := pr.t l p m hp hm
        rw [upd_ne (ne_of g hd (by intro z; cases z)), upd_ne (ne_of_none g hq)]
        exact g
      · rw [List.getElem?_append_right (by omega)] at hp
        rw [List.getElem?_append_right (by rw [List.length_take]; omega)] at hm
        have e0 : l - ps.length = 0 := by
          have l1 := (List.getElem?_eq_some_iff.mp hp).1
          simp only [List.length_cons, List.length_nil] at l1
          omega
        have e1 : l - (ns.take i).length = 0 := by
          rw [List.length_take]
          omega
        rw [e0] at hp
        rw [e1] at hm
        cases hp
        cases hm
        rw [upd_ne qD, upd_same]
  · obtain ⟨sm, ps, hd, pr⟩ := p
    rw [List.length_map, List.take_length] at pr
    exact k H' ps sm hd pr

/-! ### what it is that rows show a mark -/
def optV : Option Int → V
  | none => .non
  | some i => .int i
def spShown : Sp := fun vs H Q _ => ∃ (a b e : Addr) (m : Option Int) (ps rs : List Int) (qs : List Addr) (cs : List (List Int)), vs = [.ref a, .ref e, .ref b, optV m] ∧ Cs H a qs cs ∧ H b = some (.lst (rs.map V.int)) ∧ H e = some (.lst (ps.map V.int)) ∧
  (∀ c ∈ cs, c.length ≤ 1000) ∧ ps.length + rs.length ≤ 10000 ∧ ∀ H', Same H H' → Q (.bl (shownP cs ps rs m)) H'
theorem tru_fold (ps : List Int) : mergeK [] (tru ps) = tru (ps.foldl ins []) := tru_merge ps []

theorem shownL_of {cs : List (List Int)} {ps rs o : List Int} {en : Bool} {m : Option Int} (h : walkL cs rs (ps.foldl ins []) false = walkL cs [] o en) : shownL cs ps rs m = match m with
    | none => en
    | some k => !en && decide (k ∈ o) := by
  unfold shownL
  rw [h]
  rfl
theorem fold_small (l o : List Int) (h : l.length ≤ 1) : (l.foldl ins []).foldl ins o = l.foldl ins o := by
  cases l with
  | nil => rfl
  | cons x r =>
    cases r with
    | nil => rfl
    | cons y r =>
      simp only [List.length_cons] at h
      omega
section
variable {P : Program} {w : World} {K : PySem.W.Frag} {mg : Str → Option Value} {base : Heap}
theorem has_lshows {cs : Nat → Addr} (T : Top K mg cs) : Has P w K mg base 1 "_law_shows" ["_law_clauses", "_law_puts", "_law_rows", "_law_mark"] spShown := by
  refine has_of T.d__law_shows sc__law_shows bd__law_shows (fun vs H Q E h => ?_) (fun f cdv A outer s H vs Q E hr h => ?_)
  · obtain ⟨a, b, e, m, ps, rs, qs, cs, rfl, _⟩ := h
    rfl
  · have hu := hu_of hr
    have nd := sc__law_shows.nd
    obtain ⟨a, b, e, m, ps, rs, qs, cs, rfl, hc, hb, he, hw, hz, k⟩ := h
    have k : ∀ H', Same H H' → Q (.bl (shownL cs ps rs m)) H' := by
      rw [shown_eq]
      exact k
    refine ⟨_, (pss_cons (ps_asg (pe_tup (pa_cons (pe_callTy (call_dictP rfl) (by rfl) T.b_dict (by decide +kernel) (pa_cons (pe_lc (own := [("_law_one", 8)]) (by rfl) nd (pi_list (pv 1)) (blkOk_by (own := [("_law_one", 8)]) (N := nm__law_shows) (sc := defScope s__law_shows) (by decide +kernel)) (fun _ _ _ _ _ => pg_name (i := 8) nd rfl (.inl rfl)) (fun _ _ _ _ _ => pts_nil) (fun _ _ _ _ _ => (pe_tup (pa_cons (pv 8) (pa_cons pe_bl pa_nil))))) pa_nil)) (pa_cons pe_bl pa_nil))) (pg_tup (by rfl) (pgs_cons (pg_name (i := 4) nd rfl (.inr rfl)) (pgs_cons (pg_name (i := 5) nd rfl (.inl rfl)) pgs_nil))))
    (pss_cons (ps_for PassesOwn.never rfl (pi_list (pv 2)) (pg_name (i := 6) nd rfl (.inl rfl))
      (pss_cons (ps_if (PW.pt (pw_or (pt_val (pv 5)) (pw_or (pt_not (pt_val (pe_callB call_isi (by rfl) T.b_isinstance (by decide +kernel) (pa_cons (pv 6) (pa_cons (pe_bltn (v := .ty "int") (u := .type "int") (by rfl) T.b_int (by decide +kernel) (by rfl)) pa_nil))))) (pw_or (pt_val (pe_callB call_isi (by rfl) T.b_isinstance (by decide +kernel) (pa_cons (pv 6) (pa_cons (pe_bltn (v := .ty "bool") (u := .type "bool") (by rfl) T.b_bool (by decide +kernel) (by rfl)) pa_nil)))) (pw_or1 (pt_not (pt_chain op_le op_lt pe_int (pv 6) (pe_callB call_len_seq (by rfl) T.b_len (by decide +kernel) (pa_cons (pv 0) pa_nil))))))))) (pss_one (ps_ret pe_bl)) pss_nil)
    (pss_cons (ps_setLc (i := 7) (own := [("_law_one", 8)]) (by rfl) nd rfl rfl (sw_true rfl rfl rfl (by decide +kernel)) (pi_tup (pe_ix ix_list (pv 0) (pv 6) (fun _ _ => rfl))) (blkOk_by (own := [("_law_one", 8)]) (N := nm__law_shows) (sc := defScope s__law_shows) (by decide +kernel)) (fun _ _ _ _ _ => pg_name (i := 8) nd rfl (.inl rfl)) (fun _ _ _ _ _ => pts_one (pt_cmp (pc_dnotin hu (pe_op op_sub pe_int (pv 8)) (pv 4)))) (fun _ _ _ _ _ => (pv 8)))
    (pss_cons (ps_set (i := 5) nd rfl (.inl rfl) (pe_cmpR (op_eqNil hu) (pv 7) (pe_lst pa_nil) (nomark _)))
    (pss_cons (ps_if (PW.pt (pw_or (pt_cmpR op_gt (pe_callB call_len_seq (by rfl) T.b_len (by decide +kernel) (pa_cons (pv 7) pa_nil)) pe_int (nomark _)) (pw_or1 (pt_cmpR (op_neNil hu) (pe_lc (own := [("_law_one", 8)]) (by rfl) nd (pi_list (pv 7)) (blkOk_by (own := [("_law_one", 8)]) (N := nm__law_shows) (sc := defScope s__law_shows) (by decide +kernel)) (fun _ _ _ _ _ => pg_name (i := 8) nd rfl (.inl rfl)) (fun _ _ _ _ _ => pts_one (pt_cmp (pc_din hu (pv 8) (pv 4)))) (fun _ _ _ _ _ => (pv 8))) (pe_lst pa_nil) (nomark _))))) (pss_one (ps_ret pe_bl)) pss_nil)
    (pss_one (ps_expr (pe_bm PySem.F.plainAttrs_dict PySem.F.slot_dict_update PySem.F.type_dict_update mt_update (pv 4) (pa_cons (pe_callTy (call_dictP rfl) (by rfl) T.b_dict (by decide +kernel) (pa_cons (pe_lc (own := [("_law_one", 8)]) (by rfl) nd (pi_list (pv 7)) (blkOk_by (own := [("_law_one", 8)]) (N := nm__law_shows) (sc := defScope s__law_shows) (by decide +kernel)) (fun _ _ _ _ _ => pg_name (i := 8) nd rfl (.inl rfl)) (fun _ _ _ _ _ => pts_nil) (fun _ _ _ _ _ => (pe_tup (pa_cons (pv 8) (pa_cons pe_bl pa_nil))))) pa_nil)) pa_nil)))))))))
    (pss_one (ps_ret (pe_ifExp (pt_cmpR op_isN (pv 3) pe_non (nomark _)) (pv 5) (pe_and (pe_not (pv 5)) (pe_one (pe_cmp (pc_din hu (pv 3) (pv 4)))))))))), ?_⟩
    have line : 1000000 < sizeLine := by decide
    have l0 := fold_len ps []
    simp only [List.length_nil, Nat.zero_add] at l0
    refine ⟨_, rfl, e, rfl, ⟨_, SqL.of he⟩, fun D hD => lc_pairs (SqL.of he) hD (by omega) (fun n => rfl) (fun n H' R g => ⟨_, rfl, by show 2 ≤ sizeLine; decide, g⟩) fun H1 prs s1 h1 pr => ?_⟩
    refine ⟨D, prs, tru ps, rfl, SqL.of h1, pr.paired, fun d hd => ?_⟩
    rw [tru_fold]
    have nd0 : H d = none := s1.free hd
    refine ⟨by show 2 ≤ sizeLine; decide, fun tq htq => ⟨tq, _, rfl, SqT.of upd_same, rfl, _, _, rfl, _, _, rfl, rfl, ?_⟩⟩
    have s2 : Same H (upd (upd H1 d (.dK (tru (ps.foldl ins [])))) tq (.tup [V.ref d, V.bl false])) := s1.trans ((same_new hd).trans (same_new htq))
    have d2 : (upd (upd H1 d (.dK (tru (ps.foldl ins [])))) tq (.tup [V.ref d, V.bl false])) d = some (.dK (tru (ps.foldl ins []))) := same_new htq _ _ upd_same
    have no : ∀ H2, Same H H2 → walkL cs rs (ps.foldl ins []) false = none → Q (.bl false) H2 := fun H2 sm en => by
      have z := k H2 sm
      unfold shownL at z
      rw [en] at z
      exact z
    refine ⟨_, rfl, b, rfl, ⟨_, SqL.of (s2 _ _ hb)⟩, for_list (K := K) (a := b) (xs := rs.map V.int) (fun i σ H' => ∃ v6 v7 v8 o en, σ = [some (.ref a), some (.ref e), some (.ref b), some (optV m), some (.ref d), some (.bl en), v6, v7, v8] ∧ Same H H' ∧ H' d = some (.dK (tru o)) ∧
      walkL cs rs (ps.foldl ins []) false = walkL cs (rs.drop i) o en ∧ o.length ≤ ps.length + i) ⟨none, none, none, _, _, rfl, s2, d2, rfl, by omega⟩ ?_ ?_ ?_⟩
    · rintro i σ H' _ ⟨_, _, _, _, _, _, sm, _⟩
      exact SqL.of (sm _ _ hb)
    · rintro i x σ H' hi ⟨v6, v7, v8, o, en, rfl, sm, ho, ew, lo⟩
      obtain ⟨r, rfl, hr⟩ := int_at hi
      have li : i < rs.length := (List.getElem?_eq_some_iff.mp hr).1
      rw [drop_at hr] at ew
      have hc' := hc.same sm
      cases en with
      | true => exact ⟨_, rfl, true, rfl, iteT (iteT (no H' sm ew))⟩
      | false =>
        refine ⟨_, rfl, false, rfl, iteF ?_⟩
        refine ⟨_, rfl, .int r, .ty "int", _, _, true, rfl, .ty _, .base (.int r), kit_ty (by decide +kernel), true, rfl, iteF ?_⟩
        refine ⟨_, rfl, .int r, .ty "bool", _, _, false, rfl, .ty _, .base (.int r), kit_ty (by decide +kernel), false, rfl, iteF ?_⟩
        have ew2 : walkL cs rs (ps.foldl ins []) false = match stepL cs o r with | none => none | some (on', e') => walkL cs (rs.drop (i + 1)) on' e' := by
          rw [ew]
          show (if false = true then none else _) = _
          rw [if_neg Bool.false_ne_true]
          all_goals rfl
        have out : clAt cs r = none → walkL cs rs (ps.foldl ins []) false = none := fun hx => by
          rw [ew2]
          unfold stepL
          rw [hx]
        refine ⟨_, rfl, _, _, rfl, rfl, _, rfl, ite2 (fun h0 => ?_) (fun h0 => ?_)⟩
        · refine ⟨_, rfl, a, _, rfl, .inl (SqL.of hc'.l), _, _, rfl, rfl, _, rfl, ?_⟩
          rw [List.length_map, hc'.n]
          by_cases h1 : r < (cs.length : Int)
          · rw [decide_eq_true h1]
            refine iteF ?_
            obtain ⟨c, hx⟩ := clAt_in (of_decide_eq_true h0) h1
            obtain ⟨q, eq, hq⟩ := hc'.at hx
            have lc : c.length ≤ 1000 := hw c (List.mem_of_getElem? (clAt_some hx).2.2)
            have es : stepL cs o r = if (left o c).length > 1 ∨ ((left o c).filter fun m => decide (m ∈ o)) ≠ [] then none else some ((left o c).foldl ins o, (left o c).isEmpty) := by
              unfold stepL
              rw [hx]
            refine ⟨_, rfl, _, rfl, a, _, _, _, rfl, rfl, SqL.of hc'.l, eq, q, rfl, ⟨_, SqT.of hq⟩, fun D1 hD1 => lc_sel_tup (fun x => match x with | .int m => !decide (-m ∈ o) | _ => false) (fun x => x) (SqT.of hq) hD1 (by rw [List.length_map]; omega) (fun x hm => ?_) fun H2 s2' h2 => ?_⟩
            · obtain ⟨n, _, rfl⟩ := List.mem_map.mp hm
              refine ⟨rfl, fun Ha sa R g => ⟨_, rfl, _, _, rfl, rfl, _, rfl, d, _, rfl, DGet.k (k := Sum.inl (0 - n)) (sa _ _ ho), _, rfl, ?_⟩, fun _ Ha sa R g => ⟨_, rfl, g Ha (Same.refl _)⟩⟩
              rw [tru_some, Int.zero_sub]
              exact g Ha (Same.refl _)
            have e2 : (((c.map V.int).filter (fun x => match x with | .int m => !decide (-m ∈ o) | _ => false)).map fun x => x) = (left o c).map V.int := by
              rw [List.map_id', left, List.filter_map]
              rfl
            rw [e2] at h2
            have ll : (left o c).length ≤ 1000 := Nat.le_trans (List.length_filter_le _ _) lc
            generalize hL : left o c = l at h2 ll es
            refine ⟨_, rfl, by show 0 ≤ sizeLine; decide, fun n2 hn2 => ⟨D1, n2, _, rfl, rfl, SqL.of (same_new hn2 _ _ h2), SqL.of upd_same, ?_⟩⟩
            have s3 : Same H' (upd H2 n2 (.lst [])) := s2'.trans (same_new hn2)
            have h3 : (upd H2 n2 (.lst [])) D1 = some (.lst (l.map V.int)) := same_new hn2 _ _ h2
            generalize upd H2 n2 (.lst []) = H3 at s3 h3
            have eE : (if false = true then !(l.map V.int).isEmpty else (l.map V.int).isEmpty) = l.isEmpty := by
              rw [if_neg Bool.false_ne_true, List.isEmpty_map]
            show tSeq _ _ _ _ H3
            rw [eE]
            refine ⟨_, rfl, D1, _, rfl, .inl (SqL.of h3), _, _, rfl, rfl, _, rfl, ?_⟩
            rw [List.length_map]
            by_cases big : 1 < l.length
            · rw [decide_eq_true (show (1 : Int) < (l.length : Int) by omega)]
              refine iteT (iteT (no H3 (sm.trans s3) ?_))
              rw [ew2, es, if_pos (.inl big)]
            rw [decide_eq_false (show ¬ (1 : Int) < (l.length : Int) by omega)]
            refine iteF ⟨_, rfl, D1, rfl, ⟨_, SqL.of h3⟩, fun D2 hD2 => lc_sel_list (fun x => match x with | .int m => decide (m ∈ o) | _ => false) (fun x => x) (SqL.of h3) hD2 (by rw [List.length_map]; omega) (fun x hm => ?_) fun H4 s4 h4 => ?_⟩
            · obtain ⟨n, _, rfl⟩ := List.mem_map.mp hm
              refine ⟨rfl, fun Ha sa R g => ⟨_, rfl, _, rfl, d, _, rfl, DGet.k (k := Sum.inl n) (sa _ _ (s3 _ _ ho)), _, rfl, ?_⟩, fun _ Ha sa R g => ⟨_, rfl, g Ha (Same.refl _)⟩⟩
              rw [tru_some]
              exact g Ha (Same.refl _)
            have e4 : (((l.map V.int).filter (fun x => match x with | .int m => decide (m ∈ o) | _ => false)).map fun x => x) = (l.filter fun m => decide (m ∈ o)).map V.int := by
              rw [List.map_id', List.filter_map]
              rfl
            rw [e4] at h4
            refine ⟨by show 0 ≤ sizeLine; decide, fun n3 hn3 => ⟨D2, n3, _, rfl, rfl, SqL.of (same_new hn3 _ _ h4), SqL.of upd_same, _, rfl, ?_⟩⟩
            have s5 : Same H3 (upd H4 n3 (.lst [])) := s4.trans (same_new hn3)
            generalize upd H4 n3 (.lst []) = H5 at s5
            have eN : (if true = true then !((l.filter fun m => decide (m ∈ o)).map V.int).isEmpty else ((l.filter fun m => decide (m ∈ o)).map V.int).isEmpty) = !(l.filter fun m => decide (m ∈ o)).isEmpty := by
              rw [if_pos rfl, List.isEmpty_map]
            rw [eN]
            by_cases nn : (l.filter fun m => decide (m ∈ o)) = []
            · rw [nn]
              have h5 := s5 _ _ h3
              have ho5 := s5 _ _ (s3 _ _ ho)
              refine iteF ⟨_, rfl, .inr (.inr (.inl ⟨rfl, .inl ⟨_, ho5⟩⟩)), ?_⟩
              refine ⟨_, rfl, D1, rfl, ⟨_, SqL.of h5⟩, fun D3 hD3 => lc_pairs (SqL.of h5) hD3 (by omega) (fun n => rfl) (fun n Ha R g => ⟨_, rfl, by show 2 ≤ sizeLine; decide, g⟩) fun H6 pr6 s6 h6 p6 => ?_⟩
              refine ⟨D3, pr6, tru l, rfl, SqL.of h6, p6.paired, fun d3 hd3 => ?_⟩
              rw [tru_fold]
              have ho6 := s6 _ _ ho5
              have n3d : d ≠ d3 := ne_of_none ho6 hd3
              have lo3 := fold_len l []
              simp only [List.length_nil, Nat.zero_add] at lo3
              refine ⟨d, d3, tru o, tru (l.foldl ins []), rfl, rfl, by rw [upd_ne n3d]; exact ho6, upd_same, n3d, by unfold tru; rw [List.length_map, List.length_map]; omega, ?_⟩
              rw [tru_merge, fold_small l o (by omega)]
              have lf := fold_len l o
              refine ⟨_, _, _, l.foldl ins o, l.isEmpty, rfl, fun b2 ob eb => ?_, upd_same, ?_, by omega⟩
              · rw [upd_ne (ne_of_none eb nd0)]
                exact same_new hd3 _ _ (s6 _ _ (s5 _ _ (s3 _ _ (sm _ _ eb))))
              · rw [ew2, es, if_neg]
                rintro (z | z)
                · exact big z
                · exact z nn
            · have ne : (l.filter fun m => decide (m ∈ o)).isEmpty = false := by
                cases hh : (l.filter fun m => decide (m ∈ o)) with
                | nil => exact absurd hh nn
                | cons y ys => rfl
              rw [ne]
              refine iteT (no H5 (sm.trans (s3.trans s5)) ?_)
              rw [ew2, es, if_pos (.inr nn)]
          · rw [decide_eq_false h1]
            refine iteT (no H' sm (out ?_))
            unfold clAt
            rw [if_neg fun z => h1 z.2]
        · refine ⟨_, rfl, iteT (no H' sm (out ?_))⟩
          unfold clAt
          rw [if_neg fun z => h0 (decide_eq_true z.1)]
    · rintro σ H' ⟨v6, v7, v8, o, en, rfl, sm, ho, ew, lo⟩
      rw [List.length_map, List.drop_length] at ew
      have ek := shownL_of (m := m) ew
      have z := k H' sm
      rw [ek] at z
      cases m with
      | none => exact ⟨_, rfl, rfl, _, rfl, iteT ⟨_, rfl, z⟩⟩
      | some n =>
        refine ⟨_, rfl, rfl, _, rfl, iteF ⟨_, rfl, en, rfl, _, rfl, ?_⟩⟩
        cases en with
        | true => exact iteF z
        | false =>
          refine iteT ⟨_, rfl, _, rfl, d, _, rfl, DGet.k (k := Sum.inl n) ho, ?_⟩
          rw [tru_some]
          exact z
end

/-! ### small bounds -/
theorem puts_lim {ms pu : List Int} (un : Un ms) (ps : ∀ x ∈ nas pu, x ∈ nas ms) : ∀ x ∈ pu, x.natAbs ≤ 10 ^ 12 := fun x hx => by
  obtain ⟨y, hy, e⟩ := List.mem_map.mp (ps _ (List.mem_map.mpr ⟨x, hx, rfl⟩))
  have := un.lim y hy
  omega
theorem flat5 {ms : List Int} {ks : List (List Int)} (w : ∀ c ∈ ks, c.length ≤ 5 ∧ ClM ms c) : ks.flatten.length ≤ 5 * ks.length := flat_le ks fun c hc => (w c hc).1
theorem wide5 {ms : List Int} {ks : List (List Int)} (w : ∀ c ∈ ks, c.length ≤ 5 ∧ ClM ms c) : ∀ c ∈ ks, c.Nodup ∧ c.length ≤ 1000 := fun c hc => ⟨(w c hc).2.nodup, Nat.le_trans (w c hc).1 (by decide)⟩
theorem snoc_ofN {α : Type} {l : List α} (h : l ≠ []) : ∃ r x, l = r ++ [x] := ⟨l.dropLast, l.getLast h, (List.dropLast_concat_getLast h).symm⟩
theorem cut_nat {xs : List V} {k : Nat} : cutV xs none (some (k : Int)) = xs.take k := by
  unfold cutV
  rw [HT.sIx_none, show HT.sIx xs.length xs.length (some (k : Int)) = min k xs.length from HT.sIx_nat _ _ k, List.drop_zero, Nat.sub_zero]
  rcases Nat.le_total k xs.length with h | h
  · rw [Nat.min_eq_left h]
  · rw [Nat.min_eq_right h, List.take_of_length_le (Nat.le_refl _), List.take_of_length_le h]

/-! ### what the law's own steps tell, beside a follower -/
theorem Fol.len {H : Hp} {C : Addr} {A : FA} {D : Addr → Prop} {cs : List (List Int)} {pu tr : List Int} {rw : List (Option Int)} {ah : List (Int × Int)} {br : Option Int} (h : Fol H C A D cs pu tr rw ah br) : tr.length ≤ pu.length + cs.flatten.length := by
  obtain ⟨qs, aq, kvs, X⟩ := h
  exact X.ok.small
theorem Fol.justD {H : Hp} {C : Addr} {A : FA} {D : Addr → Prop} {cs : List (List Int)} {pu tr : List Int} {rw : List (Option Int)} {ah : List (Int × Int)} {br : Option Int} (h : Fol H C A D cs pu tr rw ah br) : ∀ x ∈ tr, Der cs pu x := by
  obtain ⟨qs, aq, kvs, X⟩ := h
  exact fun x hx => X.ok.just.der hx
theorem Fol.ntup {H : Hp} {C : Addr} {A : FA} {D : Addr → Prop} {cs : List (List Int)} {pu tr : List Int} {rw : List (Option Int)} {ah : List (Int × Int)} {br : Option Int} (h : Fol H C A D cs pu tr rw ah br) {b : Addr} (hb : D b) (xs : List V) : H b ≠ some (.tup xs) := by
  obtain ⟨qs, aq, kvs, X⟩ := h
  exact X.r.ntup hb xs
theorem Cs.fr {H H' : Hp} {C a : Addr} {A : FA} {D D' : Addr → Prop} {cs ks : List (List Int)} {qs : List Addr} {pu tr : List Int} {rw : List (Option Int)} {ah : List (Int × Int)} {br : Option Int}
    (h : Cs H a qs ks) (F : Fol H C A D cs pu tr rw ah br) (f : Fr D D' H H') (na : ¬ D a) : Cs H' a qs ks :=
  ⟨f.k _ _ h.l na, h.n, fun i q c hq hc => f.k _ _ (h.t i q c hq hc) fun z => F.ntup z _ (h.t i q c hq hc)⟩
theorem Der.lim {cs : List (List Int)} {ps : List Int} {B : Nat} (hp : ∀ y ∈ ps, y.natAbs ≤ B) (hc : ∀ c ∈ cs, ∀ y ∈ c, y.natAbs ≤ B) {x : Int} (h : Der cs ps x) : x.natAbs ≤ B := by
  cases h with
  | put z => exact hp _ z
  | cl h1 h2 _ => exact hc _ h1 _ h2
theorem ClM.lim {ms c : List Int} (h : ClM ms c) (u : Un ms) {x : Int} (hx : x ∈ c) : x.natAbs ≤ 10 ^ 12 := by
  obtain ⟨y, hy, e⟩ := h.sub x hx
  have := u.lim y hy
  omega

/-! ### chains of marks -/
def nk (ms : List Int) (k : Nat) : Int := ms.getD k 0
def clK (ms : List Int) (wd : Nat → Bool) (k : Nat) : List Int := if wd k = true then [nk ms k, -nk ms (k - 2), -nk ms (k - 1)] else [-nk ms (k - 1), nk ms k]
structure Ch (ms : List Int) (wd : Nat → Bool) (rows : List (List Int)) : Prop where
  un : Un ms
  two : 2 ≤ ms.length
  few : ms.length ≤ 1200
  w2 : ∀ k, wd k = true → 2 ≤ k
  cl : ∀ c ∈ rows, ∃ k, 1 ≤ k ∧ k < ms.length ∧ c = clK ms wd k
  al : ∀ k, 1 ≤ k → k < ms.length → clK ms wd k ∈ rows
  le : rows.length ≤ 1200
theorem nk_at {ms : List Int} {k : Nat} (h : k < ms.length) : ms[k]? = some (nk ms k) := by
  unfold nk
  rw [List.getD_eq_getElem?_getD, List.getElem?_eq_getElem h]
  rfl
theorem nk_mem {ms : List Int} {k : Nat} (h : k < ms.length) : nk ms k ∈ ms := List.mem_of_getElem? (nk_at h)
theorem nk_of {ms : List Int} {x : Int} (h : x ∈ ms) : ∃ k, k < ms.length ∧ x = nk ms k := by
  obtain ⟨k, hk⟩ := List.mem_iff_getElem?.mp h
  have l := (List.getElem?_eq_some_iff.mp hk).1
  rw [nk_at l] at hk
  exact ⟨k, l, (Option.some.inj hk).symm⟩
theorem nk_one {ms : List Int} (un : Un ms) {i j : Nat} (hi : i < ms.length) (hj : j < ms.length) (e : (nk ms i).natAbs = (nk ms j).natAbs) : i = j := by
  have a : (nas ms)[i]? = some (nk ms i).natAbs := by
    unfold nas
    rw [List.getElem?_map, nk_at hi]
    rfl
  have b : (nas ms)[j]? = some (nk ms j).natAbs := by
    unfold nas
    rw [List.getElem?_map, nk_at hj]
    rfl
  obtain ⟨l1, e1⟩ := List.getElem?_eq_some_iff.mp a
  obtain ⟨l2, e2⟩ := List.getElem?_eq_some_iff.mp b
  exact (List.getElem_inj un.nd).mp (by rw [e1, e2, e])
theorem nk_ne {ms : List Int} (un : Un ms) {i j : Nat} (hi : i < ms.length) (hj : j < ms.length) (ne : i ≠ j) : nk ms i ≠ nk ms j ∧ nk ms i ≠ -nk ms j := by
  refine ⟨fun e => ne (nk_one un hi hj (by rw [e])), fun e => ne (nk_one un hi hj (by rw [e, Int.natAbs_neg]))⟩
theorem nk_nz {ms : List Int} (un : Un ms) {i : Nat} (hi : i < ms.length) : nk ms i ≠ 0 := un.nz _ (nk_mem hi)
theorem nk_con {ms : List Int} (un : Un ms) {i j : Nat} (hi : i < ms.length) (hj : j < ms.length) : nk ms i ≠ -nk ms j := by
  by_cases e : i = j
  · subst e
    have := nk_nz un hi
    omega
  · exact (nk_ne un hi hj e).2
section
variable {ms : List Int} {wd : Nat → Bool} {rows : List (List Int)}
theorem clK_in (k : Nat) : nk ms k ∈ clK ms wd k ∧ -nk ms (k - 1) ∈ clK ms wd k := by
  unfold clK
  by_cases h : wd k = true
  · rw [if_pos h]
    simp
  · rw [if_neg h]
    simp
theorem clK_is {k : Nat} {x : Int} (h : x ∈ clK ms wd k) : x = nk ms k ∨ ∃ j, (j = k - 1 ∨ (j = k - 2 ∧ wd k = true)) ∧ x = -nk ms j := by
  unfold clK at h
  by_cases w : wd k = true
  · rw [if_pos w] at h
    simp only [List.mem_cons, List.not_mem_nil, or_false] at h
    rcases h with h | h | h
    · exact .inl h
    · exact .inr ⟨_, .inr ⟨rfl, w⟩, h⟩
    · exact .inr ⟨_, .inl rfl, h⟩
  · rw [if_neg w] at h
    simp only [List.mem_cons, List.not_mem_nil, or_false] at h
    rcases h with h | h
    · exact .inr ⟨_, .inl rfl, h⟩
    · exact .inl h
theorem clK_len (k : Nat) : 2 ≤ (clK ms wd k).length ∧ (clK ms wd k).length ≤ 3 := by
  unfold clK
  by_cases w : wd k = true
  · rw [if_pos w]
    exact ⟨by simp, by simp⟩
  · rw [if_neg w]
    exact ⟨by simp, by simp⟩
theorem clK_nd (un : Un ms) (w2 : ∀ k, wd k = true → 2 ≤ k) {k : Nat} (h1 : 1 ≤ k) (hk : k < ms.length) : (clK ms wd k).Nodup := by
  have a := nk_con un hk (show k - 1 < ms.length by omega)
  unfold clK
  by_cases w : wd k = true
  · rw [if_pos w]
    have h2 := w2 k w
    have b := nk_con un hk (show k - 2 < ms.length by omega)
    have c := (nk_ne un (show k - 2 < ms.length by omega) (show k - 1 < ms.length by omega) (by omega)).1
    refine List.nodup_cons.mpr ⟨fun z => ?_, List.nodup_cons.mpr ⟨fun z => ?_, List.nodup_cons.mpr ⟨fun z => (by cases z), List.nodup_nil⟩⟩⟩
    · simp only [List.mem_cons, List.not_mem_nil, or_false] at z
      exact z.elim b a
    · rw [List.mem_singleton] at z
      omega
  · rw [if_neg w]
    refine List.nodup_cons.mpr ⟨fun z => ?_, List.nodup_cons.mpr ⟨fun z => (by cases z), List.nodup_nil⟩⟩
    rw [List.mem_singleton] at z
    exact a z.symm
theorem Ch.nd (h : Ch ms wd rows) : ∀ c ∈ rows, c.Nodup := fun c hc => by
  obtain ⟨k, h1, h2, rfl⟩ := h.cl c hc
  exact clK_nd h.un h.w2 h1 h2
theorem Ch.nz (h : Ch ms wd rows) : ∀ c ∈ rows, ∀ m ∈ c, m ≠ 0 := fun c hc m hm => by
  obtain ⟨k, h1, h2, rfl⟩ := h.cl c hc
  rcases clK_is hm with e | ⟨j, hj, e⟩
  · rw [e]
    exact nk_nz h.un h2
  · have := nk_nz h.un (show j < ms.length by omega)
    omega
theorem Ch.good (h : Ch ms wd rows) : Good rows := by
  have f := flat_le (k := 3) rows fun c hc => by
    obtain ⟨k, _, _, rfl⟩ := h.cl c hc
    exact (clK_len k).2
  have := h.le
  exact ⟨h.nd, h.nz, by omega, by omega⟩
theorem Ch.wide (h : Ch ms wd rows) : ∀ c ∈ rows, c.length ≤ 3 := fun c hc => by
  obtain ⟨k, _, _, rfl⟩ := h.cl c hc
  exact (clK_len k).2
/-- nothing is on -/
theorem Ch.calm (h : Ch ms wd rows) : Closed rows [] := fun c hc => by
  obtain ⟨k, _, _, rfl⟩ := h.cl c hc
  refine quiet_big ?_
  have e : left [] (clK ms wd k) = clK ms wd k := List.filter_eq_self.mpr fun x _ => by simp
  rw [e]
  exact (clK_len k).1
theorem Ch.none (h : Ch ms wd rows) : (∀ x, ¬ Der rows [] x) ∧ ¬ Brk rows [] := by
  refine ⟨fun x d => ?_, not_brk h.nd (fun m hm => by cases hm) h.calm⟩
  have := der_in h.nd (fun m hm => by cases hm) h.calm d
  cases this
/-- all are on -/
theorem Ch.closed (h : Ch ms wd rows) : Closed rows ms := fun c hc => by
  obtain ⟨k, h1, h2, rfl⟩ := h.cl c hc
  have mem : nk ms k ∈ left ms (clK ms wd k) := mem_left.mpr ⟨(clK_in k).1, h.un.con (nk_mem h2)⟩
  refine ⟨fun e => (by rw [e] at mem; cases mem), fun x e => ?_⟩
  rw [e] at mem
  rw [← List.mem_singleton.mp mem]
  exact nk_mem h2
theorem Ch.all (h : Ch ms wd rows) : ∀ (n k : Nat), k < n → k < ms.length → Der rows [nk ms 0] (nk ms k) := by
  intro n
  induction n with
  | zero => intro k hk; exact absurd hk (Nat.not_lt_zero _)
  | succ n ih =>
    intro k hk hl
    by_cases e : k = 0
    · subst e
      exact .put List.mem_cons_self
    · refine .cl (h.al k (by omega) hl) (clK_in k).1 fun x hx ne => ?_
      rcases clK_is hx with e1 | ⟨j, hj, e1⟩
      · exact absurd e1 ne
      · rw [e1, Int.neg_neg]
        have : j < k := by
          rcases hj with rfl | ⟨rfl, w⟩
          · omega
          · have := h.w2 k w
            omega
        exact ih j (by omega) (by omega)
theorem Ch.on (h : Ch ms wd rows) : (∀ x, Der rows [nk ms 0] x ↔ x ∈ ms) ∧ ¬ Brk rows [nk ms 0] := by
  have z : ∀ m ∈ [nk ms 0], m ∈ ms := fun m hm => by
    rw [List.mem_singleton.mp hm]
    exact nk_mem (by have := h.two; omega)
  refine ⟨fun x => ⟨fun d => der_in h.nd z h.closed d, fun hx => ?_⟩, not_brk h.nd z h.closed⟩
  obtain ⟨k, hk, rfl⟩ := nk_of hx
  exact h.all (k + 1) k (Nat.lt_succ_self _) hk
/-- a walk brings one by one -/
theorem Ch.step (h : Ch ms wd rows) {on on' : List Int} {i : Nat} {r : Int} (hi : i < ms.length) (ho : ∀ x, x ∈ on ↔ ∃ j, j ≤ i ∧ x = nk ms j) (e : step rows on r = some on') : i + 1 < ms.length ∧ ∀ x, x ∈ on' ↔ ∃ j, j ≤ i + 1 ∧ x = nk ms j := by
  unfold _root_.Mc.step at e
  cases ec : clAt rows r with
  | none => rw [ec] at e; cases e
  | some c =>
    rw [ec] at e
    have hc : c ∈ rows := by
      unfold clAt at ec
      split at ec
      · exact List.mem_of_getElem? ec
      · cases ec
    obtain ⟨k, h1, h2, rfl⟩ := h.cl c hc
    cases el : left on (clK ms wd k) with
    | nil => simp only [el] at e; cases e
    | cons x r2 =>
      cases r2 with
      | cons y r3 => simp only [el] at e; cases e
      | nil =>
        simp only [el] at e
        have onms : ∀ y ∈ on, y ∈ ms := fun y hy => by
          obtain ⟨j, hj, rfl⟩ := (ho y).mp hy
          exact nk_mem (by omega)
        have mem : nk ms k ∈ left on (clK ms wd k) := mem_left.mpr ⟨(clK_in k).1, fun z => h.un.con (nk_mem h2) (onms _ z)⟩
        rw [el] at mem
        have ex := List.mem_singleton.mp mem
        subst ex
        by_cases hon : nk ms k ∈ on
        · rw [if_pos hon] at e; cases e
        · rw [if_neg hon] at e
          cases e
          have k1 : nk ms (k - 1) ∈ on := by
            by_cases z : nk ms (k - 1) ∈ on
            · exact z
            · have m2 : -nk ms (k - 1) ∈ left on (clK ms wd k) := mem_left.mpr ⟨(clK_in k).2, by rw [Int.neg_neg]; exact z⟩
              rw [el] at m2
              exact absurd (List.mem_singleton.mp m2).symm (nk_con h.un h2 (by omega))
          obtain ⟨j, hj, ej⟩ := (ho _).mp k1
          have e1 : k - 1 = j := by
            by_cases z : k - 1 = j
            · exact z
            · exact absurd ej (nk_ne h.un (by omega) (by omega) z).1
          have kn : ¬ k ≤ i := fun z => hon ((ho _).mpr ⟨k, z, rfl⟩)
          have ek : k = i + 1 := by omega
          subst ek
          refine ⟨h2, fun x => ?_⟩
          rw [mem_ins, ho]
          constructor
          · rintro (⟨j, hj, rfl⟩ | rfl)
            · exact ⟨j, by omega, rfl⟩
            · exact ⟨i + 1, Nat.le_refl _, rfl⟩
          · rintro ⟨j, hj, rfl⟩
            by_cases z : j ≤ i
            · exact .inl ⟨j, z, rfl⟩
            · exact .inr (by rw [show j = i + 1 by omega])
theorem Ch.bring (h : Ch ms wd rows) : ∀ (rs on on' : List Int) (i : Nat), i < ms.length → (∀ x, x ∈ on ↔ ∃ j, j ≤ i ∧ x = nk ms j) → bring rows rs on = some on' → i + rs.length < ms.length ∧ ∀ x, x ∈ on' ↔ ∃ j, j ≤ i + rs.length ∧ x = nk ms j
  | [], on, on', i, hi, ho, e => by
    cases e
    exact ⟨hi, ho⟩
  | r :: rs, on, on', i, hi, ho, e => by
    unfold _root_.Mc.bring at e
    cases es : _root_.Mc.step rows on r with
    | none => rw [es] at e; cases e
    | some on1 =>
      rw [es] at e
      obtain ⟨a, b⟩ := h.step hi ho es
      obtain ⟨c, d⟩ := h.bring rs on1 on' (i + 1) a b e
      rw [List.length_cons]
      refine ⟨by omega, fun x => ?_⟩
      rw [d x, show i + 1 + rs.length = i + (rs.length + 1) by omega]
/-- as many rows as there are -/
theorem Ch.many (h : Ch ms wd rows) {rs : List Int} (s : shownP rows [nk ms 0] rs (some (nk ms (ms.length - 1))) = true) : rs.length = ms.length - 1 := by
  have l2 := h.two
  unfold shownP at s
  cases e : _root_.Mc.bring rows rs ([nk ms 0].foldl ins []) with
  | none => simp only [e] at s; cases s
  | some on =>
    simp only [e] at s
    have s := of_decide_eq_true s
    have h0 : ∀ x, x ∈ [nk ms 0].foldl ins [] ↔ ∃ j, j ≤ 0 ∧ x = nk ms j := fun x => by
      show x ∈ ins [] (nk ms 0) ↔ _
      rw [mem_ins]
      constructor
      · rintro (z | rfl)
        · cases z
        · exact ⟨0, Nat.le_refl _, rfl⟩
      · rintro ⟨j, hj, rfl⟩
        exact .inr (by rw [show j = 0 by omega])
    obtain ⟨a, b⟩ := h.bring rs _ on 0 (by omega) h0 e
    obtain ⟨j, hj, ej⟩ := (b _).mp s
    have : ms.length - 1 = j := by
      by_cases z : ms.length - 1 = j
      · exact z
      · exact absurd ej (nk_ne h.un (by omega) (by omega) z).1
    omega
/-- broken by the last one off -/
def lastC (ms : List Int) : List Int := [-nk ms (ms.length - 1)]
theorem Ch.brk (h : Ch ms wd rows) : Brk (rows ++ [lastC ms]) [nk ms 0] := by
  have l2 := h.two
  refine ⟨lastC ms, List.mem_append_right _ List.mem_cons_self, fun x hx => ?_⟩
  rw [List.mem_singleton.mp hx, Int.neg_neg]
  exact (h.all (ms.length) (ms.length - 1) (by omega) (by omega)).more (fun c hc => List.mem_append_left _ hc) fun m hm => hm
theorem Ch.good2 (h : Ch ms wd rows) : Good (rows ++ [lastC ms]) := by
  have l2 := h.two
  have g := h.good
  have f := flat_le (k := 3) rows h.wide
  have := h.le
  refine ⟨fun c hc => ?_, fun c hc m hm => ?_, by rw [List.length_append, List.length_singleton]; omega, ?_⟩
  · rcases List.mem_append.mp hc with z | z
    · exact g.nd c z
    · rw [List.mem_singleton.mp z]
      exact List.nodup_cons.mpr ⟨fun z => (by cases z), List.nodup_nil⟩
  · rcases List.mem_append.mp hc with z | z
    · exact g.nz c z m hm
    · rw [List.mem_singleton.mp z] at hm
      rw [List.mem_singleton.mp hm]
      have := nk_nz h.un (show ms.length - 1 < ms.length by omega)
      omega
  · rw [List.flatten_append, List.length_append]
    show rows.flatten.length + 1 ≤ 800000
    omega
/-- what the last one off puts off -/
def dueL (ms : List Int) (j : Nat) : List Int := (List.range (j + 1)).map fun i => -nk ms (ms.length - 1 - i)
theorem mem_due {j : Nat} (hj : j < ms.length) {x : Int} : x ∈ dueL ms j ↔ ∃ k, ms.length - 1 - j ≤ k ∧ k < ms.length ∧ x = -nk ms k := by
  unfold dueL
  rw [List.mem_map]
  constructor
  · rintro ⟨i, hi, rfl⟩
    have := List.mem_range.mp hi
    exact ⟨ms.length - 1 - i, by omega, by omega, rfl⟩
  · rintro ⟨k, h1, h2, rfl⟩
    exact ⟨ms.length - 1 - k, List.mem_range.mpr (by omega), by rw [show ms.length - 1 - (ms.length - 1 - k) = k by omega]⟩
theorem due_snoc (j : Nat) : dueL ms (j + 1) = dueL ms j ++ [-nk ms (ms.length - 1 - (j + 1))] := by
  unfold dueL
  rw [List.range_succ, List.map_append]
  rfl
theorem due_nd (un : Un ms) {j : Nat} (hj : j < ms.length) : (dueL ms j).Nodup := by
  unfold dueL
  refine List.pairwise_map.mpr ((List.nodup_range (n := j + 1)).imp_of_mem fun {a b} ha hb ne e => ?_)
  have := List.mem_range.mp ha
  have := List.mem_range.mp hb
  exact (nk_ne un (i := ms.length - 1 - a) (j := ms.length - 1 - b) (by omega) (by omega) (by omega)).1 (by omega)
theorem due_con (un : Un ms) {j : Nat} (hj : j < ms.length) : ∀ x ∈ dueL ms j, -x ∉ dueL ms j := fun x hx z => by
  obtain ⟨k, _, h2, rfl⟩ := (mem_due hj).mp hx
  obtain ⟨k', _, h2', e⟩ := (mem_due hj).mp z
  rw [Int.neg_neg] at e
  exact nk_con un h2 h2' e
theorem Ch.back (h : Ch ms wd rows) {j : Nat} (hj : j < ms.length) (nw : ∀ k, ms.length - 1 - j < k → k < ms.length → wd k = false) (stop : ms.length - 1 - j = 0 ∨ wd (ms.length - 1 - j) = true) :
    (∀ x, Der (rows ++ [lastC ms]) [] x ↔ x ∈ dueL ms j) ∧ ¬ Brk (rows ++ [lastC ms]) [] := by
  have l2 := h.two
  have gd := h.good2
  have inD : ∀ k, k < ms.length → (-nk ms k ∈ dueL ms j ↔ ms.length - 1 - j ≤ k) := fun k hk => by
    rw [mem_due hj]
    constructor
    · rintro ⟨k', a, b, e⟩
      by_cases z : k = k'
      · omega
      · exact absurd (show nk ms k = nk ms k' by omega) (nk_ne h.un hk b z).1
    · intro z
      exact ⟨k, z, hk, rfl⟩
  have outD : ∀ k, k < ms.length → nk ms k ∉ dueL ms j := fun k hk z => by
    obtain ⟨k', a, b, e⟩ := (mem_due hj).mp z
    exact nk_con h.un hk b e
  have cl : Closed (rows ++ [lastC ms]) (dueL ms j) := fun c hc => by
    rcases List.mem_append.mp hc with z | z
    · obtain ⟨k, h1, h2, rfl⟩ := h.cl c z
      have m1 : -nk ms (k - 1) ∈ left (dueL ms j) (clK ms wd k) := mem_left.mpr ⟨(clK_in k).2, by rw [Int.neg_neg]; exact outD _ (by omega)⟩
      by_cases g : ms.length - 1 - j < k
      · -- the mark ahead is off
        refine ⟨fun e => (by rw [e] at m1; cases m1), fun x e => ?_⟩
        rw [e] at m1
        rw [← List.mem_singleton.mp m1, inD _ (by omega)]
        omega
      · refine quiet_big ?_
        by_cases g2 : k = ms.length - 1 - j
        · have w : wd k = true := by
            rcases stop with z | z
            · omega
            · rw [g2]; exact z
          have k2 := h.w2 k w
          have m2 : -nk ms (k - 2) ∈ left (dueL ms j) (clK ms wd k) := mem_left.mpr ⟨by unfold clK; rw [if_pos w]; simp, by rw [Int.neg_neg]; exact outD _ (by omega)⟩
          have sub := nodup_le (xs := [-nk ms (k - 1), -nk ms (k - 2)]) (ys := left (dueL ms j) (clK ms wd k)) (by
            have := (nk_ne h.un (show k - 1 < ms.length by omega) (show k - 2 < ms.length by omega) (by omega)).1
            refine List.nodup_cons.mpr ⟨fun z => ?_, List.nodup_cons.mpr ⟨fun z => (by cases z), List.nodup_nil⟩⟩
            have := List.mem_singleton.mp z
            omega) (fun x hx => by
            rcases List.mem_cons.mp hx with rfl | hx
            · exact m1
            · rw [List.mem_singleton.mp hx]
              exact m2)
          exact sub
        · have m2 : nk ms k ∈ left (dueL ms j) (clK ms wd k) := mem_left.mpr ⟨(clK_in k).1, fun z => by have := (inD k h2).mp z; omega⟩
          have sub := nodup_le (xs := [-nk ms (k - 1), nk ms k]) (ys := left (dueL ms j) (clK ms wd k)) (by
            have := nk_con h.un h2 (show k - 1 < ms.length by omega)
            refine List.nodup_cons.mpr ⟨fun z => ?_, List.nodup_cons.mpr ⟨fun z => (by cases z), List.nodup_nil⟩⟩
            exact this (List.mem_singleton.mp z).symm) (fun x hx => by
            rcases List.mem_cons.mp hx with rfl | hx
            · exact m1
            · rw [List.mem_singleton.mp hx]
              exact m2)
          exact sub
    · rw [List.mem_singleton.mp z]
      have m1 : -nk ms (ms.length - 1) ∈ left (dueL ms j) (lastC ms) := mem_left.mpr ⟨List.mem_cons_self, by rw [Int.neg_neg]; exact outD _ (by omega)⟩
      refine ⟨fun e => (by rw [e] at m1; cases m1), fun x e => ?_⟩
      rw [e] at m1
      rw [← List.mem_singleton.mp m1, inD _ (by omega)]
      omega
  have up : ∀ i, i ≤ j → Der (rows ++ [lastC ms]) [] (-nk ms (ms.length - 1 - i)) := by
    intro i
    induction i with
    | zero =>
      intro _
      refine .cl (List.mem_append_right _ List.mem_cons_self) (c := lastC ms) (by rw [Nat.sub_zero]; exact List.mem_cons_self) fun x hx ne => ?_
      exact absurd (List.mem_singleton.mp hx) (by rw [Nat.sub_zero] at ne; exact ne)
    | succ i ih =>
      intro hi
      have d := ih (by omega)
      have w := nw (ms.length - 1 - i) (by omega) (by omega)
      have ec : clK ms wd (ms.length - 1 - i) = [-nk ms (ms.length - 1 - (i + 1)), nk ms (ms.length - 1 - i)] := by
        unfold clK
        rw [if_neg (by rw [w]; exact Bool.false_ne_true), show ms.length - 1 - i - 1 = ms.length - 1 - (i + 1) by omega]
      have hin := h.al (ms.length - 1 - i) (by omega) (by omega)
      rw [ec] at hin
      refine .cl (List.mem_append_left _ hin) List.mem_cons_self fun x hx ne => ?_
      rcases List.mem_cons.mp hx with e | e
      · exact absurd e ne
      · rw [List.mem_singleton.mp e]
        exact d
  refine ⟨fun x => ⟨fun d => der_in gd.nd (fun m hm => by cases hm) cl d, fun hx => ?_⟩, not_brk gd.nd (fun m hm => by cases hm) cl⟩
  obtain ⟨k, a, b, rfl⟩ := (mem_due hj).mp hx
  have := up (ms.length - 1 - k) (by omega)
  rw [show ms.length - 1 - (ms.length - 1 - k) = k by omega] at this
  exact this
end

/-! ### names by steps round 1201 -/
theorem inv1201 : ∀ b : Fin 241, 0 < b.val → b.val * (b.val ^ 1199 % 1201) % 1201 = 1 := by decide +kernel
theorem dec1201 {b d : Nat} (hb : 0 < b) (hb2 : b ≤ 240) (hd : 0 < d) (hd2 : d ≤ 1200) : b * d % 1201 ≠ 0 := fun e => by
  have i : b * (b ^ 1199 % 1201) % 1201 = 1 := inv1201 ⟨b, by omega⟩ hb
  generalize b ^ 1199 % 1201 = c at i
  have a : d * (b * c) % 1201 = d % 1201 := by
    rw [Nat.mul_mod, i, Nat.mul_one, Nat.mod_mod]
  have z : d * (b * c) % 1201 = 0 := by
    rw [show d * (b * c) = (b * d) * c by rw [← Nat.mul_assoc, Nat.mul_comm d b], Nat.mul_mod, e, Nat.zero_mul, Nat.zero_mod]
  omega
theorem inj1201 {B : Int} {i j : Nat} (h0 : 1 ≤ B) (h1 : B ≤ 240) (hi : i < 1201) (hij : j < i) : B * (i : Int) % 1201 ≠ B * (j : Int) % 1201 := fun e => by
  have d := dec1201 (b := B.toNat) (d := i - j) (by omega) (by omega) (by omega) (by omega)
  have s : B * (i : Int) = B * (j : Int) + B * ((i - j : Nat) : Int) := by
    rw [← Int.mul_add]
    congr 1
    omega
  have eB : ((B.toNat : Nat) : Int) = B := by omega
  have m : B * ((i - j : Nat) : Int) % 1201 = 0 := by
    rw [s] at e
    generalize B * (j : Int) = x at e
    generalize B * ((i - j : Nat) : Int) = y at e ⊢
    omega
  apply d
  have : ((B.toNat * (i - j) % 1201 : Nat) : Int) = 0 := by
    rw [Int.natCast_emod, Int.natCast_mul, eB]
    exact m
  exact Int.ofNat.inj this
def cnm (z B : Int) (n : Nat) : List Int := (List.range n).map fun (i : Nat) => z + 3 * (B * (0 + (i : Int)) % 1201)
theorem cnames {z B : Int} {n : Nat} (hz : 1 ≤ z) (hz9 : z ≤ 900) (h0 : 1 ≤ B) (h1 : B ≤ 240) (hn : n ≤ 1201) : Un (cnm z B n) := by
  have pos : ∀ i : Nat, 0 ≤ B * (0 + (i : Int)) % 1201 ∧ B * (0 + (i : Int)) % 1201 < 1201 := fun i => ⟨Int.emod_nonneg _ (by decide), Int.emod_lt_of_pos _ (by decide)⟩
  unfold cnm
  refine ⟨?_, fun x hx => ?_, fun x hx => ?_⟩
  · unfold nas
    rw [List.map_map]
    refine List.pairwise_map.mpr ((List.pairwise_lt_range (n := n)).imp_of_mem fun {a b} ha hb hab e => ?_)
    have hb' := List.mem_range.mp hb
    have e : (z + 3 * (B * (0 + (a : Int)) % 1201)).natAbs = (z + 3 * (B * (0 + (b : Int)) % 1201)).natAbs := e
    have p1 := pos a
    have p2 := pos b
    have e2 : B * (0 + (a : Int)) % 1201 = B * (0 + (b : Int)) % 1201 := by omega
    rw [Int.zero_add, Int.zero_add] at e2
    exact inj1201 h0 h1 (by omega) hab e2.symm
  · obtain ⟨i, _, rfl⟩ := List.mem_map.mp hx
    have := pos i
    omega
  · obtain ⟨i, _, rfl⟩ := List.mem_map.mp hx
    have := pos i
    omega
/-! ### rows as pairs of addresses and clauses -/
def PR (H : Hp) (ps : List (Addr × List Int)) : Prop := ∀ p ∈ ps, H p.1 = some (.tup (p.2.map V.int))
def rfs (ps : List (Addr × List Int)) : List V := ps.map fun p => V.ref p.1
theorem PR.same {H H' : Hp} {ps : List (Addr × List Int)} (h : PR H ps) (s : Same H H') : PR H' ps := fun p hp => s _ _ (h p hp)
theorem PR.keep {H H' : Hp} {ps : List (Addr × List Int)} (h : PR H ps) (k : ∀ b xs, H b = some (.tup xs) → H' b = some (.tup xs)) : PR H' ps := fun p hp => k _ _ (h p hp)
theorem PR.cs {H : Hp} {a : Addr} {ps : List (Addr × List Int)} (h : PR H ps) (hl : H a = some (.lst (rfs ps))) : Cs H a (ps.map (·.1)) (ps.map (·.2)) := by
  refine ⟨by rw [hl]; unfold rfs; rw [List.map_map]; rfl, by rw [List.length_map, List.length_map], fun i q c hq hc => ?_⟩
  rw [List.getElem?_map] at hq hc
  cases e : ps[i]? with
  | none => rw [e] at hq; cases hq
  | some p =>
    rw [e] at hq hc
    cases hq
    cases hc
    exact h p (List.mem_of_getElem? e)
theorem tup_kp {H H' : Hp} {t c : Addr} {n : Nat} (tp : Tape H t c n) (k : Kp t H H') : ∀ b xs, H b = some (.tup xs) → H' b = some (.tup xs) := fun b xs e => k b _ e fun y => by
  obtain ⟨ns, spot, left, tc, _⟩ := tp
  exact ne_of e tc.d (by intro z; cases z) y
theorem tup_upd {H : Hp} {l : Addr} {ys : List V} {o : HO} (h : H l = some (.lst ys)) : ∀ b xs, H b = some (.tup xs) → (upd H l o) b = some (.tup xs) := fun b xs e => by
  rw [upd_ne (ne_of e h (by intro z; cases z))]
  exact e
/-- rows by their places -/
def RowsAt (ms : List Int) (wd : Nat → Bool) (ps : List (Addr × List Int)) : Prop := ps.length + 1 = ms.length ∧ ∀ i, i + 1 < ms.length → ∃ q, ps[i]? = some (q, clK ms wd (i + 1))
theorem RowsAt.ch {ms : List Int} {wd : Nat → Bool} {ps : List (Addr × List Int)} (h : RowsAt ms wd ps) (un : Un ms) (two : 2 ≤ ms.length) (few : ms.length ≤ 1200) (w2 : ∀ k, wd k = true → 2 ≤ k) : Ch ms wd (ps.map (·.2)) := by
  obtain ⟨hl, hr⟩ := h
  refine ⟨un, two, few, w2, fun c hc => ?_, fun k h1 h2 => ?_, by rw [List.length_map]; omega⟩
  · obtain ⟨p, hp, rfl⟩ := List.mem_map.mp hc
    obtain ⟨i, e⟩ := List.mem_iff_getElem?.mp hp
    have li := (List.getElem?_eq_some_iff.mp e).1
    obtain ⟨q, e2⟩ := hr i (by omega)
    rw [e] at e2
    cases e2
    exact ⟨i + 1, by omega, by omega, rfl⟩
  · obtain ⟨q, e⟩ := hr (k - 1) (by omega)
    rw [show k - 1 + 1 = k by omega] at e
    exact List.mem_map.mpr ⟨_, List.mem_of_getElem? e, rfl⟩
theorem Ch.alike {ms : List Int} {wd : Nat → Bool} {ps ps' : List (Addr × List Int)} (h : Ch ms wd (ps.map (·.2))) (e : ∀ p, p ∈ ps' ↔ p ∈ ps) (l : ps'.length ≤ 1200) : Ch ms wd (ps'.map (·.2)) := by
  refine ⟨h.un, h.two, h.few, h.w2, fun c hc => ?_, fun k h1 h2 => ?_, by rw [List.length_map]; exact l⟩
  · obtain ⟨p, hp, rfl⟩ := List.mem_map.mp hc
    exact h.cl _ (List.mem_map.mpr ⟨p, (e p).mp hp, rfl⟩)
  · obtain ⟨p, hp, e2⟩ := List.mem_map.mp (h.al k h1 h2)
    exact List.mem_map.mpr ⟨p, (e p).mpr hp, e2⟩
theorem mem_stp2 {α : Type} {x : α} : ∀ l : List α, x ∈ l ↔ x ∈ stp2 l ∨ x ∈ stp2 (l.drop 1)
  | [] => by simp [stp2]
  | [y] => by simp [stp2]
  | [y, z] => by simp [stp2]
  | y :: z :: u :: r => by
    have ih := mem_stp2 (x := x) (u :: r)
    show x ∈ y :: z :: u :: r ↔ x ∈ stp2 (y :: z :: u :: r) ∨ x ∈ stp2 (z :: u :: r)
    rw [stp2, stp2, List.mem_cons, List.mem_cons, ih, List.mem_cons, List.mem_cons]
    show _ ∨ _ ∨ x ∈ stp2 (u :: r) ∨ x ∈ stp2 r ↔ _
    constructor
    · rintro (h | h | h | h)
      · exact .inl (.inl h)
      · exact .inr (.inl h)
      · exact .inl (.inr h)
      · exact .inr (.inr h)
    · rintro ((h | h) | h | h)
      · exact .inl h
      · exact .inr (.inr (.inl h))
      · exact .inr (.inl h)
      · exact .inr (.inr (.inr h))
theorem stpV_map {α β : Type} (f : α → β) (l : List α) (k : Int) : stpV (l.map f) k = (stpV l k).map f := by
  unfold stpV
  split
  · rfl
  · rw [List.map_reverse]
theorem mem_stpV {α : Type} {x : α} {l : List α} {k : Int} : x ∈ stpV l k ↔ x ∈ l := by
  unfold stpV
  split
  · exact Iff.rfl
  · exact List.mem_reverse
theorem stpV_len {α : Type} (l : List α) (k : Int) : (stpV l k).length = l.length := by
  unfold stpV
  split
  · rfl
  · exact List.length_reverse
theorem cut2_rfs (ps : List (Addr × List Int)) : cut2 (rfs ps) none = rfs (stp2 ps) ∧ cut2 (rfs ps) (some 1) = rfs (stp2 (ps.drop 1)) := by
  refine ⟨?_, ?_⟩
  · unfold cut2 rfs
    rw [← stp2_map]
    rfl
  · unfold cut2 rfs
    rw [← stp2_map, ← List.map_drop]
    congr 1
    cases ps with
    | nil => rfl
    | cons p r =>
      show List.map (fun p : Addr × List Int => V.ref p.1) (List.drop (min 1 ((p :: r).map fun p : Addr × List Int => V.ref p.1).length) (p :: r)) = _
      rw [List.length_map, List.length_cons, Nat.min_eq_left (by omega)]
theorem nk_ix {ms : List Int} {k : Nat} {z : Int} (e : z = (k : Int)) (h : k < ms.length) : atI (ms.map V.int) z = some (.int (nk ms k)) := by
  rw [e]
  refine atI_nat ?_
  rw [List.getElem?_map, nk_at h]
  rfl
theorem nk_last {ms : List Int} (h : 1 ≤ ms.length) : atI (ms.map V.int) (-1) = some (.int (nk ms (ms.length - 1))) := by
  have e : ms = ms.take (ms.length - 1) ++ [nk ms (ms.length - 1)] := by
    have := take_snoc' (nk_at (ms := ms) (k := ms.length - 1) (by omega))
    rw [show ms.length - 1 + 1 = ms.length by omega, List.take_length] at this
    exact this
  have z : ∀ l : List Int, l = ms.take (ms.length - 1) ++ [nk ms (ms.length - 1)] → atI (l.map V.int) (-1) = some (.int (nk ms (ms.length - 1))) := fun l el => by
    rw [el, List.map_append]
    exact atI_last _ _
  exact z ms e
def wdj (wd : Nat → Bool) (j : Nat) : Nat → Bool := fun k => wd k && decide (k < 2 + j)
theorem RowsAt.skip {ms : List Int} {wd : Nat → Bool} {j : Nat} {ps : List (Addr × List Int)} (h : RowsAt ms (wdj wd j) ps) (w : wd (2 + j) = false) : RowsAt ms (wdj wd (j + 1)) ps := by
  refine ⟨h.1, fun i hi => ?_⟩
  obtain ⟨q, e⟩ := h.2 i hi
  refine ⟨q, ?_⟩
  rw [e]
  have z : wdj wd (j + 1) (i + 1) = wdj wd j (i + 1) := by
    unfold wdj
    by_cases y : i + 1 = 2 + j
    · rw [y, w, Bool.false_and, Bool.false_and]
    · congr 1
      exact decide_eq_decide.mpr (by omega)
  unfold clK
  rw [z]
theorem RowsAt.put {ms : List Int} {wd : Nat → Bool} {j : Nat} {ps : List (Addr × List Int)} {q : Addr} (h : RowsAt ms (wdj wd j) ps) (w : wd (2 + j) = true) (hj : 2 + j < ms.length) :
    RowsAt ms (wdj wd (j + 1)) (ps.set (1 + j) (q, [nk ms (2 + j), -nk ms j, -nk ms (1 + j)])) := by
  refine ⟨by rw [List.length_set]; exact h.1, fun i hi => ?_⟩
  by_cases y : 1 + j = i
  · subst y
    refine ⟨q, ?_⟩
    rw [List.getElem?_set_self (by have := h.1; omega)]
    have z : wdj wd (j + 1) (1 + j + 1) = true := by
      unfold wdj
      rw [show 1 + j + 1 = 2 + j by omega, w, decide_eq_true (by omega)]
      rfl
    unfold clK
    rw [if_pos z, show 1 + j + 1 = 2 + j by omega, show 2 + j - 2 = j by omega, show 2 + j - 1 = 1 + j by omega]
  · obtain ⟨q', e⟩ := h.2 i hi
    refine ⟨q', ?_⟩
    rw [List.getElem?_set_ne y, e]
    have z : wdj wd (j + 1) (i + 1) = wdj wd j (i + 1) := by
      unfold wdj
      congr 1
      exact decide_eq_decide.mpr (by omega)
    unfold clK
    rw [z]
theorem RowsAt.end_ {ms : List Int} {wd : Nat → Bool} {j : Nat} {ps : List (Addr × List Int)} (h : RowsAt ms (wdj wd j) ps) (hj : ms.length ≤ 2 + j) : RowsAt ms wd ps := by
  refine ⟨h.1, fun i hi => ?_⟩
  obtain ⟨q, e⟩ := h.2 i hi
  refine ⟨q, ?_⟩
  rw [e]
  have z : wdj wd j (i + 1) = wd (i + 1) := by
    unfold wdj
    rw [decide_eq_true (by omega), Bool.and_true]
  unfold clK
  rw [z]
theorem Tape.off {H H' : Hp} {t c b : Addr} {n : Nat} (h : Tape H t c n) (k : Kp b H H') (bt : b ≠ t) (bc : b ≠ c) : Tape H' t c n := h.stay fun x o e z => k x o e (by
  rcases z with rfl | rfl
  · exact bt.symm
  · exact bc.symm)
theorem ixn_of {n j : Nat} {z : Int} (e : z = (j : Int)) (h : j < n) : ixN n z = some j := by
  subst e
  unfold ixN
  rw [if_pos (by omega), if_pos (by omega), Int.toNat_natCast]
theorem rfs_set (ps : List (Addr × List Int)) (j : Nat) (q : Addr) (c : List Int) : (rfs ps).set j (.ref q) = rfs (ps.set j (q, c)) := by
  unfold rfs
  rw [List.map_set]
theorem mem_set_of {α : Type} {l : List α} {j : Nat} {x y : α} (h : x ∈ l.set j y) : x ∈ l ∨ x = y := by
  rcases List.mem_or_eq_of_mem_set h with z | z
  · exact .inl z
  · exact .inr z
theorem cut_one {xs : List V} : cutV xs (some 1) none = xs.drop 1 := by
  unfold cutV
  rw [HT.sIx_none, show HT.sIx xs.length 0 (some (1 : Int)) = min 1 xs.length from HT.sIx_nat _ _ 1]
  cases xs with
  | nil => rfl
  | cons x r =>
    rw [List.length_cons, Nat.min_eq_left (by omega)]
    show List.take (r.length + 1 - 1) r = r
    rw [Nat.add_sub_cancel, List.take_length]
theorem take_one {ms : List Int} (h : 1 ≤ ms.length) : ms.take 1 = [nk ms 0] := by
  have := take_snoc' (nk_at (ms := ms) (k := 0) (by omega))
  exact this
theorem no_mem {l : List Int} (h : ∀ x, x ∉ l) : l = [] := List.eq_nil_iff_forall_not_mem.mpr h
theorem Cs.more {H H' : Hp} {a b q : Addr} {qs : List Addr} {cs : List (List Int)} {c : List Int} (h : Cs H a qs cs) (s : Same H H') (hq : H q = some (.tup (c.map V.int))) (hb : H' b = some (.lst (qs.map V.ref ++ [.ref q]))) : Cs H' b (qs ++ [q]) (cs ++ [c]) := by
  refine ⟨by rw [hb, List.map_append]; rfl, by rw [List.length_append, List.length_append, h.n]; rfl, fun i q' c' e2 e3 => s _ _ ?_⟩
  have n := h.n
  rcases getElem_snoc e2 with ⟨y1, y2⟩ | ⟨y1, y2⟩
  · rcases getElem_snoc e3 with ⟨z1, z2⟩ | ⟨z1, z2⟩
    · exact h.t i q' c' y2 z2
    · omega
  · rcases getElem_snoc e3 with ⟨z1, z2⟩ | ⟨z1, z2⟩
    · omega
    · rw [← y2, ← z2]
      exact hq

section
variable {P : Program} {w : World} {K : PySem.W.Frag} {mg : Str → Option Value} {base : Heap}
def spLaw (K : PySem.W.Frag) : Sp := fun vs H Q _ => ∃ (a : Addr) (ns : List Int), vs = [.ref a] ∧ SqL K H a (ns.map V.int) ∧ ns.length ≤ 63 ∧ ∀ H', Q (.bl true) H'
def spRisen (K : PySem.W.Frag) : Sp := fun vs H Q _ => ∃ (a : Addr) (ns : List Int), vs = [.ref a] ∧ SqL K H a (ns.map V.int) ∧ ∀ H' p, H p = none → Same H H' → H' p = some (.lst ((byAbs ns).map V.int)) → Q (.ref p) H'
theorem has_risen {cs : Nat → Addr} (T : Top K mg cs) : Has P w K mg base 1 "_law_risen" ["_law_marks"] (spRisen K) := by
  refine has_of T.d__law_risen sc__law_risen bd__law_risen (fun vs H Q E h => ?_) (fun f cdv A outer s H vs Q E hr h => ?_)
  · obtain ⟨a, ns, rfl, _⟩ := h
    rfl
  · have hu := hu_of hr
    have nd := sc__law_risen.nd
    obtain ⟨a, ns, rfl, hn, k⟩ := h
    refine ⟨_, (pss_one (ps_ret (pe_sortAbs hr.units (by rfl) T.b_sorted (by rfl) T.b_abs (pa_cons (pv 0) pa_nil)))), ?_⟩
    exact ⟨_, rfl, a, ns, rfl, hn, fun p hp => k _ p hp (same_new hp) upd_same⟩
theorem ok_law {f : Addr} {fd : FuncData} (F : Fun K "law" "law" s_law f fd) {cs : Nat → Addr} (T : Top K mg cs) (h__law_begun : Has P w K mg base 1 "_law_begun" ["_law_script"] (spBegun K)) (h__law_draw : Has P w K mg base 1 "_law_draw" ["_law_tape", "_law_many"] spDraw)
    (h__law_pick : Has P w K mg base 2 "_law_pick" ["_law_tape", "_law_some"] (spPick K)) (h__law_risen : Has P w K mg base 1 "_law_risen" ["_law_marks"] (spRisen K)) (h__law_shows : Has P w K mg base 1 "_law_shows" ["_law_clauses", "_law_puts", "_law_rows", "_law_mark"] spShown)
    (h_Follower___init__ : HasI P w K mg base (cs 0) 4 "Follower" ["self", "clauses"] (spInit (cs 0) K)) (h_Follower_put : HasM P w K mg base (cs 0) 4 "put" ["self", "mark"] (spPut (cs 0))) (h_Follower_add : HasM P w K mg base (cs 0) 4 "add" ["self", "clause"] (spAdd (cs 0)))
    (h_Follower_back : HasM P w K mg base (cs 0) 4 "back" ["self"] (spBack (cs 0))) (h_Follower_on : HasM P w K mg base (cs 0) 2 "on" ["self"] (spOn (cs 0))) (h_Follower_shown : HasM P w K mg base (cs 0) 3 "shown" ["self", "mark"] (spShownM (cs 0))) :
    FnOk P w K mg base CX0 7 f fd ["_law_script"] (spLaw K) := by
  refine F.ok sc_law (fun vs H Q E h => ?_) (fun cdv Ar outer s H vs Q E hr h => ?_)
  · obtain ⟨a, ns, rfl, _⟩ := h
    rfl
  · have hu := hu_of hr
    have nd := sc_law.nd
    obtain ⟨a, ns, rfl, hS, hl, k⟩ := h
    refine ⟨_, (pss_cons (ps_set (i := 1) nd rfl (.inr rfl) (pe_has h__law_begun (hr.mono (by omega)) (by rfl) (pa_cons (pv 0) pa_nil)))
    (pss_cons (ps_for PassesOwn.never rfl (pi_range1 (by rfl) T.b_range (pa_cons (pe_op op_add pe_int (pe_callB (call_min2 rfl) (by rfl) T.b_min (by decide +kernel) (pa_cons pe_int (pa_cons (pe_callB call_len_seq (by rfl) T.b_len (by decide +kernel) (pa_cons (pv 0) pa_nil)) pa_nil)))) pa_nil)) (pg_name (i := 2) nd rfl (.inl rfl))
      (pss_cons (ps_asg (pe_tup (pa_cons (pe_op op_add pe_int (pe_has h__law_draw (hr.mono (by omega)) (by rfl) (pa_cons (pv 1) (pa_cons (pe_has h__law_pick (hr.mono (by omega)) (by rfl) (pa_cons (pv 1) (pa_cons (pe_lst (pa_cons pe_int (pa_cons pe_int (pa_cons pe_int pa_nil)))) pa_nil))) pa_nil)))) (pa_cons (pe_op op_add pe_int (pe_has h__law_draw (hr.mono (by omega)) (by rfl) (pa_cons (pv 1) (pa_cons pe_int pa_nil)))) pa_nil))) (pg_tup (by rfl) (pgs_cons (pg_name (i := 3) nd rfl (.inl rfl)) (pgs_cons (pg_name (i := 4) nd rfl (.inr rfl)) pgs_nil))))
    (C8.pss_cut (ps_asg (pe_tup (pa_cons (pe_op op_add pe_int (pe_has h__law_draw (hr.mono (by omega)) (by rfl) (pa_cons (pv 1) (pa_cons pe_int pa_nil)))) (pa_cons (pe_has h__law_pick (hr.mono (by omega)) (by rfl) (pa_cons (pv 1) (pa_cons (pe_lst (pa_cons pe_int (pa_cons (pe_un un_neg pe_int) pa_nil))) pa_nil))) (pa_cons (pe_and (pe_cmpR op_eq (pv 2) pe_int (nomark _)) (pe_one (pe_cmpR op_eq (pe_has h__law_draw (hr.mono (by omega)) (by rfl) (pa_cons (pv 1) (pa_cons pe_int pa_nil))) pe_int (nomark _)))) pa_nil)))) (pg_tup (by rfl) (pgs_cons (pg_name (i := 5) nd rfl (.inr rfl)) (pgs_cons (pg_name (i := 6) nd rfl (.inl rfl)) (pgs_cons (pg_name (i := 7) nd rfl (.inl rfl)) pgs_nil)))))
    (C8.pss_cut (ps_set (i := 3) nd rfl (.inl rfl) (pe_ifExp (pt_val (pv 7)) (pe_op op_add pe_int (pe_has h__law_draw (hr.mono (by omega)) (by rfl) (pa_cons (pv 1) (pa_cons pe_int pa_nil)))) (pv 3)))
    (pss_cons (ps_setLc (i := 9) (own := [("_law_k", 8)]) (by rfl) nd rfl rfl (sw_true rfl rfl rfl (by decide +kernel)) (pi_range1 (by rfl) T.b_range (pa_cons (pv 3) pa_nil)) (blkOk_by (own := [("_law_k", 8)]) (N := nm_law) (sc := defScope s_law) (by decide +kernel)) (fun _ _ _ _ _ => pg_name (i := 8) nd rfl (.inl rfl)) (fun _ _ _ _ _ => pts_nil) (fun _ _ _ _ _ => (pe_op op_add (pv 5) (pe_op op_mul pe_int (pe_op op_mod (pe_op op_mul (pv 4) (pv 8)) pe_int)))))
    (pss_cons (ps_set (i := 10) nd rfl (.inr rfl) (pe_lc (own := [("_law_name", 19)]) (by rfl) nd (pi_list (pv 9)) (blkOk_by (own := [("_law_name", 19)]) (N := nm_law) (sc := defScope s_law) (by decide +kernel)) (fun _ _ _ _ _ => pg_name (i := 19) nd rfl (.inl rfl)) (fun _ _ _ _ _ => pts_nil) (fun _ _ _ _ _ => (pe_has h__law_pick (hr.mono (by omega)) (by rfl) (pa_cons (pv 1) (pa_cons (pe_lst (pa_cons (pv 19) (pa_cons (pv 19) (pa_cons (pe_op op_sub pe_int (pv 19)) pa_nil)))) pa_nil))))))
    (pss_cons (ps_setLc (i := 11) (own := [("_law_k", 8)]) (by rfl) nd rfl rfl (sw_true rfl rfl rfl (by decide +kernel)) (pi_range1 (by rfl) T.b_range (pa_cons (pv 3) pa_nil)) (blkOk_by (own := [("_law_k", 8)]) (N := nm_law) (sc := defScope s_law) (by decide +kernel)) (fun _ _ _ _ _ => pg_name (i := 8) nd rfl (.inl rfl)) (fun _ _ _ _ _ => pts_nil) (fun _ _ _ _ _ => (pe_and (pe_cmpR op_gt (pv 8) pe_int (nomark _)) (pe_one (pe_cmpR op_eq (pe_has h__law_draw (hr.mono (by omega)) (by rfl) (pa_cons (pv 1) (pa_cons pe_int pa_nil))) pe_int (nomark _))))))
    (pss_cons (ps_setLc (i := 12) (own := [("_law_k", 8)]) (by rfl) nd rfl rfl (sw_true rfl rfl rfl (by decide +kernel)) (pi_range2 (by rfl) T.b_range (pa_cons pe_int (pa_cons (pv 3) pa_nil))) (blkOk_by (own := [("_law_k", 8)]) (N := nm_law) (sc := defScope s_law) (by decide +kernel)) (fun _ _ _ _ _ => pg_name (i := 8) nd rfl (.inl rfl)) (fun _ _ _ _ _ => pts_nil) (fun _ _ _ _ _ => (pe_tup (pa_cons (pe_op op_sub pe_int (pe_ix (ix_listK (K := K) rfl) (pv 10) (pe_op op_sub (pv 8) pe_int) (fun _ _ => rfl))) (pa_cons (pe_ix (ix_listK (K := K) rfl) (pv 10) (pv 8) (fun _ _ => rfl)) pa_nil)))))
    (pss_cons (ps_for PassesOwn.never rfl (pi_range2 (by rfl) T.b_range (pa_cons pe_int (pa_cons (pv 3) pa_nil))) (pg_name (i := 8) nd rfl (.inl rfl))
      (pss_one (ps_if (pt_val (pe_ix ix_list (pv 11) (pv 8) (fun _ _ => rfl))) (pss_one (ps_asg (pe_tup (pa_cons (pe_ix ix_list (pv 10) (pv 8) (fun _ _ => rfl)) (pa_cons (pe_op op_sub pe_int (pe_ix ix_list (pv 10) (pe_op op_sub (pv 8) pe_int) (fun _ _ => rfl))) (pa_cons (pe_op op_sub pe_int (pe_ix ix_list (pv 10) (pe_op op_sub (pv 8) pe_int) (fun _ _ => rfl))) pa_nil)))) (pg_sub (pv 12) (pe_op op_sub (pv 8) pe_int) set_list))) pss_nil)))
    (pss_cons (ps_set (i := 13) nd rfl (.inl rfl) (pe_lst (pa_cons (pe_stV (pv 12) (pv 6)) (pa_cons (pe_op op_cat (pe_st2 (pv 12) po_none) (pe_st2 (pv 12) (po_some pe_int))) (pa_cons (pe_op op_cat (pe_stV (pe_st2 (pv 12) (po_some pe_int)) (pv 6)) (pe_st2 (pv 12) po_none)) pa_nil)))))
    (C8.pss_cut (ps_set (i := 12) nd rfl (.inl rfl) (pe_ifExp (pt_val (pv 7)) (pv 12) (pe_has h__law_pick (hr.mono (by omega)) (by rfl) (pa_cons (pv 1) (pa_cons (pv 13) pa_nil)))))
    (pss_cons (ps_par3 (i := 14) (j := 15) (l := 16) (by rfl) nd rfl rfl rfl (by decide) (by decide) (by decide) rfl rfl rfl (pa_cons (pe_hasI h_Follower___init__ (hr.mono (by omega)) (by rfl) (pa_cons (pe_callTy call_list_of (by rfl) T.b_list (by decide +kernel) (pa_cons (pv 12) pa_nil)) pa_nil)) (pa_cons (pe_lst (pa_cons (pe_op op_sub pe_int (pe_ix ix_list (pv 10) (pe_un un_neg pe_int) (fun _ _ => rfl))) pa_nil)) (pa_cons (pe_op op_sub (pv 3) pe_int) pa_nil))) (by rfl))
    (pss_cons (ps_if (PW.pt (pw_or (pt_cmpR (op_neNil hu) (pe_hasM0 T.cl_Follower h_Follower_on (hr.mono (by omega)) (pv 14)) (pe_lst pa_nil) (nomark _)) (pw_or1 (pt_cmpR (op_neD hr.units) (pe_hasM T.cl_Follower h_Follower_put (hr.mono (by omega)) (pv 14) (pa_cons (pe_ix ix_list (pv 10) pe_int (fun _ _ => rfl)) pa_nil)) (pe_has h__law_risen (hr.mono (by omega)) (by rfl) (pa_cons (pe_slice sl_list (pv 10) (po_some pe_int) po_none) pa_nil)) (nomark _))))) (pss_one (ps_ret pe_bl)) pss_nil)
    (pss_cons (ps_par (i := 17) (j := 18) (by rfl) nd rfl rfl (by decide) rfl rfl (pa_cons (pe_hasM T.cl_Follower h_Follower_shown (hr.mono (by omega)) (pv 14) (pa_cons (pe_ix ix_list (pv 10) (pe_un un_neg pe_int) (fun _ _ => rfl)) pa_nil)) (pa_cons (pe_tup (pa_cons (pe_op op_sub pe_int (pe_ix ix_list (pv 10) (pe_un un_neg pe_int) (fun _ _ => rfl))) pa_nil)) pa_nil)) (by rfl))
    (pss_cons (ps_if (PW.pt (pw_or (pt_cmpR op_ne (pe_callB call_len_seq (by rfl) T.b_len (by decide +kernel) (pa_cons (pv 17) pa_nil)) (pe_op op_sub (pv 3) pe_int) (nomark _)) (pw_or1 (pt_not (pt_val (pe_has h__law_shows (hr.mono (by omega)) (by rfl) (pa_cons (pv 12) (pa_cons (pe_slice sl_list (pv 10) po_none (po_some pe_int)) (pa_cons (pv 17) (pa_cons (pe_ix ix_list (pv 10) (pe_un un_neg pe_int) (fun _ _ => rfl)) pa_nil)))))))))) (pss_one (ps_ret pe_bl)) pss_nil)
    (pss_cons (ps_if (PW.pt (pw_or (pt_cmpR op_notN (pe_hasM T.cl_Follower h_Follower_add (hr.mono (by omega)) (pv 14) (pa_cons (pv 18) pa_nil)) pe_non (nomark _)) (pw_or1 (pt_not (pt_val (pe_has h__law_shows (hr.mono (by omega)) (by rfl) (pa_cons (pe_op op_cat (pv 12) (pe_lst (pa_cons (pv 18) pa_nil))) (pa_cons (pe_slice sl_list (pv 10) po_none (po_some pe_int)) (pa_cons (pe_hasM T.cl_Follower h_Follower_shown (hr.mono (by omega)) (pv 14) (pa_cons pe_non pa_nil)) (pa_cons pe_non pa_nil)))))))))) (pss_one (ps_ret pe_bl)) pss_nil)
    (pss_cons (ps_while PassesOwn.never (PW.pt (pw_and (pt_cmpR op_gt (pv 16) pe_int (nomark _)) (pw_and1 (pt_not (pt_val (pe_ix ix_list (pv 11) (pv 16) (fun _ _ => rfl))))))) (pss_cons (ps_expr (pe_bm PySem.F.plainAttrs_list PySem.F.slot_list_append PySem.F.type_list_append mt_append (pv 15) (pa_cons (pe_op op_sub pe_int (pe_ix ix_list (pv 10) (pe_op op_sub (pv 16) pe_int) (fun _ _ => rfl))) pa_nil)))
    (pss_one (ps_set (i := 16) nd rfl (.inl rfl) (pe_op op_sub (pv 16) pe_int)))))
    (pss_one (ps_if (PW.pt (pw_or (pt_cmpR op_ne (pe_hasM0 T.cl_Follower h_Follower_back (hr.mono (by omega)) (pv 14)) (pe_ix ix_list (pv 10) pe_int (fun _ _ => rfl)) (nomark _)) (pw_or1 (pt_cmpR (op_neD hr.units) (pe_hasM0 T.cl_Follower h_Follower_on (hr.mono (by omega)) (pv 14)) (pe_has h__law_risen (hr.mono (by omega)) (by rfl) (pa_cons (pv 15) pa_nil)) (nomark _))))) (pss_one (ps_ret pe_bl)) pss_nil)))))))))))))))))))
    (pss_one (ps_ret pe_bl)))), ?_⟩
    have line : 1000000 < sizeLine := by decide
    refine ⟨_, rfl, a, ns, rfl, hS, hl, fun H1 t c ht hc sm tp => ?_⟩
    refine ⟨_, rfl, a, _, rfl, .inl (sm.seq hS), _, _, rfl, _, _, rfl, rfl, _, rfl, ?_, ?_, for_range (lo := 0) (fun i σ H2 => ∃ v2 v3 v4 v5 v6 v7 v8 v9 v10 v11 v12 v13 v14 v15 v16 v17 v18 v19, σ = [some (.ref a), some (.ref t), v2, v3, v4, v5, v6, v7, v8, v9, v10, v11, v12, v13, v14, v15, v16, v17, v18, v19] ∧ Tape H2 t c (3000 * i)) ⟨none, none, none, none, none, none, none, none, none, none, none, none, none, none, none, none, none, none, rfl, tp⟩ ?_ ?_⟩
    · split <;> omega
    · split <;> omega
    · rintro i σ H2 hi ⟨v2, v3, v4, v5, v6, v7, v8, v9, v10, v11, v12, v13, v14, v15, v16, v17, v18, v19, rfl, tp2⟩
      have hi2 : i < 4 := by
        rw [List.length_map] at hi
        split at hi <;> omega
      refine ⟨_, rfl, _, rfl, by show 3 ≤ sizeLine; decide, fun d1 nd1 => ⟨t, c, d1, _, _, rfl, tp2.new nd1, by omega, fun H' kp => .inl (SqL.of (kp d1 _ upd_same (tp2.fresh nd1))), by show 0 < 3; decide, by show 3 ≤ 1000000; decide, fun H3 i3 v3' g3 tp3 kp3 => ?_⟩⟩
      obtain ⟨z3, rfl, m3⟩ := pick_int (zs := [9, 60, 239]) g3
      have b3 : 1 ≤ z3 ∧ z3 ≤ 239 := by
        simp only [List.mem_cons, List.not_mem_nil, or_false] at m3
        omega
      refine ⟨t, c, _, _, rfl, tp3, by omega, by omega, pow8000 (by omega), fun H4 r4 a4 b4 tp4 kp4 => ⟨_, _, rfl, rfl, _, rfl, t, c, _, _, rfl, tp4, by omega, by decide, by decide +kernel, fun H5 r5 a5 b5 tp5 kp5 => ⟨_, _, rfl, rfl, by show 2 ≤ sizeLine; decide, fun d5 nd5 => ⟨d5, _, rfl, SqT.of upd_same, rfl, _, _, rfl, _, _, rfl, rfl, ?_⟩⟩⟩⟩
      have tp6 := tp5.new (o := .tup [V.int (2 + r4), V.int (1 + r5)]) nd5
      generalize upd H5 d5 (.tup [V.int (2 + r4), V.int (1 + r5)]) = H6 at tp6
      -- first, step, far
      refine ⟨fun σ' H' => ∃ (r7 z8 : Int) (far : Bool), σ' = [some (.ref a), some (.ref t), some (.int (0 + i)), some (.int (2 + r4)), some (.int (1 + r5)), some (.int (1 + r7)), some (.int z8), some (.bl far), v8, v9, v10, v11, v12, v13, v14, v15, v16, v17, v18, v19] ∧ 0 ≤ r7 ∧ r7 < 900 ∧ (z8 = 1 ∨ z8 = -1) ∧ Tape H' t c (3000 * i + 10), ?_, ?_⟩
      · refine ⟨_, rfl, t, c, _, _, rfl, tp6, by omega, by decide, by decide +kernel, fun H7 r7 a7 b7 tp7 kp7 => ⟨_, _, rfl, rfl, _, rfl, _, rfl, by show 2 ≤ sizeLine; decide, fun d8 nd8 => ⟨t, c, d8, _, _, rfl, tp7.new nd8, by omega, fun H' kp => .inl (SqL.of (kp d8 _ upd_same (tp7.fresh nd8))), by show 0 < 2; decide, by show 2 ≤ 1000000; decide, fun H8 i8 v8' g8 tp8 kp8 => ?_⟩⟩⟩
        obtain ⟨z8, rfl, m8⟩ := pick_int (zs := [1, -1]) g8
        have b8 : z8 = 1 ∨ z8 = -1 := by
          simp only [List.mem_cons, List.not_mem_nil, or_false] at m8
          exact m8
        refine ⟨_, rfl, rfl, _, rfl, ite2 (fun _ => ?_) (fun _ => ?_)⟩
        · exact ⟨_, rfl, t, c, _, _, rfl, tp8, by omega, by decide, by decide +kernel, fun HX rX aX bX tpX kpX => ⟨rfl, by show 3 ≤ sizeLine; decide, fun q nq => ⟨q, _, rfl, SqT.of upd_same, rfl, _, _, rfl, _, _, rfl, _, _, rfl, rfl, r7, z8, _, rfl, a7, b7, b8, (tpX.new nq).le (by omega)⟩⟩⟩
        · exact ⟨by show 3 ≤ sizeLine; decide, fun q nq => ⟨q, _, rfl, SqT.of upd_same, rfl, _, _, rfl, _, _, rfl, _, _, rfl, rfl, r7, z8, _, rfl, a7, b7, b8, (tp8.new nq).le (by omega)⟩⟩
      rintro σ7 H7 ⟨r7, z8, far, rfl, a7, b7, b8, tp8⟩
      refine ⟨fun σ' H' => ∃ (n : Nat), σ' = [some (.ref a), some (.ref t), some (.int (0 + i)), some (.int (n : Nat)), some (.int (1 + r5)), some (.int (1 + r7)), some (.int z8), some (.bl far), v8, v9, v10, v11, v12, v13, v14, v15, v16, v17, v18, v19] ∧ 2 ≤ n ∧ n ≤ 1200 ∧ Tape H' t c (3000 * i + 20), ?_, ?_⟩
      · refine ⟨_, rfl, _, rfl, ?_⟩
        cases far with
        | true =>
          refine iteT ⟨_, rfl, t, c, _, _, rfl, tp8, by omega, by decide, by decide +kernel, fun HX rX aX bX tpX kpX => ⟨_, _, rfl, rfl, (1000 + rX).toNat, ?_, by omega, by omega, tpX.le (by omega)⟩⟩
          rw [Int.toNat_of_nonneg (by omega)]
          rfl
        | false =>
          refine iteF ⟨_, rfl, (2 + r4).toNat, ?_, by omega, by omega, tp8.le (by omega)⟩
          rw [Int.toNat_of_nonneg (by omega)]
          rfl
      rintro σ9 H9 ⟨n, rfl, n2, n12, tp9⟩
      have un0 := cnames (z := 1 + r7) (B := 1 + r5) (n := n) (by omega) (by omega) (by omega) (by omega) (by omega)
      have ln0 : (cnm (1 + r7) (1 + r5) n).length = n := by
        unfold cnm
        rw [List.length_map, List.length_range]
      -- names
      refine ⟨_, rfl, (n : Int), rfl, by omega, by omega, fun D hD => lc_sel_range (lo := 0) (fun _ => true) (fun i => .int (1 + r7 + 3 * ((1 + r5) * (0 + (i : Int)) % 1201))) hD (by omega) (fun j hj => ?_) fun HA sA hA => ?_⟩
      · exact ⟨rfl, fun H' s' R g => g H' (Same.refl _), fun _ H' s' R g => ⟨_, rfl, _, rfl, _, rfl, _, _, rfl, rfl, .inl ⟨by omega, by omega⟩, _, _, rfl, rfl, by show (0 : Int) < 1201; decide, _, _, rfl, rfl, .inl ⟨by omega, by omega⟩, _, _, rfl, rfl, g H' (Same.refl _)⟩⟩
      rw [filter_all, show ((n : Int)).toNat = n from Int.toNat_natCast n] at hA
      have hA : HA D = some (.lst ((cnm (1 + r7) (1 + r5) n).map V.int)) := by
        rw [hA]
        unfold cnm
        rw [List.map_map]
        rfl
      have tpA := tp9.same sA
      generalize cnm (1 + r7) (1 + r5) n = nm at un0 ln0 hA
      -- marks
      refine ⟨_, rfl, D, rfl, ⟨_, SqL.of hA⟩, fun M hM => lc_list (xs := nm.map V.int) (fun j H' => Kp t HA H' ∧ Tape H' t c (3000 * i + 20 + j) ∧ ∃ is : List Int, is.length = j ∧ nas is = nas (nm.take j) ∧ H' M = some (.lst (is.map V.int))) ⟨Kp.new hM, tpA.new hM, [], rfl, rfl, upd_same⟩ ?_ ?_ ?_⟩
      · rintro j H' _ ⟨kp, _, _⟩
        exact SqL.of (tpA.sq hA kp)
      · rintro j x HB hj ⟨kB, tB, is, el, en, hB⟩
        obtain ⟨y, rfl, hy⟩ := int_at hj
        have lj : j < nm.length := (List.getElem?_eq_some_iff.mp hy).1
        have nMt : M ≠ t := tpA.fresh hM
        have nMc : M ≠ c := tpA.fresh_c hM
        refine ⟨rfl, yes_go ⟨_, rfl, _, rfl, _, rfl, _, rfl, _, _, rfl, rfl, by show 3 ≤ sizeLine; decide, fun d nd => ⟨t, c, d, _, _, rfl, tB.new nd, by omega, fun H' kp => .inl (SqL.of (kp d _ upd_same (tB.fresh nd))), by show 0 < 3; decide, by show 3 ≤ 1000000; decide, fun HC iC vC gC tpC kpC => ?_⟩⟩⟩
        obtain ⟨y', rfl, my⟩ := pick_int (zs := [y, y, 0 - y]) gC
        have ey : y'.natAbs = y.natAbs := by
          simp only [List.mem_cons, List.not_mem_nil, or_false] at my
          omega
        have hC := kpC M _ (same_new nd _ _ hB) nMt
        refine ⟨is.map V.int, hC, by rw [List.length_map, el]; omega, (kB.trans ((Kp.new nd).trans kpC)).mut hM, (tpC.mut nMt nMc).le (by omega), is ++ [y'], by rw [List.length_append, el]; rfl, by rw [nas_snoc, en, take_snoc' hy, nas_snoc, ey], ?_⟩
        rw [upd_same, List.map_append]
        rfl
      rintro HB ⟨kB, tB, ms, el, en, hB⟩
      rw [List.length_map] at el tB
      rw [List.length_map, List.take_length] at en
      have un : Un ms := Un.of_perm (ms := nm) un0 (by rw [en])
      have lm : ms.length = n := by omega
      have nMD : M ≠ D := (ne_of_none hA hM).symm
      have tB := tB.le (show 3000 * i + 20 + nm.length ≤ 3000 * i + 1300 by omega)
      clear kB en un0 hA sA tp9 tpA
      -- wide
      refine ⟨_, rfl, n, rfl, by omega, by omega, fun W nW => lc_range (lo := 0) (fun j H' => Kp t HB H' ∧ Tape H' t c (3000 * i + 1300 + j) ∧ ∃ bs : List Bool, bs.length = j ∧ (∀ k, bs[k]? = some true → 2 ≤ k) ∧ H' W = some (.lst (bs.map V.bl))) ⟨Kp.new nW, tB.new nW, [], rfl, fun k z => (by cases z), upd_same⟩ ?_ ?_⟩
      · rintro j HC hj ⟨kC, tC, bs, eb, hb, hC⟩
        have nWt : W ≠ t := tB.fresh nW
        have nWc : W ≠ c := tB.fresh_c nW
        have fin : ∀ (H' : Hp) (b : Bool), Tape H' t c (3000 * i + 1300 + (j + 1)) → Kp t HC H' → (b = true → 2 ≤ j) → ∃ acc, H' W = some (.lst acc) ∧ acc.length < sizeLine ∧ Kp t HB (upd H' W (.lst (acc ++ [V.bl b]))) ∧ Tape (upd H' W (.lst (acc ++ [V.bl b]))) t c (3000 * i + 1300 + (j + 1)) ∧ ∃ bs : List Bool, bs.length = j + 1 ∧ (∀ k, bs[k]? = some true → 2 ≤ k) ∧ (upd H' W (.lst (acc ++ [V.bl b]))) W = some (.lst (bs.map V.bl)) := fun H' b tp' kp' hb2 => by
          refine ⟨bs.map V.bl, kp' _ _ hC nWt, by rw [List.length_map, eb]; omega, (kC.trans kp').mut nW, tp'.mut nWt nWc, bs ++ [b], by rw [List.length_append, eb]; rfl, fun k e => ?_, ?_⟩
          · rcases getElem_snoc e with ⟨_, z⟩ | ⟨z1, z2⟩
            · exact hb k z
            · have := hb2 z2
              omega
          · rw [upd_same, List.map_append]
            rfl
        refine ⟨rfl, yes_go ⟨_, rfl, _, _, rfl, rfl, _, rfl, ite2 (fun h1 => ?_) (fun h1 => ?_)⟩⟩
        · refine ⟨_, rfl, t, c, _, _, rfl, tC, by omega, by decide, by decide +kernel, fun HX rX aX bX tpX kpX => ⟨rfl, fin HX _ (tpX.le (by omega)) kpX fun _ => ?_⟩⟩
          have := of_decide_eq_true h1
          omega
        · exact fin HC _ (tC.le (by omega)) (fun b o e _ => e) fun z => by cases z
      rintro HC ⟨kC, tC, bs, eb, hb, hC⟩
      rw [Int.toNat_natCast] at eb tC
      have hMC := tB.sq hB kC
      have tC := tC.le (show 3000 * i + 1300 + n ≤ 3000 * i + 2600 by omega)
      have nWM : W ≠ M := (ne_of_none hB nW).symm
      clear kC tB hB nW
      obtain ⟨wd, ewd⟩ : ∃ wd : Nat → Bool, wd = fun k => bs.getD k false := ⟨_, rfl⟩
      have w2 : ∀ k, wd k = true → 2 ≤ k := fun k z => hb k (by
        rw [ewd] at z
        have z : bs.getD k false = true := z
        rw [List.getD_eq_getElem?_getD] at z
        cases e : bs[k]? with
        | none => rw [e] at z; cases z
        | some b => rw [e] at z; rw [← z]; rfl)
      have wat : ∀ (k : Nat) (z : Int), z = (k : Int) → k < n → atI (bs.map V.bl) z = some (.bl (wd k)) := fun k z ez hk => by
        rw [ez]
        refine atI_nat ?_
        rw [List.getElem?_map, List.getElem?_eq_getElem (by omega), ewd]
        show _ = some (V.bl (bs.getD k false))
        rw [List.getD_eq_getElem?_getD, List.getElem?_eq_getElem (by omega)]
        rfl
      clear ewd hb
      -- rows
      refine ⟨_, rfl, _, _, rfl, ⟨by decide, by decide, by omega, by omega⟩, fun RW nRW => lc_range (lo := 1) (fun j H' => Same HC H' ∧ ∃ ps : List (Addr × List Int), ps.length = j ∧ PR H' ps ∧ H' RW = some (.lst (rfs ps)) ∧ ∀ i', i' < j → ∃ q, ps[i']? = some (q, [-nk ms i', nk ms (i' + 1)])) ⟨same_new nRW, [], rfl, fun p hp => (by cases hp), upd_same, fun i' z => absurd z (Nat.not_lt_zero _)⟩ ?_ ?_⟩
      · rintro j HD hj ⟨sD, ps, lp, pr, hD, rp⟩
        refine ⟨rfl, yes_go ⟨_, rfl, _, rfl, _, _, rfl, rfl, M, _, _, _, rfl, rfl, SqL.of (sD _ _ hMC), nk_ix (k := j) (by omega) (by omega), _, _, rfl, rfl, _, rfl, _, rfl, M, _, _, _, rfl, rfl, SqL.of (sD _ _ hMC), nk_ix (k := j + 1) (by omega) (by omega), by show 2 ≤ sizeLine; decide, fun q nq => ⟨rfs ps, same_new nq _ _ hD, ?_, ?_, ps ++ [(q, [-nk ms j, nk ms (j + 1)])], by rw [List.length_append, lp]; rfl, fun p hp => ?_, ?_, fun i' hi' => ?_⟩⟩⟩
        · unfold rfs
          rw [List.length_map]
          omega
        · intro b o e
          rw [upd_ne (ne_of_none e nRW)]
          exact same_new nq _ _ (sD _ _ e)
        · have hq := tup_upd (o := .lst (rfs ps ++ [V.ref q])) (same_new (o := .tup [V.int (0 - nk ms j), V.int (nk ms (j + 1))]) nq _ _ hD)
          rcases List.mem_append.mp hp with z | z
          · exact hq _ _ (same_new nq _ _ (pr p z))
          · rw [List.mem_singleton.mp z]
            refine hq _ _ ?_
            rw [upd_same, Int.zero_sub]
            rfl
        · rw [upd_same]
          unfold rfs
          rw [List.map_append]
          rfl
        · by_cases y : i' < j
          · obtain ⟨q', e⟩ := rp i' y
            exact ⟨q', by rw [List.getElem?_append_left (by omega)]; exact e⟩
          · have : i' = j := by omega
            subst this
            exact ⟨q, by rw [List.getElem?_append_right (by omega), lp, Nat.sub_self]; rfl⟩
      rintro HD ⟨sD, ps, lp, pr, hD, rp⟩
      have r0 : RowsAt ms (wdj wd 0) ps := by
        refine ⟨by omega, fun j hj => ?_⟩
        obtain ⟨q, e⟩ := rp j (by omega)
        refine ⟨q, ?_⟩
        have z : wdj wd 0 (j + 1) = false := by
          unfold wdj
          cases e2 : wd (j + 1) with
          | false => rfl
          | true =>
            have := w2 _ e2
            rw [decide_eq_false (by omega)]
            rfl
        unfold clK
        rw [if_neg (by rw [z]; exact Bool.false_ne_true), Nat.add_sub_cancel]
        exact e
      clear rp lp
      have tD := tC.same sD
      have hMD := sD _ _ hMC
      have hWD := sD _ _ hC
      have nRt : RW ≠ t := tC.fresh nRW
      have nRc : RW ≠ c := tC.fresh_c nRW
      have nRM : RW ≠ M := (ne_of_none hMC nRW).symm
      have nRWd : RW ≠ W := (ne_of_none hC nRW).symm
      clear tC hMC hC sD nRW
      -- the wide ones
      refine ⟨_, rfl, _, _, rfl, ⟨by decide, by decide, by omega, by omega⟩, for_range (lo := 2) (fun j σ H' => ∃ (w8 : Option V) (ps : List (Addr × List Int)), σ = [some (.ref a), some (.ref t), some (.int (0 + i)), some (.int (n : Nat)), some (.int (1 + r5)), some (.int (1 + r7)), some (.int z8), some (.bl far), w8, some (.ref D), some (.ref M), some (.ref W), some (.ref RW), v13, v14, v15, v16, v17, v18, v19] ∧
        Kp RW HD H' ∧ PR H' ps ∧ H' RW = some (.lst (rfs ps)) ∧ RowsAt ms (wdj wd j) ps) ⟨_, ps, rfl, fun b o e _ => e, pr, hD, r0⟩ ?_ ?_⟩
      · clear pr hD r0 ps
        rintro j σ HE hj ⟨w8, ps, rfl, kE, pr, hE, rE⟩
        have hWE := kE _ _ hWD nRWd.symm
        have hME := kE _ _ hMD nRM.symm
        have lps := rE.1
        refine ⟨_, rfl, _, rfl, W, _, _, _, rfl, rfl, SqL.of hWE, wat (2 + j) _ (by omega) (by omega), _, rfl, ?_⟩
        cases ew : wd (2 + j) with
        | false => exact iteF ⟨_, ps, rfl, kE, pr, hE, rE.skip ew⟩
        | true =>
          refine iteT ⟨_, rfl, _, rfl, M, _, _, _, rfl, rfl, SqL.of hME, nk_ix (k := 2 + j) (by omega) (by omega), _, rfl, _, rfl, _, _, rfl, rfl, M, _, _, _, rfl, rfl, SqL.of hME, nk_ix (k := j) (by omega) (by omega), _, _, rfl, rfl,
            _, rfl, _, rfl, _, _, rfl, rfl, M, _, _, _, rfl, rfl, SqL.of hME, nk_ix (k := 1 + j) (by omega) (by omega), _, _, rfl, rfl, by show 3 ≤ sizeLine; decide, fun q nq => ⟨_, rfl, _, rfl, _, _, rfl, rfl, RW, _, _, 1 + j, rfl, rfl, same_new nq _ _ hE, ixn_of (by omega) (by unfold rfs; rw [List.length_map]; omega), ?_⟩⟩
          have sq := same_new (o := .tup [V.int (nk ms (2 + j)), V.int (0 - nk ms j), V.int (0 - nk ms (1 + j))]) nq
          refine ⟨_, ps.set (1 + j) (q, [nk ms (2 + j), -nk ms j, -nk ms (1 + j)]), rfl, fun b o e ne => ?_, fun p hp => ?_, ?_, rE.put ew (by omega)⟩
          · rw [upd_ne ne]
            exact sq _ _ (kE _ _ e ne)
          · refine tup_upd (sq _ _ hE) _ _ ?_
            rcases mem_set_of hp with z | rfl
            · exact sq _ _ (pr p z)
            · show (upd HE q _) q = _
              rw [upd_same, Int.zero_sub, Int.zero_sub]
              rfl
          · rw [upd_same, rfs_set (c := [nk ms (2 + j), -nk ms j, -nk ms (1 + j)])]
      clear pr hD r0 ps
      rintro σ HE ⟨w8, ps, rfl, kE, pr, hE, rE⟩
      have rows := rE.end_ (by omega)
      have ch := rows.ch un (by omega) (by omega) w2
      have lps := rE.1
      have tE := tD.off kE nRt nRc
      have hWE := kE _ _ hWD nRWd.symm
      have hME := kE _ _ hMD nRM.symm
      clear rE rows kE tD hWD hMD
      -- in what order
      refine ⟨_, rfl, _, rfl, z8, rfl, RW, _, z8, rfl, rfl, b8, SqL.of hE, fun p1 np1 => ?_⟩
      rw [show stpV (rfs ps) z8 = rfs (stpV ps z8) from stpV_map _ _ _]
      have s1 := same_new (o := .lst (rfs (stpV ps z8))) np1
      refine ⟨_, rfl, RW, _, rfl, .inl rfl, .inr ⟨SqL.of (s1 _ _ hE), fun p2 np2 => ?_⟩⟩
      rw [(cut2_rfs ps).1]
      have s2 := s1.trans (same_new (o := .lst (rfs (stp2 ps))) np2)
      refine ⟨_, rfl, 1, rfl, RW, _, rfl, .inr rfl, .inr ⟨SqL.of (s2 _ _ hE), fun p3 np3 => ?_⟩⟩
      rw [(cut2_rfs ps).2]
      have e2 : (upd (upd HE p1 (.lst (rfs (stpV ps z8)))) p2 (.lst (rfs (stp2 ps)))) p2 = some (.lst (rfs (stp2 ps))) := upd_same
      have e1 := same_new (o := .lst (rfs (stp2 ps))) np2 _ _ (show (upd HE p1 (.lst (rfs (stpV ps z8)))) p1 = _ from upd_same)
      generalize upd (upd HE p1 (.lst (rfs (stpV ps z8)))) p2 (.lst (rfs (stp2 ps))) = HF at s2 e1 e2 np3 ⊢
      have l1 := stp2_len ps
      have l2 := stp2_len (ps.drop 1)
      rw [List.length_drop] at l2
      have l3 := stpV_len (stp2 (ps.drop 1)) z8
      have lr : ∀ l : List (Addr × List Int), (rfs l).length = l.length := fun l => by unfold rfs; rw [List.length_map]
      have cat : ∀ x y : List (Addr × List Int), rfs x ++ rfs y = rfs (x ++ y) := fun x y => by unfold rfs; rw [List.map_append]
      refine ⟨p2, p3, _, _, rfl, rfl, same_new np3 _ _ e2, upd_same, by rw [lr, lr]; omega, fun p4 np4 => ?_⟩
      rw [cat]
      have s4 := (same_new (o := .lst (rfs (stp2 (ps.drop 1)))) np3).trans (same_new (o := .lst (rfs (stp2 ps ++ stp2 (ps.drop 1)))) np4)
      have e4 : (upd (upd HF p3 (.lst (rfs (stp2 (ps.drop 1))))) p4 (.lst (rfs (stp2 ps ++ stp2 (ps.drop 1))))) p4 = some (.lst (rfs (stp2 ps ++ stp2 (ps.drop 1)))) := upd_same
      generalize upd (upd HF p3 (.lst (rfs (stp2 (ps.drop 1))))) p4 (.lst (rfs (stp2 ps ++ stp2 (ps.drop 1)))) = HG at s4 e4 ⊢
      have e1 := s4 _ _ e1
      have s4 := s2.trans s4
      clear np1 np2 np3 np4 s1 s2 e2
      refine ⟨_, rfl, 1, rfl, RW, _, rfl, .inr rfl, .inr ⟨SqL.of (s4 _ _ hE), fun p5 np5 => ?_⟩⟩
      rw [(cut2_rfs ps).2]
      refine ⟨_, rfl, z8, rfl, p5, _, z8, rfl, rfl, b8, SqL.of upd_same, fun p6 np6 => ?_⟩
      rw [show stpV (rfs (stp2 (ps.drop 1))) z8 = rfs (stpV (stp2 (ps.drop 1)) z8) from stpV_map _ _ _]
      have s6 := (same_new (o := .lst (rfs (stp2 (ps.drop 1)))) np5).trans (same_new (o := .lst (rfs (stpV (stp2 (ps.drop 1)) z8))) np6)
      have e6 : (upd (upd HG p5 (.lst (rfs (stp2 (ps.drop 1))))) p6 (.lst (rfs (stpV (stp2 (ps.drop 1)) z8)))) p6 = some (.lst (rfs (stpV (stp2 (ps.drop 1)) z8))) := upd_same
      generalize upd (upd HG p5 (.lst (rfs (stp2 (ps.drop 1))))) p6 (.lst (rfs (stpV (stp2 (ps.drop 1)) z8))) = HI at s6 e6 ⊢
      refine ⟨_, rfl, RW, _, rfl, .inl rfl, .inr ⟨SqL.of (s6 _ _ (s4 _ _ hE)), fun p7 np7 => ?_⟩⟩
      rw [(cut2_rfs ps).1]
      refine ⟨p6, p7, _, _, rfl, rfl, same_new np7 _ _ e6, upd_same, by rw [lr, lr]; omega, fun p8 np8 => ?_⟩
      rw [cat]
      have s8 := (same_new (o := .lst (rfs (stp2 ps))) np7).trans (same_new (o := .lst (rfs (stpV (stp2 (ps.drop 1)) z8 ++ stp2 ps))) np8)
      have e8 : (upd (upd HI p7 (.lst (rfs (stp2 ps)))) p8 (.lst (rfs (stpV (stp2 (ps.drop 1)) z8 ++ stp2 ps)))) p8 = some (.lst (rfs (stpV (stp2 (ps.drop 1)) z8 ++ stp2 ps))) := upd_same
      generalize upd (upd HI p7 (.lst (rfs (stp2 ps)))) p8 (.lst (rfs (stpV (stp2 (ps.drop 1)) z8 ++ stp2 ps))) = HJ at s8 e8 ⊢
      refine ⟨by show 3 ≤ sizeLine; decide, fun MX nMX => ?_⟩
      have s9 := same_new (o := .lst [.ref p1, .ref p4, .ref p8]) nMX
      have eX : (upd HJ MX (.lst [.ref p1, .ref p4, .ref p8])) MX = some (.lst [.ref p1, .ref p4, .ref p8]) := upd_same
      have e1 := s9 _ _ (s8 _ _ (s6 _ _ e1))
      have e4 := s9 _ _ (s8 _ _ (s6 _ _ e4))
      have e8 := s9 _ _ e8
      have sX := s4.trans (s6.trans (s8.trans s9))
      generalize upd HJ MX (.lst [.ref p1, .ref p4, .ref p8]) = HK at sX eX e1 e4 e8 ⊢
      clear s4 s6 s8 s9 e6 np5 np6 np7 np8 nMX
      have pr := pr.same sX
      have tX := tE.same sX
      have hW := sX _ _ hWE
      have hM := sX _ _ hME
      have hR := sX _ _ hE
      have memc : ∀ p, p ∈ stp2 ps ++ stp2 (ps.drop 1) ↔ p ∈ ps := fun p => by
        rw [List.mem_append]
        exact (mem_stp2 ps).symm
      clear sX hWE hME hE tE
      refine ⟨fun σ' H' => ∃ (R : Addr) (ps : List (Addr × List Int)), σ' = [some (.ref a), some (.ref t), some (.int (0 + i)), some (.int (n : Nat)), some (.int (1 + r5)), some (.int (1 + r7)), some (.int z8), some (.bl far), w8, some (.ref D), some (.ref M), some (.ref W), some (.ref R), some (.ref MX), v14, v15, v16, v17, v18, v19] ∧
        Tape H' t c (3000 * i + 2800) ∧ H' M = some (.lst (ms.map V.int)) ∧ H' W = some (.lst (bs.map V.bl)) ∧ H' R = some (.lst (rfs ps)) ∧ PR H' ps ∧ Ch ms wd (ps.map (·.2)), ?_, ?_⟩
      · refine ⟨_, rfl, _, rfl, ?_⟩
        cases far with
        | true => exact iteT ⟨_, rfl, RW, ps, rfl, tX.le (by omega), hM, hW, hR, pr, ch⟩
        | false =>
          refine iteF ⟨_, rfl, _, rfl, t, c, MX, _, _, rfl, tX, by omega, fun H' kp => .inl (SqL.of (tX.sq eX kp)), by show 0 < 3; decide, by show 3 ≤ 1000000; decide, fun HL iL vL gL tL kL => ?_⟩
          have fin : ∃ (p : Addr) (qs : List (Addr × List Int)), vL = .ref p ∧ HK p = some (.lst (rfs qs)) ∧ (∀ y, y ∈ qs ↔ y ∈ ps) ∧ qs.length ≤ 1200 := by
            rcases iL with _ | _ | _ | iL
            · cases gL
              exact ⟨p1, _, rfl, e1, fun y => mem_stpV, by rw [stpV_len]; omega⟩
            · cases gL
              exact ⟨p4, _, rfl, e4, memc, by rw [List.length_append]; omega⟩
            · cases gL
              refine ⟨p8, _, rfl, e8, fun y => ?_, by rw [List.length_append]; omega⟩
              rw [List.mem_append, mem_stpV, Or.comm, ← List.mem_append]
              exact memc y
            · cases gL
          obtain ⟨p, qs, rfl, hp, hq, lq⟩ := fin
          have pr' := pr.keep (tup_kp tX kL)
          exact ⟨p, qs, rfl, tL.le (by omega), tX.sq hM kL, tX.sq hW kL, tX.sq hp kL, fun y hy => pr' y ((hq y).mp hy), ch.alike hq lq⟩
      clear ch hR hM hW tX eX e1 e4 e8 memc l1 l2 l3
      rintro σ' HL ⟨R, ps, rfl, tL, hM, hW, hR, pr, ch⟩
      have cL := pr.cs hR
      have two := ch.two
      have gd := ch.good
      have w3 := ch.wide
      have lw : (ps.map (·.2)).length ≤ 1200 := ch.le
      -- the follower
      refine ⟨_, rfl, R, _, rfl, .inl (SqL.of cL.l), fun L1 nL1 x1 dx1 nx1 ndx1 nex1 => made_fol nx1 ndx1 nex1 upd_same cL.n (fun i q c hq hc => same_new nL1 _ _ (cL.t i q c hq hc)) gd (fun c hc => Nat.le_trans (w3 c hc) (by decide)) fun HM A DD tr rw br eA FM sM dA => ⟨rfl, ?_⟩⟩
      clear nx1 ndx1 nex1
      subst eA
      have sM := (same_new nL1).trans sM
      have tM := tL.same sM
      have hMM := sM _ _ hM
      have hWM := sM _ _ hW
      have cM := cL.same sM
      have kn : ∀ b o, HL b = some o → ¬ DD b := fun b o e z => by
        have := dA b z
        rw [same_new nL1 _ _ e] at this
        cases this
      have nDM := kn _ _ hM
      have nDW := kn _ _ hW
      have nDR := kn _ _ cL.l
      have nDt : ¬ DD t := by
        obtain ⟨o, e⟩ := tL.at_t
        exact kn _ _ e
      have nDc : ¬ DD c := by
        obtain ⟨o, e⟩ := tL.at_c
        exact kn _ _ e
      have e0 : br = none := by
        cases br with
        | none => rfl
        | some r => exact absurd FM.brk ch.none.2
      subst e0
      have et : tr = [] := no_mem fun x hx => ch.none.1 x ((FM.der.1 x).mp hx)
      subst et
      clear dA sM nL1 tL hM hW cL hR kn
      refine ⟨_, rfl, _, rfl, M, _, _, _, rfl, rfl, SqL.of hMM, nk_last (by omega), _, _, rfl, rfl, by show 1 ≤ sizeLine; decide, fun DU nDU => ⟨_, rfl, _, _, rfl, rfl, _, _, _, rfl, ?_⟩⟩
      have sN := same_new (o := .lst [V.int (0 - nk ms (ms.length - 1))]) nDU
      have eDU : (upd HM DU (.lst [V.int (0 - nk ms (ms.length - 1))])) DU = some (.lst [V.int (0 - nk ms (ms.length - 1))]) := upd_same
      have nDDU := FM.not_new nDU
      have nDUt : DU ≠ t := tM.fresh nDU
      have nDUc : DU ≠ c := tM.fresh_c nDU
      have FN := FM.same sN
      have tN := tM.same sN
      have hMN := sN _ _ hMM
      have hWN := sN _ _ hWM
      have cN := cM.same sN
      have nMD2 : M ≠ DU := ne_of_none hMM nDU
      have nWD2 : W ≠ DU := ne_of_none hWM nDU
      generalize upd HM DU (.lst [V.int (0 - nk ms (ms.length - 1))]) = HN at FN tN hMN hWN cN eDU
      clear sN nDU FM tM hMM hWM cM
      rw [Int.zero_sub] at eDU
      -- nothing is on
      obtain ⟨f1, f2, f3, f4, _⟩ := FN.facts
      refine ⟨_, rfl, A.f, A.dx, _, rfl, FN.ins, rfl, A, [], rfl, FN.ins, f4, fun HO1 p1 n1 s1 h1 => ⟨by show 0 ≤ sizeLine; decide, fun n2 nn2 => ⟨p1, n2, _, rfl, rfl, SqL.of (same_new nn2 _ _ h1), SqL.of upd_same, _, rfl, ?_⟩⟩⟩
      have s2 := s1.trans (same_new (o := .lst []) nn2)
      have FN := FN.same s2
      have tN := tN.same s2
      have hMN := s2 _ _ hMN
      have hWN := s2 _ _ hWN
      have cN := cN.same s2
      have eDU := s2 _ _ eDU
      generalize upd HO1 n2 (.lst []) = HO at FN tN hMN hWN cN eDU
      clear s1 s2 h1 n1 nn2 f1 f2 f3 f4
      have eN : (if true = true then !((byAbs ([] : List Int)).map V.int).isEmpty else ((byAbs ([] : List Int)).map V.int).isEmpty) = false := by simp [byAbs]
      rw [eN]
      refine iteF ?_
      have m0 := nk_nz un (show 0 < ms.length by omega)
      -- the first one is put
      refine ⟨_, rfl, A.f, A.dx, _, rfl, FN.ins, rfl, _, rfl, M, _, _, _, rfl, rfl, SqL.of hMN, nk_ix (k := 0) rfl (by omega), A, DD, _, [], [], rw, [], nk ms 0, rfl, FN, m0, (by intro z; cases z), (by intro z; cases z), by show 0 < 100000; decide, fun HP tr' rw' ah' br' v FP fP tP => ?_⟩
      have hMP := fP.k _ _ hMN nDM
      have hWP := fP.k _ _ hWN nDW
      have eDU := fP.k _ _ eDU nDDU
      have tPp := tN.fr fP nDt nDc
      have cP : Cs HP R (ps.map (·.1)) (ps.map (·.2)) := cN.fr FN fP nDR
      have eb : br' = none := by
        cases br' with
        | none => rfl
        | some r => exact absurd FP.brk ch.on.2
      subst eb
      rcases tP with ⟨_, z, _⟩ | ⟨_, p, ys, rfl, nw⟩
      · cases z
      refine ⟨_, rfl, 1, rfl, M, _, rfl, SqL.of hMP, fun S nS => ?_⟩
      rw [cut_one, ← List.map_drop]
      refine ⟨S, ms.drop 1, rfl, SqL.of upd_same, fun HQ q nq sq hq => ?_⟩
      have sQ := (same_new nS).trans sq
      have ey : byAbs ys = byAbs (ms.drop 1) := by
        have und := un.nodup
        refine byAbs_eq nw.nd (und.sublist (List.drop_sublist _ _)) nw.con fun x => ?_
        rw [nw.iff, FP.der.1, show (Der (ps.map (·.2)) ([] ++ [nk ms 0]) x ↔ x ∈ ms) from ch.on.1 x]
        have e : ms = nk ms 0 :: ms.drop 1 := by
          have := List.take_append_drop 1 ms
          rw [take_one (by omega)] at this
          exact this.symm
        have e' : ∀ l, l = nk ms 0 :: ms.drop 1 → l.Nodup → (x ∈ l ∧ x ∉ ([] : List Int) ∧ some x ≠ some (nk ms 0) ↔ x ∈ ms.drop 1) := fun l el nl => by
          subst el
          have nl := (List.nodup_cons.mp nl).1
          constructor
          · rintro ⟨z, _, ne⟩
            rcases List.mem_cons.mp z with rfl | z
            · exact absurd rfl ne
            · exact z
          · intro z
            exact ⟨List.mem_cons_of_mem _ z, by simp, fun e => nl (by cases e; exact z)⟩
        exact e' ms e und
      refine ⟨lstD (byAbs ys), lstD (byAbs (ms.drop 1)), dp_lst (sQ _ _ nw.hp), dp_lst hq, shape_lst _, shape_lst _, _, rfl, ?_⟩
      rw [ey, eqv_lst]
      refine iteF ?_
      have FP := FP.same sQ
      have hMP := sQ _ _ hMP
      have hWP := sQ _ _ hWP
      have eDU := sQ _ _ eDU
      have tPp := tPp.same sQ
      have cP := cP.same sQ
      clear FN hMN hWN tN cN fP sQ sq nS hq nq ey nw
      have onP : ∀ x, x ∈ tr' ↔ x ∈ ms := fun x => by
        rw [FP.der.1]
        exact ch.on.1 x
      have ltr : tr'.length ≤ 1200 := by
        have := nodup_le FP.facts.1 fun x hx => (onP x).mp hx
        omega
      have lastm := nk_mem (ms := ms) (k := ms.length - 1) (by omega)
      -- the rows of the last one
      refine ⟨_, rfl, A.f, A.dx, _, rfl, FP.ins, rfl, _, rfl, _, rfl, M, _, _, _, rfl, rfl, SqL.of hMP, nk_last (by omega), A, DD, _, _, tr', rw', ah', none, some (nk ms (ms.length - 1)), 3, rfl, FP, (fun x e => ⟨rfl, by cases e; exact (onP _).mpr lastm⟩), (fun e => by cases e), w3, by omega, by omega, fun HR q1 rs sR nq hq sh => ?_⟩
      have ok := FP.shows sh fun x e => by cases e; exact (onP _).mpr lastm
      have lrs : rs.length = ms.length - 1 := ch.many ok.1
      have FP := FP.same sR
      have hMP := sR _ _ hMP
      have hWP := sR _ _ hWP
      have eDU := sR _ _ eDU
      have tPp := tPp.same sR
      have cP := cP.same sR
      clear sh sR nq
      refine ⟨_, rfl, _, rfl, M, _, _, _, rfl, rfl, SqL.of hMP, nk_last (by omega), _, _, rfl, rfl, by show 1 ≤ sizeLine; decide, fun LT nLT => ⟨_, _, rfl, ?_⟩⟩
      have sL := same_new (o := .tup [V.int (0 - nk ms (ms.length - 1))]) nLT
      have eLT : (upd HR LT (.tup [V.int (0 - nk ms (ms.length - 1))])) LT = some (.tup [V.int (0 - nk ms (ms.length - 1))]) := upd_same
      have FP := FP.same sL
      have hMP := sL _ _ hMP
      have hWP := sL _ _ hWP
      have eDU := sL _ _ eDU
      have tPp := tPp.same sL
      have cP := cP.same sL
      have hq := sL _ _ hq
      generalize upd HR LT (.tup [V.int (0 - nk ms (ms.length - 1))]) = HS at FP hMP hWP eDU tPp cP hq eLT
      clear sL nLT
      rw [Int.zero_sub] at eLT
      have lq : (rs.map V.int).length = ms.length - 1 := by rw [List.length_map, lrs]
      refine ⟨_, rfl, q1, _, rfl, .inl (SqL.of hq), _, rfl, _, _, rfl, rfl, rfl, _, rfl, ?_⟩
      have eN2 : (!decide (V.int (((rs.map V.int).length : Nat) : Int) = V.int ((n : Int) - 1))) = false := by
        rw [lq, show ((ms.length - 1 : Nat) : Int) = (n : Int) - 1 by omega, decide_eq_true rfl]
        rfl
      rw [eN2]
      refine iteF ⟨_, rfl, _, rfl, 1, rfl, M, _, rfl, SqL.of hMP, fun PU nPU => ?_⟩
      have ePU : cutV (ms.map V.int) none (some 1) = [nk ms 0].map V.int := by
        rw [show cutV (ms.map V.int) none (some 1) = (ms.map V.int).take 1 from cut_nat (k := 1), ← List.map_take, take_one (by omega)]
      rw [ePU]
      have sU := same_new (o := .lst ([nk ms 0].map V.int)) nPU
      have eU : (upd HS PU (.lst ([nk ms 0].map V.int))) PU = some (.lst ([nk ms 0].map V.int)) := upd_same
      have FP := FP.same sU
      have hMP := sU _ _ hMP
      have hWP := sU _ _ hWP
      have eDU := sU _ _ eDU
      have tPp := tPp.same sU
      have cP := cP.same sU
      have hq := sU _ _ hq
      have eLT := sU _ _ eLT
      generalize upd HS PU (.lst ([nk ms 0].map V.int)) = HU at FP hMP hWP eDU tPp cP hq eLT eU
      clear sU nPU ePU
      refine ⟨_, rfl, _, rfl, _, rfl, M, _, _, _, rfl, rfl, SqL.of hMP, nk_last (by omega), R, q1, PU, some (nk ms (ms.length - 1)), [nk ms 0], rs, _, _, rfl, cP, hq, eU, (fun c hc => Nat.le_trans (w3 c hc) (by decide)), by rw [List.length_singleton]; omega, fun HV sV => ⟨_, rfl, ?_⟩⟩
      rw [show shownP (ps.map (·.2)) [nk ms 0] rs (some (nk ms (ms.length - 1))) = true from ok.1]
      refine iteF ?_
      have FP := FP.same sV
      have hMP := sV _ _ hMP
      have hWP := sV _ _ hWP
      have eDU := sV _ _ eDU
      have tPp := tPp.same sV
      have cP := cP.same sV
      have eLT := sV _ _ eLT
      clear sV eU hq eN2 lq lrs ok
      -- a clause more
      have g2 := ch.good2
      refine ⟨_, rfl, A.f, A.dx, _, rfl, FP.ins, rfl, _, rfl, A, DD, _, _, tr', rw', ah', LT, lastC ms, rfl, FP, eLT, by show 1 ≤ 1000; decide, g2, fun HX D2 tr2 rw2 br2 vt FX fX mD tX => ?_⟩
      have g3 : ∀ c ∈ ps.map (·.2) ++ [lastC ms], c.length ≤ 3 := fun c hc => by
        rcases List.mem_append.mp hc with z | z
        · exact w3 c z
        · rw [List.mem_singleton.mp z]
          show 1 ≤ 3
          decide
      have out : ∀ b o, HV b = some o → ¬ DD b → ¬ D2 b := fun b o e n y => by
        rcases fX.d b y with y | y
        · exact n y
        · rw [e] at y
          cases y
      have cX := cP.fr FP fX nDR
      have hMX := fX.k _ _ hMP nDM
      have hWX := fX.k _ _ hWP nDW
      have eDX := fX.k _ _ eDU nDDU
      have tpX := tPp.fr fX nDt nDc
      have nDM := out _ _ hMP nDM
      have nDW := out _ _ hWP nDW
      have nDDU := out _ _ eDU nDDU
      have nLT : ¬ DD LT := fun z => FP.ntup z _ eLT
      have eLX := fX.k _ _ eLT nLT
      have nDt : ¬ D2 t := by
        obtain ⟨o, e⟩ := tPp.at_t
        exact out _ _ e nDt
      have nDc : ¬ D2 c := by
        obtain ⟨o, e⟩ := tPp.at_c
        exact out _ _ e nDc
      cases br2 with
      | none => exact absurd ch.brk FX.der.2
      | some r2 =>
        rcases tX with ⟨_, _, rfl⟩ | ⟨z, _⟩
        · clear cP hMP hWP eDU tPp FP eLT out nLT fX mD
          refine ⟨rfl, _, rfl, iteF ?_⟩
          refine ⟨_, rfl, _, rfl, by show 1 ≤ sizeLine; decide, fun e1 ne1 => ⟨R, e1, _, _, rfl, rfl, same_new ne1 _ _ cX.l, upd_same, ?_, fun R2 nR2 => ?_⟩⟩
          · rw [List.length_map, List.length_map, List.length_singleton]
            rw [List.length_map] at lw
            omega
          have sY := (same_new (o := .lst [V.ref LT]) ne1).trans (same_new (o := .lst ((ps.map (·.1)).map V.ref ++ [V.ref LT])) nR2)
          have cY := cX.more (c := lastC ms) sY eLX (b := R2) (show (upd (upd HX e1 (.lst [V.ref LT])) R2 (.lst ((ps.map (·.1)).map V.ref ++ [V.ref LT]))) R2 = _ from upd_same)
          generalize upd (upd HX e1 (.lst [V.ref LT])) R2 (.lst ((ps.map (·.1)).map V.ref ++ [V.ref LT])) = HY at sY cY
          have FX := FX.same sY
          have hMX := sY _ _ hMX
          have hWX := sY _ _ hWX
          have eDX := sY _ _ eDX
          have tpX := tpX.same sY
          clear sY cX eLX ne1 nR2
          refine ⟨_, rfl, 1, rfl, M, _, rfl, SqL.of hMX, fun PU nPU => ?_⟩
          have ePU : cutV (ms.map V.int) none (some 1) = [nk ms 0].map V.int := by
            rw [show cutV (ms.map V.int) none (some 1) = (ms.map V.int).take 1 from cut_nat (k := 1), ← List.map_take, take_one (by omega)]
          rw [ePU]
          have sU := same_new (o := .lst ([nk ms 0].map V.int)) nPU
          have eU : (upd HY PU (.lst ([nk ms 0].map V.int))) PU = some (.lst ([nk ms 0].map V.int)) := upd_same
          have FX := FX.same sU
          have hMX := sU _ _ hMX
          have hWX := sU _ _ hWX
          have eDX := sU _ _ eDX
          have tpX := tpX.same sU
          have cY := cY.same sU
          generalize upd HY PU (.lst ([nk ms 0].map V.int)) = HZ at FX hMX hWX eDX tpX cY eU
          clear sU nPU ePU
          have ltr2 : tr2.length ≤ 3700 := by
            have e := FX.len
            have f3 := flat_le (k := 3) _ g3
            rw [List.length_append, List.length_singleton] at f3
            have : ([] ++ [nk ms 0]).length = 1 := rfl
            omega
          refine ⟨_, rfl, A.f, A.dx, _, rfl, FX.ins, rfl, A, D2, _, _, tr2, rw2, ah', some r2, none, 3, rfl, FX, (fun x e => by cases e), (fun _ e => by cases e), g3, by omega, by omega, fun HR q rs sR nq hq sh => ?_⟩
          have ok := FX.shows sh fun x e => by cases e
          have FX := FX.same sR
          have hMX := sR _ _ hMX
          have hWX := sR _ _ hWX
          have eDX := sR _ _ eDX
          have tpX := tpX.same sR
          have cY := cY.same sR
          have eU := sR _ _ eU
          clear sR sh nq
          refine ⟨R2, q, PU, none, [nk ms 0], rs, _, _, rfl, cY, hq, eU, (fun c hc => Nat.le_trans (g3 c hc) (by decide)), by rw [List.length_singleton]; omega, fun HV' sV => ⟨_, rfl, ?_⟩⟩
          rw [show shownP (ps.map (·.2) ++ [lastC ms]) [nk ms 0] rs none = true from ok.1]
          refine iteF ?_
          have FX := FX.same sV
          have hMX := sV _ _ hMX
          have hWX := sV _ _ hWX
          have eDX := sV _ _ eDX
          have tpX := tpX.same sV
          clear sV eU hq cY ok ltr2 eLT
          -- what goes off
          refine ⟨fun m σ H' => ∃ (w17 : Option V) (j : Nat), m + j = ms.length - 1 ∧ σ = [some (.ref a), some (.ref t), some (.int (0 + i)), some (.int (n : Nat)), some (.int (1 + r5)), some (.int (1 + r7)), some (.int z8), some (.bl far), w8, some (.ref D), some (.ref M), some (.ref W), some (.ref R), some (.ref MX), some (.ref A.f), some (.ref DU), some (.int (m : Nat)), w17, some (.ref LT), v19] ∧
            Kp DU HV' H' ∧ H' DU = some (.lst ((dueL ms j).map V.int)) ∧ ∀ k, ms.length - 1 - j < k → k < ms.length → wd k = false, ⟨ms.length - 1, some (.ref q1), 0, by omega, ?_, fun b o e _ => e, ?_, fun k h1 h2 => by omega⟩, ?_⟩
          · rw [show ((ms.length - 1 : Nat) : Int) = (n : Int) - 1 by omega]
            rfl
          · exact eDX
          rintro m σ HW ⟨w17, j, ej, rfl, kW, eW, nw⟩
          have hWW := kW _ _ hWX nWD2
          have hMW := kW _ _ hMX nMD2
          have FW := FX.keep fun b o e z => kW b o e (by
            rintro rfl
            rcases z with z | ⟨xs, rfl⟩
            · exact nDDU z
            · rw [eDX] at e
              cases e)
          have tW := tpX.off kW nDUt nDUc
          have jl : j < ms.length := by omega
          have em : ms.length - 1 - j = m := by omega
          refine ⟨_, rfl, _, _, rfl, rfl, _, rfl, ?_⟩
          by_cases go : 0 < m ∧ wd m = false
          · obtain ⟨mp, ew⟩ := go
            rw [decide_eq_true (show (0 : Int) < ((m : Nat) : Int) by omega)]
            refine iteT ⟨_, rfl, _, rfl, W, _, _, _, rfl, rfl, SqL.of hWW, wat m _ rfl (by omega), _, rfl, ?_⟩
            rw [ew]
            refine iteT ⟨fun σ' H' => ∃ (w17 : Option V) (j' : Nat), m - 1 + j' = ms.length - 1 ∧ σ' = [some (.ref a), some (.ref t), some (.int (0 + i)), some (.int (n : Nat)), some (.int (1 + r5)), some (.int (1 + r7)), some (.int z8), some (.bl far), w8, some (.ref D), some (.ref M), some (.ref W), some (.ref R), some (.ref MX), some (.ref A.f), some (.ref DU), some (.int ((m - 1 : Nat) : Int)), w17, some (.ref LT), v19] ∧
              Kp DU HV' H' ∧ H' DU = some (.lst ((dueL ms j').map V.int)) ∧ ∀ k, ms.length - 1 - j' < k → k < ms.length → wd k = false, fun σ' H' z => ⟨m - 1, by omega, z⟩, ?_⟩
            refine ⟨_, rfl, .inl ⟨rfl, _, SqL.of eW⟩, _, rfl, _, rfl, _, _, rfl, rfl, M, _, _, _, rfl, rfl, SqL.of hMW, nk_ix (k := m - 1) (by omega) (by omega), _, _, rfl, rfl, DU, _, _, rfl, rfl, eW, ?_, _, rfl, _, _, rfl, rfl, w17, j + 1, by omega, ?_, ?_, ?_, ?_⟩
            · unfold dueL
              rw [List.length_map, List.length_map, List.length_range]
              omega
            · rw [show ((m - 1 : Nat) : Int) = (m : Int) - 1 by omega]
              rfl
            · intro b o e ne
              rw [upd_ne ne]
              exact kW b o e ne
            · rw [upd_same, due_snoc, List.map_append, show ms.length - 1 - (j + 1) = m - 1 by omega]
              exact congrArg (fun z => some (L2.HO.lst (List.map V.int (dueL ms j) ++ [V.int z]))) (Int.zero_sub _)
            · intro k h1 h2
              by_cases y : k = m
              · rw [y]
                exact ew
              · exact nw k (by omega) h2
          · have stop : ms.length - 1 - j = 0 ∨ wd (ms.length - 1 - j) = true := by
              rw [em]
              by_cases z : 0 < m
              · refine .inr ?_
                cases ew : wd m with
                | true => rfl
                | false => exact absurd ⟨z, ew⟩ go
              · exact .inl (by omega)
            by_cases mp : 0 < m
            · rw [decide_eq_true (show (0 : Int) < ((m : Nat) : Int) by omega)]
              refine iteT ⟨_, rfl, _, rfl, W, _, _, _, rfl, rfl, SqL.of hWW, wat m _ rfl (by omega), _, rfl, ?_⟩
              have ew : wd m = true := by
                rcases stop with z | z
                · omega
                · rw [← em]
                  exact z
              rw [ew]
              refine iteF ?_
              obtain ⟨bo, bb⟩ := ch.back jl nw stop
              refine ⟨_, rfl, A.f, A.dx, _, rfl, FW.ins, rfl, A, D2, _, [], tr2, rw2, ah', some r2, nk ms 0, rfl, FW, fun Ha tr3 rw3 ah3 br3 Fa fa => ?_⟩
              have hMa := fa.k _ _ hMW nDM
              have eDa := fa.k _ _ eW nDDU
              have ta := tW.fr fa nDt nDc
              have eb3 : br3 = none := by
                cases br3 with
                | none => rfl
                | some r => exact absurd Fa.brk bb
              subst eb3
              refine ⟨_, rfl, M, _, _, _, rfl, rfl, SqL.of hMa, nk_ix (k := 0) rfl (by omega), rfl, _, rfl, ?_⟩
              rw [decide_eq_true rfl]
              refine iteF ?_
              obtain ⟨f1, f2, f3, f4, _⟩ := Fa.facts
              refine ⟨_, rfl, A.f, A.dx, _, rfl, Fa.ins, rfl, A, tr3, rfl, Fa.ins, f4, fun Hb p1 n1 sb h1 => ⟨_, rfl, DU, dueL ms j, rfl, SqL.of (sb _ _ eDa), fun Hc p2 n2 sc h2 => ?_⟩⟩
              have eD : byAbs (dueL ms j) = byAbs tr3 := byAbs_eq (due_nd un jl) f1 (due_con un jl) fun x => by rw [← bo x, Fa.der.1 x]
              refine ⟨lstD (byAbs tr3), lstD (byAbs (dueL ms j)), dp_lst (sc _ _ h1), dp_lst h2, shape_lst _, shape_lst _, _, rfl, ?_⟩
              rw [eD, eqv_lst]
              exact iteF ⟨_, _, _, _, _, _, _, _, _, _, _, _, _, _, _, _, _, _, rfl, ((ta.same sb).same sc).le (by omega)⟩
            · rw [decide_eq_false (show ¬ (0 : Int) < ((m : Nat) : Int) by omega)]
              refine iteF ?_
              obtain ⟨bo, bb⟩ := ch.back jl nw stop
              refine ⟨_, rfl, A.f, A.dx, _, rfl, FW.ins, rfl, A, D2, _, [], tr2, rw2, ah', some r2, nk ms 0, rfl, FW, fun Ha tr3 rw3 ah3 br3 Fa fa => ?_⟩
              have hMa := fa.k _ _ hMW nDM
              have eDa := fa.k _ _ eW nDDU
              have ta := tW.fr fa nDt nDc
              have eb3 : br3 = none := by
                cases br3 with
                | none => rfl
                | some r => exact absurd Fa.brk bb
              subst eb3
              refine ⟨_, rfl, M, _, _, _, rfl, rfl, SqL.of hMa, nk_ix (k := 0) rfl (by omega), rfl, _, rfl, ?_⟩
              rw [decide_eq_true rfl]
              refine iteF ?_
              obtain ⟨f1, f2, f3, f4, _⟩ := Fa.facts
              refine ⟨_, rfl, A.f, A.dx, _, rfl, Fa.ins, rfl, A, tr3, rfl, Fa.ins, f4, fun Hb p1 n1 sb h1 => ⟨_, rfl, DU, dueL ms j, rfl, SqL.of (sb _ _ eDa), fun Hc p2 n2 sc h2 => ?_⟩⟩
              have eD : byAbs (dueL ms j) = byAbs tr3 := byAbs_eq (due_nd un jl) f1 (due_con un jl) fun x => by rw [← bo x, Fa.der.1 x]
              refine ⟨lstD (byAbs tr3), lstD (byAbs (dueL ms j)), dp_lst (sc _ _ h1), dp_lst h2, shape_lst _, shape_lst _, _, rfl, ?_⟩
              rw [eD, eqv_lst]
              exact iteF ⟨_, _, _, _, _, _, _, _, _, _, _, _, _, _, _, _, _, _, rfl, ((ta.same sb).same sc).le (by omega)⟩
        · cases z
    · rintro σ H2 ⟨v2, v3, v4, v5, v6, v7, v8, v9, v10, v11, v12, v13, v14, v15, v16, v17, v18, v19, rfl, tp2⟩
      exact k H2
theorem law_fn {f : Addr} {fd : FuncData} {cs : Nat → Addr} (T : Top K mg cs) (F : Fun K "law" "law" s_law f fd) : FnOk P w K mg base CX0 7 f fd ["_law_script"] (spLaw K) :=
  have d := has_draw T
  have p := has_pick T d
  have r := hm_ready T
  have b := hm_bring T r
  have s := hm_settle T r b
  have rf := hm_refuse T
  have tk := hm_take T
  have nw := hm_news T
  have ro := hm_rowof T
  ok_law F T (has_begun T) d p (has_risen T) (has_lshows T) (hi_init T tk s) (hm_put T rf ro b s nw) (hm_add T rf tk s nw) (hm_back T (hm_off T) s) (hm_on T rf) (hm_shown T rf (hm_rowsto T ro))
end

theorem all_mk {l : PySem.W.OpenLaw} {w : World} {K : PySem.W.Frag} {h : Heap} {mg : Str → Option Value} {fa : Addr} (X : K.In h) (G : h.Ns mainGlobals mg) (hfa : mg "law" = some (.ref fa))
    {f0 : Addr} {od0 an0 : Option Addr} {sl0 : Array (Option Value)} {oc0 kV0 dc0 pm0 cd0 ct0 : Value}
    (a0 : PySem.W.nsIn K mainGlobals "_wall" = some (some (.ref f0))) (l0 : K.lookup f0 = some ⟨oc0, od0, .func (PySem.W.fnOf "_wall" "_wall" (defArgs s__wall) (defBody s__wall) (defScope s__wall) .none kV0 dc0 pm0 an0 cd0 ct0), sl0⟩) (cc0 : PySem.W.codeIn K cd0 "_wall" = true) (k0 : PySem.W.keepIn K (.ref f0) = true)
    {f1 : Addr} {od1 an1 : Option Addr} {sl1 : Array (Option Value)} {oc1 kV1 dc1 pm1 cd1 ct1 : Value}
    (a1 : PySem.W.nsIn K mainGlobals "_law_begun" = some (some (.ref f1))) (l1 : K.lookup f1 = some ⟨oc1, od1, .func (PySem.W.fnOf "_law_begun" "_law_begun" (defArgs s__law_begun) (defBody s__law_begun) (defScope s__law_begun) .none kV1 dc1 pm1 an1 cd1 ct1), sl1⟩) (cc1 : PySem.W.codeIn K cd1 "_law_begun" = true) (k1 : PySem.W.keepIn K (.ref f1) = true)
    {f2 : Addr} {od2 an2 : Option Addr} {sl2 : Array (Option Value)} {oc2 kV2 dc2 pm2 cd2 ct2 : Value}
    (a2 : PySem.W.nsIn K mainGlobals "_law_draw" = some (some (.ref f2))) (l2 : K.lookup f2 = some ⟨oc2, od2, .func (PySem.W.fnOf "_law_draw" "_law_draw" (defArgs s__law_draw) (defBody s__law_draw) (defScope s__law_draw) .none kV2 dc2 pm2 an2 cd2 ct2), sl2⟩) (cc2 : PySem.W.codeIn K cd2 "_law_draw" = true) (k2 : PySem.W.keepIn K (.ref f2) = true)
    {f3 : Addr} {od3 an3 : Option Addr} {sl3 : Array (Option Value)} {oc3 kV3 dc3 pm3 cd3 ct3 : Value}
    (a3 : PySem.W.nsIn K mainGlobals "_law_pick" = some (some (.ref f3))) (l3 : K.lookup f3 = some ⟨oc3, od3, .func (PySem.W.fnOf "_law_pick" "_law_pick" (defArgs s__law_pick) (defBody s__law_pick) (defScope s__law_pick) .none kV3 dc3 pm3 an3 cd3 ct3), sl3⟩) (cc3 : PySem.W.codeIn K cd3 "_law_pick" = true) (k3 : PySem.W.keepIn K (.ref f3) = true)
    {f4 : Addr} {od4 an4 : Option Addr} {sl4 : Array (Option Value)} {oc4 kV4 dc4 pm4 cd4 ct4 : Value}
    (a4 : PySem.W.nsIn K mainGlobals "_law_shows" = some (some (.ref f4))) (l4 : K.lookup f4 = some ⟨oc4, od4, .func (PySem.W.fnOf "_law_shows" "_law_shows" (defArgs s__law_shows) (defBody s__law_shows) (defScope s__law_shows) .none kV4 dc4 pm4 an4 cd4 ct4), sl4⟩) (cc4 : PySem.W.codeIn K cd4 "_law_shows" = true) (k4 : PySem.W.keepIn K (.ref f4) = true)
    {f5 : Addr} {od5 an5 : Option Addr} {sl5 : Array (Option Value)} {oc5 kV5 dc5 pm5 cd5 ct5 : Value}
    (a5 : PySem.W.nsIn K mainGlobals "_law_risen" = some (some (.ref f5))) (l5 : K.lookup f5 = some ⟨oc5, od5, .func (PySem.W.fnOf "_law_risen" "_law_risen" (defArgs s__law_risen) (defBody s__law_risen) (defScope s__law_risen) .none kV5 dc5 pm5 an5 cd5 ct5), sl5⟩) (cc5 : PySem.W.codeIn K cd5 "_law_risen" = true) (k5 : PySem.W.keepIn K (.ref f5) = true)
    {f6 : Addr} {od6 an6 : Option Addr} {sl6 : Array (Option Value)} {oc6 kV6 dc6 pm6 cd6 ct6 : Value}
    (a6 : PySem.W.nsIn K mainGlobals "law" = some (some (.ref f6))) (l6 : K.lookup f6 = some ⟨oc6, od6, .func (PySem.W.fnOf "law" "law" (defArgs s_law) (defBody s_law) (defScope s_law) .none kV6 dc6 pm6 an6 cd6 ct6), sl6⟩) (cc6 : PySem.W.codeIn K cd6 "law" = true) (k6 : PySem.W.keepIn K (.ref f6) = true)
    {C0 : Addr} (gx0 : PySem.W.nsIn K mainGlobals "Follower" = some (some (.ref C0))) (pg0 : PySem.W.plainGet K C0 Str.empty = true) (hd0 : PySem.W.hasDictIn K C0 = true) (po0 : PySem.W.plainOver K C0 = true) (sa0 : PySem.W.findIn K (.ref C0) "__setattr__" = some (some (.builtin "object.__setattr__"))) (mk0 : PySem.W.makesIn K C0 = true) (kc0 : PySem.W.keepIn K (.ref C0) = true)
    {G0_0 : Addr} {mod0_0 man0_0 : Option Addr} {msl0_0 : Array (Option Value)} {moc0_0 mkV0_0 mdc0_0 mpm0_0 mcd0_0 mct0_0 : Value}
    (mf0_0 : PySem.W.findIn K (.ref C0) "__init__" = some (some (.ref G0_0))) (mi0_0 : PySem.W.isFn K (.ref G0_0) = true) (ml0_0 : K.lookup G0_0 = some ⟨moc0_0, mod0_0, .func (PySem.W.fnOf "__init__" "Follower.__init__" (defArgs s_Follower___init__) (defBody s_Follower___init__) (defScope s_Follower___init__) .none mkV0_0 mdc0_0 mpm0_0 man0_0 mcd0_0 mct0_0), msl0_0⟩) (mc0_0 : PySem.W.codeIn K mcd0_0 "Follower.__init__" = true) (mq0_0 : PySem.W.keepIn K (.ref G0_0) = true)
    {G0_1 : Addr} {mod0_1 man0_1 : Option Addr} {msl0_1 : Array (Option Value)} {moc0_1 mkV0_1 mdc0_1 mpm0_1 mcd0_1 mct0_1 : Value}
    (mf0_1 : PySem.W.findIn K (.ref C0) "put" = some (some (.ref G0_1))) (mi0_1 : PySem.W.isFn K (.ref G0_1) = true) (ml0_1 : K.lookup G0_1 = some ⟨moc0_1, mod0_1, .func (PySem.W.fnOf "put" "Follower.put" (defArgs s_Follower_put) (defBody s_Follower_put) (defScope s_Follower_put) .none mkV0_1 mdc0_1 mpm0_1 man0_1 mcd0_1 mct0_1), msl0_1⟩) (mc0_1 : PySem.W.codeIn K mcd0_1 "Follower.put" = true) (mq0_1 : PySem.W.keepIn K (.ref G0_1) = true)
    {G0_2 : Addr} {mod0_2 man0_2 : Option Addr} {msl0_2 : Array (Option Value)} {moc0_2 mkV0_2 mdc0_2 mpm0_2 mcd0_2 mct0_2 : Value}
    (mf0_2 : PySem.W.findIn K (.ref C0) "add" = some (some (.ref G0_2))) (mi0_2 : PySem.W.isFn K (.ref G0_2) = true) (ml0_2 : K.lookup G0_2 = some ⟨moc0_2, mod0_2, .func (PySem.W.fnOf "add" "Follower.add" (defArgs s_Follower_add) (defBody s_Follower_add) (defScope s_Follower_add) .none mkV0_2 mdc0_2 mpm0_2 man0_2 mcd0_2 mct0_2), msl0_2⟩) (mc0_2 : PySem.W.codeIn K mcd0_2 "Follower.add" = true) (mq0_2 : PySem.W.keepIn K (.ref G0_2) = true)
    {G0_3 : Addr} {mod0_3 man0_3 : Option Addr} {msl0_3 : Array (Option Value)} {moc0_3 mkV0_3 mdc0_3 mpm0_3 mcd0_3 mct0_3 : Value}
    (mf0_3 : PySem.W.findIn K (.ref C0) "back" = some (some (.ref G0_3))) (mi0_3 : PySem.W.isFn K (.ref G0_3) = true) (ml0_3 : K.lookup G0_3 = some ⟨moc0_3, mod0_3, .func (PySem.W.fnOf "back" "Follower.back" (defArgs s_Follower_back) (defBody s_Follower_back) (defScope s_Follower_back) .none mkV0_3 mdc0_3 mpm0_3 man0_3 mcd0_3 mct0_3), msl0_3⟩) (mc0_3 : PySem.W.codeIn K mcd0_3 "Follower.back" = true) (mq0_3 : PySem.W.keepIn K (.ref G0_3) = true)
    {G0_4 : Addr} {mod0_4 man0_4 : Option Addr} {msl0_4 : Array (Option Value)} {moc0_4 mkV0_4 mdc0_4 mpm0_4 mcd0_4 mct0_4 : Value}
    (mf0_4 : PySem.W.findIn K (.ref C0) "on" = some (some (.ref G0_4))) (mi0_4 : PySem.W.isFn K (.ref G0_4) = true) (ml0_4 : K.lookup G0_4 = some ⟨moc0_4, mod0_4, .func (PySem.W.fnOf "on" "Follower.on" (defArgs s_Follower_on) (defBody s_Follower_on) (defScope s_Follower_on) .none mkV0_4 mdc0_4 mpm0_4 man0_4 mcd0_4 mct0_4), msl0_4⟩) (mc0_4 : PySem.W.codeIn K mcd0_4 "Follower.on" = true) (mq0_4 : PySem.W.keepIn K (.ref G0_4) = true)
    {G0_5 : Addr} {mod0_5 man0_5 : Option Addr} {msl0_5 : Array (Option Value)} {moc0_5 mkV0_5 mdc0_5 mpm0_5 mcd0_5 mct0_5 : Value}
    (mf0_5 : PySem.W.findIn K (.ref C0) "shown" = some (some (.ref G0_5))) (mi0_5 : PySem.W.isFn K (.ref G0_5) = true) (ml0_5 : K.lookup G0_5 = some ⟨moc0_5, mod0_5, .func (PySem.W.fnOf "shown" "Follower.shown" (defArgs s_Follower_shown) (defBody s_Follower_shown) (defScope s_Follower_shown) .none mkV0_5 mdc0_5 mpm0_5 man0_5 mcd0_5 mct0_5), msl0_5⟩) (mc0_5 : PySem.W.codeIn K mcd0_5 "Follower.shown" = true) (mq0_5 : PySem.W.keepIn K (.ref G0_5) = true)
    {G0_6 : Addr} {mod0_6 man0_6 : Option Addr} {msl0_6 : Array (Option Value)} {moc0_6 mkV0_6 mdc0_6 mpm0_6 mcd0_6 mct0_6 : Value}
    (mf0_6 : PySem.W.findIn K (.ref C0) "_refuse_broken" = some (some (.ref G0_6))) (mi0_6 : PySem.W.isFn K (.ref G0_6) = true) (ml0_6 : K.lookup G0_6 = some ⟨moc0_6, mod0_6, .func (PySem.W.fnOf "_refuse_broken" "Follower._refuse_broken" (defArgs s_Follower__refuse_broken) (defBody s_Follower__refuse_broken) (defScope s_Follower__refuse_broken) .none mkV0_6 mdc0_6 mpm0_6 man0_6 mcd0_6 mct0_6), msl0_6⟩) (mc0_6 : PySem.W.codeIn K mcd0_6 "Follower._refuse_broken" = true) (mq0_6 : PySem.W.keepIn K (.ref G0_6) = true)
    {G0_7 : Addr} {mod0_7 man0_7 : Option Addr} {msl0_7 : Array (Option Value)} {moc0_7 mkV0_7 mdc0_7 mpm0_7 mcd0_7 mct0_7 : Value}
    (mf0_7 : PySem.W.findIn K (.ref C0) "_row_of" = some (some (.ref G0_7))) (mi0_7 : PySem.W.isFn K (.ref G0_7) = true) (ml0_7 : K.lookup G0_7 = some ⟨moc0_7, mod0_7, .func (PySem.W.fnOf "_row_of" "Follower._row_of" (defArgs s_Follower__row_of) (defBody s_Follower__row_of) (defScope s_Follower__row_of) .none mkV0_7 mdc0_7 mpm0_7 man0_7 mcd0_7 mct0_7), msl0_7⟩) (mc0_7 : PySem.W.codeIn K mcd0_7 "Follower._row_of" = true) (mq0_7 : PySem.W.keepIn K (.ref G0_7) = true)
    {G0_8 : Addr} {mod0_8 man0_8 : Option Addr} {msl0_8 : Array (Option Value)} {moc0_8 mkV0_8 mdc0_8 mpm0_8 mcd0_8 mct0_8 : Value}
    (mf0_8 : PySem.W.findIn K (.ref C0) "_take_in" = some (some (.ref G0_8))) (mi0_8 : PySem.W.isFn K (.ref G0_8) = true) (ml0_8 : K.lookup G0_8 = some ⟨moc0_8, mod0_8, .func (PySem.W.fnOf "_take_in" "Follower._take_in" (defArgs s_Follower__take_in) (defBody s_Follower__take_in) (defScope s_Follower__take_in) .none mkV0_8 mdc0_8 mpm0_8 man0_8 mcd0_8 mct0_8), msl0_8⟩) (mc0_8 : PySem.W.codeIn K mcd0_8 "Follower._take_in" = true) (mq0_8 : PySem.W.keepIn K (.ref G0_8) = true)
    {G0_9 : Addr} {mod0_9 man0_9 : Option Addr} {msl0_9 : Array (Option Value)} {moc0_9 mkV0_9 mdc0_9 mpm0_9 mcd0_9 mct0_9 : Value}
    (mf0_9 : PySem.W.findIn K (.ref C0) "_bring" = some (some (.ref G0_9))) (mi0_9 : PySem.W.isFn K (.ref G0_9) = true) (ml0_9 : K.lookup G0_9 = some ⟨moc0_9, mod0_9, .func (PySem.W.fnOf "_bring" "Follower._bring" (defArgs s_Follower__bring) (defBody s_Follower__bring) (defScope s_Follower__bring) .none mkV0_9 mdc0_9 mpm0_9 man0_9 mcd0_9 mct0_9), msl0_9⟩) (mc0_9 : PySem.W.codeIn K mcd0_9 "Follower._bring" = true) (mq0_9 : PySem.W.keepIn K (.ref G0_9) = true)
    {G0_10 : Addr} {mod0_10 man0_10 : Option Addr} {msl0_10 : Array (Option Value)} {moc0_10 mkV0_10 mdc0_10 mpm0_10 mcd0_10 mct0_10 : Value}
    (mf0_10 : PySem.W.findIn K (.ref C0) "_take_off_last" = some (some (.ref G0_10))) (mi0_10 : PySem.W.isFn K (.ref G0_10) = true) (ml0_10 : K.lookup G0_10 = some ⟨moc0_10, mod0_10, .func (PySem.W.fnOf "_take_off_last" "Follower._take_off_last" (defArgs s_Follower__take_off_last) (defBody s_Follower__take_off_last) (defScope s_Follower__take_off_last) .none mkV0_10 mdc0_10 mpm0_10 man0_10 mcd0_10 mct0_10), msl0_10⟩) (mc0_10 : PySem.W.codeIn K mcd0_10 "Follower._take_off_last" = true) (mq0_10 : PySem.W.keepIn K (.ref G0_10) = true)
    {G0_11 : Addr} {mod0_11 man0_11 : Option Addr} {msl0_11 : Array (Option Value)} {moc0_11 mkV0_11 mdc0_11 mpm0_11 mcd0_11 mct0_11 : Value}
    (mf0_11 : PySem.W.findIn K (.ref C0) "_is_ready" = some (some (.ref G0_11))) (mi0_11 : PySem.W.isFn K (.ref G0_11) = true) (ml0_11 : K.lookup G0_11 = some ⟨moc0_11, mod0_11, .func (PySem.W.fnOf "_is_ready" "Follower._is_ready" (defArgs s_Follower__is_ready) (defBody s_Follower__is_ready) (defScope s_Follower__is_ready) .none mkV0_11 mdc0_11 mpm0_11 man0_11 mcd0_11 mct0_11), msl0_11⟩) (mc0_11 : PySem.W.codeIn K mcd0_11 "Follower._is_ready" = true) (mq0_11 : PySem.W.keepIn K (.ref G0_11) = true)
    {G0_12 : Addr} {mod0_12 man0_12 : Option Addr} {msl0_12 : Array (Option Value)} {moc0_12 mkV0_12 mdc0_12 mpm0_12 mcd0_12 mct0_12 : Value}
    (mf0_12 : PySem.W.findIn K (.ref C0) "_settle" = some (some (.ref G0_12))) (mi0_12 : PySem.W.isFn K (.ref G0_12) = true) (ml0_12 : K.lookup G0_12 = some ⟨moc0_12, mod0_12, .func (PySem.W.fnOf "_settle" "Follower._settle" (defArgs s_Follower__settle) (defBody s_Follower__settle) (defScope s_Follower__settle) .none mkV0_12 mdc0_12 mpm0_12 man0_12 mcd0_12 mct0_12), msl0_12⟩) (mc0_12 : PySem.W.codeIn K mcd0_12 "Follower._settle" = true) (mq0_12 : PySem.W.keepIn K (.ref G0_12) = true)
    {G0_13 : Addr} {mod0_13 man0_13 : Option Addr} {msl0_13 : Array (Option Value)} {moc0_13 mkV0_13 mdc0_13 mpm0_13 mcd0_13 mct0_13 : Value}
    (mf0_13 : PySem.W.findIn K (.ref C0) "_news" = some (some (.ref G0_13))) (mi0_13 : PySem.W.isFn K (.ref G0_13) = true) (ml0_13 : K.lookup G0_13 = some ⟨moc0_13, mod0_13, .func (PySem.W.fnOf "_news" "Follower._news" (defArgs s_Follower__news) (defBody s_Follower__news) (defScope s_Follower__news) .none mkV0_13 mdc0_13 mpm0_13 man0_13 mcd0_13 mct0_13), msl0_13⟩) (mc0_13 : PySem.W.codeIn K mcd0_13 "Follower._news" = true) (mq0_13 : PySem.W.keepIn K (.ref G0_13) = true)
    {G0_14 : Addr} {mod0_14 man0_14 : Option Addr} {msl0_14 : Array (Option Value)} {moc0_14 mkV0_14 mdc0_14 mpm0_14 mcd0_14 mct0_14 : Value}
    (mf0_14 : PySem.W.findIn K (.ref C0) "_rows_to" = some (some (.ref G0_14))) (mi0_14 : PySem.W.isFn K (.ref G0_14) = true) (ml0_14 : K.lookup G0_14 = some ⟨moc0_14, mod0_14, .func (PySem.W.fnOf "_rows_to" "Follower._rows_to" (defArgs s_Follower__rows_to) (defBody s_Follower__rows_to) (defScope s_Follower__rows_to) .none mkV0_14 mdc0_14 mpm0_14 man0_14 mcd0_14 mct0_14), msl0_14⟩) (mc0_14 : PySem.W.codeIn K mcd0_14 "Follower._rows_to" = true) (mq0_14 : PySem.W.keepIn K (.ref G0_14) = true)
    (na0_0 : PySem.W.findIn K (.ref C0) "_clauses" = some none)
    (na0_1 : PySem.W.findIn K (.ref C0) "_offs" = some none)
    (na0_2 : PySem.W.findIn K (.ref C0) "_having" = some none)
    (na0_3 : PySem.W.findIn K (.ref C0) "_trail" = some none)
    (na0_4 : PySem.W.findIn K (.ref C0) "_place" = some none)
    (na0_5 : PySem.W.findIn K (.ref C0) "_rows" = some none)
    (na0_6 : PySem.W.findIn K (.ref C0) "_puts" = some none)
    (na0_7 : PySem.W.findIn K (.ref C0) "_is_put" = some none)
    (na0_8 : PySem.W.findIn K (.ref C0) "_ahead" = some none)
    (na0_9 : PySem.W.findIn K (.ref C0) "_broken_row" = some none)
    (z0 : PySem.W.nsIn K mainGlobals "len" = some none)
    (z1 : PySem.W.nsIn K mainGlobals "dict" = some none)
    (z2 : PySem.W.nsIn K mainGlobals "isinstance" = some none)
    (z3 : PySem.W.nsIn K mainGlobals "bool" = some none)
    (z4 : PySem.W.nsIn K mainGlobals "int" = some none)
    (z5 : PySem.W.nsIn K mainGlobals "sorted" = some none)
    (z6 : PySem.W.nsIn K mainGlobals "abs" = some none)
    (z7 : PySem.W.nsIn K mainGlobals "range" = some none)
    (z8 : PySem.W.nsIn K mainGlobals "min" = some none)
    (z9 : PySem.W.nsIn K mainGlobals "list" = some none)
    : ∃ fd : FuncData, (∀ (s : Shared) (v : Value), BindsTo s fd ⟨[v], []⟩ [("_law_script", v)]) ∧ ∀ base : Heap, K.In base → base.Ns mainGlobals mg → FnOk l.prog w K mg base CX0 7 fa fd ["_law_script"] (spLaw K) := by
  have e := hfa.symm.trans (PySem.W.mg_of X G a6)
  cases e
  have T : Top K mg (fun i => [C0].getD i 0) := ⟨⟨⟨_, _, PySem.W.mg_of X G a0, fun_mk (st := s__wall) l0 cc0 k0⟩⟩, ⟨⟨_, _, PySem.W.mg_of X G a1, fun_mk (st := s__law_begun) l1 cc1 k1⟩⟩, ⟨⟨_, _, PySem.W.mg_of X G a2, fun_mk (st := s__law_draw) l2 cc2 k2⟩⟩, ⟨⟨_, _, PySem.W.mg_of X G a3, fun_mk (st := s__law_pick) l3 cc3 k3⟩⟩, ⟨⟨_, _, PySem.W.mg_of X G a4, fun_mk (st := s__law_shows) l4 cc4 k4⟩⟩, ⟨⟨_, _, PySem.W.mg_of X G a5, fun_mk (st := s__law_risen) l5 cc5 k5⟩⟩, ⟨⟨_, _, PySem.W.mg_of X G a6, fun_mk (st := s_law) l6 cc6 k6⟩⟩, PySem.W.mg_of X G gx0, ⟨pg0, hd0, po0, sa0⟩, ⟨⟨_, _, ⟨mk0, mf0_0, mi0_0, kc0⟩, fun_mk (st := s_Follower___init__) ml0_0 mc0_0 mq0_0⟩⟩, ⟨⟨_, _, ⟨mf0_1, mi0_1, mq0_1⟩, fun_mk (st := s_Follower_put) ml0_1 mc0_1 mq0_1⟩⟩, ⟨⟨_, _, ⟨mf0_2, mi0_2, mq0_2⟩, fun_mk (st := s_Follower_add) ml0_2 mc0_2 mq0_2⟩⟩, ⟨⟨_, _, ⟨mf0_3, mi0_3, mq0_3⟩, fun_mk (st := s_Follower_back) ml0_3 mc0_3 mq0_3⟩⟩, ⟨⟨_, _, ⟨mf0_4, mi0_4, mq0_4⟩, fun_mk (st := s_Follower_on) ml0_4 mc0_4 mq0_4⟩⟩, ⟨⟨_, _, ⟨mf0_5, mi0_5, mq0_5⟩, fun_mk (st := s_Follower_shown) ml0_5 mc0_5 mq0_5⟩⟩, ⟨⟨_, _, ⟨mf0_6, mi0_6, mq0_6⟩, fun_mk (st := s_Follower__refuse_broken) ml0_6 mc0_6 mq0_6⟩⟩, ⟨⟨_, _, ⟨mf0_7, mi0_7, mq0_7⟩, fun_mk (st := s_Follower__row_of) ml0_7 mc0_7 mq0_7⟩⟩, ⟨⟨_, _, ⟨mf0_8, mi0_8, mq0_8⟩, fun_mk (st := s_Follower__take_in) ml0_8 mc0_8 mq0_8⟩⟩, ⟨⟨_, _, ⟨mf0_9, mi0_9, mq0_9⟩, fun_mk (st := s_Follower__bring) ml0_9 mc0_9 mq0_9⟩⟩, ⟨⟨_, _, ⟨mf0_10, mi0_10, mq0_10⟩, fun_mk (st := s_Follower__take_off_last) ml0_10 mc0_10 mq0_10⟩⟩, ⟨⟨_, _, ⟨mf0_11, mi0_11, mq0_11⟩, fun_mk (st := s_Follower__is_ready) ml0_11 mc0_11 mq0_11⟩⟩, ⟨⟨_, _, ⟨mf0_12, mi0_12, mq0_12⟩, fun_mk (st := s_Follower__settle) ml0_12 mc0_12 mq0_12⟩⟩, ⟨⟨_, _, ⟨mf0_13, mi0_13, mq0_13⟩, fun_mk (st := s_Follower__news) ml0_13 mc0_13 mq0_13⟩⟩, ⟨⟨_, _, ⟨mf0_14, mi0_14, mq0_14⟩, fun_mk (st := s_Follower__rows_to) ml0_14 mc0_14 mq0_14⟩⟩, na0_0, na0_1, na0_2, na0_3, na0_4, na0_5, na0_6, na0_7, na0_8, na0_9, PySem.W.mg_none_of X G z0, PySem.W.mg_none_of X G z1, PySem.W.mg_none_of X G z2, PySem.W.mg_none_of X G z3, PySem.W.mg_none_of X G z4, PySem.W.mg_none_of X G z5, PySem.W.mg_none_of X G z6, PySem.W.mg_none_of X G z7, PySem.W.mg_none_of X G z8, PySem.W.mg_none_of X G z9⟩
  exact ⟨_, fun s v => .of_eq rfl, fun base _ _ => law_fn T (fun_mk (st := s_law) l6 cc6 k6)⟩
end Mc
open PySem PySem.W PyProof.Rows
set_option maxRecDepth 100000 in
set_option maxHeartbeats 0 in
theorem PySem.Challenge.cw_mostclauses_k84_long_chains_holds : PySem.Challenge.rw_mostclauses_k84_long_chains.Holds := by
  w_on; o_law; k_head; (case hw => w_witness2)
  k_fill
  refine L2.walk_of (l := PySem.Challenge.rw_mostclauses_k84_long_chains) (n := 63) (k := 7) (x := "_law_script") (CX := fun _ => L2.CX0) (sp := fun w => Mc.spLaw _) rfl (by decide) rfl ⟨rfl, by decide, by decide⟩ (fun w h Y => PySem.W.kIn_of Y) ?F (fun _ _ a ns hl _ hS => ⟨a, ns, rfl, hS, hl, fun _ => rfl⟩) (fun _ _ _ _ _ h => h)
  case F =>
    intro w mg fa h KX G hmg
    refine' Mc.all_mk KX G hmg ?a0 ?l0 ?cc0 ?k0 ?a1 ?l1 ?cc1 ?k1 ?a2 ?l2 ?cc2 ?k2 ?a3 ?l3 ?cc3 ?k3 ?a4 ?l4 ?cc4 ?k4 ?a5 ?l5 ?cc5 ?k5 ?a6 ?l6 ?cc6 ?k6 ?gx0 ?pg0 ?hd0 ?po0 ?sa0 ?mk0 ?kc0 ?mf0_0 ?mi0_0 ?ml0_0 ?mc0_0 ?mq0_0 ?mf0_1 ?mi0_1 ?ml0_1 ?mc0_1 ?mq0_1 ?mf0_2 ?mi0_2 ?ml0_2 ?mc0_2 ?mq0_2 ?mf0_3 ?mi0_3 ?ml0_3 ?mc0_3 ?mq0_3 ?mf0_4 ?mi0_4 ?ml0_4 ?mc0_4 ?mq0_4 ?mf0_5 ?mi0_5 ?ml0_5 ?mc0_5 ?mq0_5 ?mf0_6 ?mi0_6 ?ml0_6 ?mc0_6 ?mq0_6 ?mf0_7 ?mi0_7 ?ml0_7 ?mc0_7 ?mq0_7 ?mf0_8 ?mi0_8 ?ml0_8 ?mc0_8 ?mq0_8 ?mf0_9 ?mi0_9 ?ml0_9 ?mc0_9 ?mq0_9 ?mf0_10 ?mi0_10 ?ml0_10 ?mc0_10 ?mq0_10 ?mf0_11 ?mi0_11 ?ml0_11 ?mc0_11 ?mq0_11 ?mf0_12 ?mi0_12 ?ml0_12 ?mc0_12 ?mq0_12 ?mf0_13 ?mi0_13 ?ml0_13 ?mc0_13 ?mq0_13 ?mf0_14 ?mi0_14 ?ml0_14 ?mc0_14 ?mq0_14 ?na0_0 ?na0_1 ?na0_2 ?na0_3 ?na0_4 ?na0_5 ?na0_6 ?na0_7 ?na0_8 ?na0_9 ?z0 ?z1 ?z2 ?z3 ?z4 ?z5 ?z6 ?z7 ?z8 ?z9
    (case a0 => k_is)
    (case l0 => k_is)
    (case cc0 => k_is)
    (case k0 => k_is)
    (case a1 => k_is)
    (case l1 => k_is)
    (case cc1 => k_is)
    (case k1 => k_is)
    (case a2 => k_is)
    (case l2 => k_is)
    (case cc2 => k_is)
    (case k2 => k_is)
    (case a3 => k_is)
    (case l3 => k_is)
    (case cc3 => k_is)
    (case k3 => k_is)
    (case a4 => k_is)
    (case l4 => k_is)
    (case cc4 => k_is)
    (case k4 => k_is)
    (case a5 => k_is)
    (case l5 => k_is)
    (case cc5 => k_is)
    (case k5 => k_is)
    (case a6 => k_is)
    (case l6 => k_is)
    (case cc6 => k_is)
    (case k6 => k_is)
    (case gx0 => k_is)
    (case pg0 => k_is)
    (case hd0 => k_is)
    (case po0 => k_is)
    (case sa0 => k_is)
    (case mk0 => k_is)
    (case kc0 => k_is)
    (case mf0_0 => k_is)
    (case mi0_0 => k_is)
    (case ml0_0 => k_is)
    (case mc0_0 => k_is)
    (case mq0_0 => k_is)
    (case mf0_1 => k_is)
    (case mi0_1 => k_is)
    (case ml0_1 => k_is)
    (case mc0_1 => k_is)
    (case mq0_1 => k_is)
    (case mf0_2 => k_is)
    (case mi0_2 => k_is)
    (case ml0_2 => k_is)
    (case mc0_2 => k_is)
    (case mq0_2 => k_is)
    (case mf0_3 => k_is)
    (case mi0_3 => k_is)
    (case ml0_3 => k_is)
    (case mc0_3 => k_is)
    (case mq0_3 => k_is)
    (case mf0_4 => k_is)
    (case mi0_4 => k_is)
    (case ml0_4 => k_is)
    (case mc0_4 => k_is)
    (case mq0_4 => k_is)
    (case mf0_5 => k_is)
    (case mi0_5 => k_is)
    (case ml0_5 => k_is)
    (case mc0_5 => k_is)
    (case mq0_5 => k_is)
    (case mf0_6 => k_is)
    (case mi0_6 => k_is)
    (case ml0_6 => k_is)
    (case mc0_6 => k_is)
    (case mq0_6 => k_is)
    (case mf0_7 => k_is)
    (case mi0_7 => k_is)
    (case ml0_7 => k_is)
    (case mc0_7 => k_is)
    (case mq0_7 => k_is)
    (case mf0_8 => k_is)
    (case mi0_8 => k_is)
    (case ml0_8 => k_is)
    (case mc0_8 => k_is)
    (case mq0_8 => k_is)
    (case mf0_9 => k_is)
    (case mi0_9 => k_is)
    (case ml0_9 => k_is)
    (case mc0_9 => k_is)
    (case mq0_9 => k_is)
    (case mf0_10 => k_is)
    (case mi0_10 => k_is)
    (case ml0_10 => k_is)
    (case mc0_10 => k_is)
    (case mq0_10 => k_is)
    (case mf0_11 => k_is)
    (case mi0_11 => k_is)
    (case ml0_11 => k_is)
    (case mc0_11 => k_is)
    (case mq0_11 => k_is)
    (case mf0_12 => k_is)
    (case mi0_12 => k_is)
    (case ml0_12 => k_is)
    (case mc0_12 => k_is)
    (case mq0_12 => k_is)
    (case mf0_13 => k_is)
    (case mi0_13 => k_is)
    (case ml0_13 => k_is)
    (case mc0_13 => k_is)
    (case mq0_13 => k_is)
    (case mf0_14 => k_is)
    (case mi0_14 => k_is)
    (case ml0_14 => k_is)
    (case mc0_14 => k_is)
    (case mq0_14 => k_is)
    (case na0_0 => k_is)
    (case na0_1 => k_is)
    (case na0_2 => k_is)
    (case na0_3 => k_is)
    (case na0_4 => k_is)
    (case na0_5 => k_is)
    (case na0_6 => k_is)
    (case na0_7 => k_is)
    (case na0_8 => k_is)
    (case na0_9 => k_is)
    (case z0 => k_is)
    (case z1 => k_is)
    (case z2 => k_is)
    (case z3 => k_is)
    (case z4 => k_is)
    (case z5 => k_is)
    (case z6 => k_is)
    (case z7 => k_is)
    (case z8 => k_is)
    (case z9 => k_is)
