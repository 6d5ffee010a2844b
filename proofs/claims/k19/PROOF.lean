import PyProof.Rows.All
import Wide.All
import OpenK.AllK
import Wide.FinOn
import HandS.ForMost
import HandS.Flow
import HandS.Wide
import HandS.Small
import HandS.Style
import HandS.IsInst
import HandS.RaiseMore
import HandS.Codes
import HandS.ExcInit
import HandS.ExcIs
import HandS.ExcField
import HandS.FStr
import KE.KExcInit
import PyProof.ReprRoads
import PyProof.Rows.ReprShort
import PyProof.Rows.RegFStrParts
import PyProof.FString2
import PyProof.ExcBaseAll.ValueError
import PyProof.ExcBaseAll.IndexError
import PyProof.ExcBaseAll.LookupError
import PyProof.Rows.FactsExc_KeyError
import PyProof.Rows.FactsExc_ValueError
import PyProof.Rows.FactsExc_IndexError
import PyProof.Rows.FactsExc_LookupError
import HandS.WordsExc
import HandS.ExcOwn
import HandS.TryMany
import HandS.Star
import HandS.TupMul
import HandS.Iter
import HandS.Text
import HandS.TupAny
import HandS.Conv
import PyProof.ReprBulk
import HandS.TupLe
import HandS.Zip
import HandS.Walk
import HandS.WideBits
import PySem.Challenge.RW_mostclauses_k19_last_knots
set_option Elab.async false
set_option linter.all false
set_option maxRecDepth 100000
set_option maxHeartbeats 4000000
namespace Mc
open PySem PySem.Spec PyProof.Rows L2
/-! ### the text by places -/
def top (i : Nat) : Stmt := PySem.Challenge.pw_mostclauses_k19_last_knots.main.body.getD i (.Pass ⟨0, 0, 0, 0⟩)

abbrev s_ways : Stmt := top 4
abbrev nm_ways : List Str := ["lens", "many", "length"]
theorem sc_ways : FnScope nm_ways ["lens"] (defScope s_ways) := ⟨rfl, rfl, rfl, by decide +kernel, rfl, by decide +kernel, by decide +kernel⟩
abbrev s_how_many : Stmt := top 5
abbrev nm_how_many : List Str := ["lens", "total", "many"]
theorem sc_how_many : FnScope nm_how_many ["lens", "total"] (defScope s_how_many) := ⟨rfl, rfl, rfl, by decide +kernel, rfl, by decide +kernel, by decide +kernel⟩
abbrev s_choices : Stmt := top 6
abbrev nm_choices : List Str := ["lens", "total", "many", "begun", "behind", "length", "counts", "left", "count"]
theorem sc_choices : FnScope nm_choices ["lens", "total"] (defScope s_choices) := ⟨rfl, rfl, rfl, by decide +kernel, rfl, by decide +kernel, by decide +kernel⟩
abbrev s__with_one_more : Stmt := top 7
abbrev nm__with_one_more : List Str := ["many", "length", "told", "held", "total"]
theorem sc__with_one_more : FnScope nm__with_one_more ["many", "length"] (defScope s__with_one_more) := ⟨rfl, rfl, rfl, by decide +kernel, rfl, by decide +kernel, by decide +kernel⟩
abbrev s_others : Stmt := top 9
abbrev nm_others : List Str := ["marks", "mark"]
theorem sc_others : FnScope nm_others ["marks"] (defScope s_others) := ⟨rfl, rfl, rfl, by decide +kernel, rfl, by decide +kernel, by decide +kernel⟩
abbrev s_sums_knot : Stmt := top 11
abbrev nm_sums_knot : List Str := ["rows", "cap", "first", "lens", "names", "clauses", "total", "name", "meaning", "outs", "row", "_"]
theorem sc_sums_knot : FnScope nm_sums_knot ["rows", "cap", "first"] (defScope s_sums_knot) := ⟨rfl, rfl, rfl, by decide +kernel, rfl, by decide +kernel, by decide +kernel⟩
abbrev s_pairs_knot : Stmt := top 12
abbrev nm_pairs_knot : List Str := ["rows", "most", "clauses", "marks"]
theorem sc_pairs_knot : FnScope nm_pairs_knot ["rows", "most"] (defScope s_pairs_knot) := ⟨rfl, rfl, rfl, by decide +kernel, rfl, by decide +kernel, by decide +kernel⟩
abbrev s_codes_knot : Stmt := top 13
abbrev nm_codes_knot : List Str := ["rows", "first", "row", "clauses", "places", "names", "place", "number", "meaning", "name"]
theorem sc_codes_knot : FnScope nm_codes_knot ["rows", "first"] (defScope s_codes_knot) := ⟨rfl, rfl, rfl, by decide +kernel, rfl, by decide +kernel, by decide +kernel⟩
abbrev s_counted : Stmt := top 14
abbrev nm_counted : List Str := ["rows", "total", "lens", "row", "counts"]
theorem sc_counted : FnScope nm_counted ["rows", "total"] (defScope s_counted) := ⟨rfl, rfl, rfl, by decide +kernel, rfl, by decide +kernel, by decide +kernel⟩
abbrev s_clauses_of_count : Stmt := top 15
abbrev nm_clauses_of_count : List Str := ["meaning", "name", "marks"]
theorem sc_clauses_of_count : FnScope nm_clauses_of_count ["meaning", "name"] (defScope s_clauses_of_count) := ⟨rfl, rfl, rfl, by decide +kernel, rfl, by decide +kernel, by decide +kernel⟩
abbrev s__marks_at : Stmt := top 16
abbrev nm__marks_at : List Str := ["rows", "counts", "row", "count"]
theorem sc__marks_at : FnScope nm__marks_at ["rows", "counts"] (defScope s__marks_at) := ⟨rfl, rfl, rfl, by decide +kernel, rfl, by decide +kernel, by decide +kernel⟩
abbrev s__has_digit : Stmt := top 17
abbrev nm__has_digit : List Str := ["number", "place"]
theorem sc__has_digit : FnScope nm__has_digit ["number", "place"] (defScope s__has_digit) := ⟨rfl, rfl, rfl, by decide +kernel, rfl, by decide +kernel, by decide +kernel⟩
abbrev s__law_begun : Stmt := top 19
abbrev nm__law_begun : List Str := ["_law_script"]
theorem sc__law_begun : FnScope nm__law_begun ["_law_script"] (defScope s__law_begun) := ⟨rfl, rfl, rfl, by decide +kernel, rfl, by decide +kernel, by decide +kernel⟩
abbrev s__law_draw : Stmt := top 20
abbrev nm__law_draw : List Str := ["_law_tape", "_law_many", "_law_spot", "_law_most", "_law_cell", "_law_found"]
theorem sc__law_draw : FnScope nm__law_draw ["_law_tape", "_law_many"] (defScope s__law_draw) := ⟨rfl, rfl, rfl, by decide +kernel, rfl, by decide +kernel, by decide +kernel⟩
abbrev s__law_pick : Stmt := top 21
abbrev nm__law_pick : List Str := ["_law_tape", "_law_some"]
theorem sc__law_pick : FnScope nm__law_pick ["_law_tape", "_law_some"] (defScope s__law_pick) := ⟨rfl, rfl, rfl, by decide +kernel, rfl, by decide +kernel, by decide +kernel⟩
abbrev s__law_marks : Stmt := top 22
abbrev nm__law_marks : List Str := ["_law_tape", "_law_many", "_law_by", "_law_far", "_law_first", "_law_names", "_law_signs", "_law_name", "_law_k"]
theorem sc__law_marks : FnScope nm__law_marks ["_law_tape", "_law_many"] (defScope s__law_marks) := ⟨rfl, rfl, rfl, by decide +kernel, rfl, by decide +kernel, by decide +kernel⟩
abbrev s__law_rows : Stmt := top 23
abbrev nm__law_rows : List Str := ["_law_tape", "_law_many", "_law_longest", "_law_most", "_law_marks_here", "_law_rows_here", "_law_k", "_law_left", "_law_size"]
theorem sc__law_rows : FnScope nm__law_rows ["_law_tape", "_law_many", "_law_longest", "_law_most"] (defScope s__law_rows) := ⟨rfl, rfl, rfl, by decide +kernel, rfl, by decide +kernel, by decide +kernel⟩
abbrev s__law_choices : Stmt := top 24
abbrev nm__law_choices : List Str := ["_law_lens", "_law_total", "_law_found", "_law_most", "_law_longer", "_law_some", "_law_left", "_law_k"]
theorem sc__law_choices : FnScope nm__law_choices ["_law_lens", "_law_total"] (defScope s__law_choices) := ⟨rfl, rfl, rfl, by decide +kernel, rfl, by decide +kernel, by decide +kernel⟩
abbrev s__law_at : Stmt := top 25
abbrev nm__law_at : List Str := ["_law_rows_here", "_law_counts", "_law_row", "_law_count"]
theorem sc__law_at : FnScope nm__law_at ["_law_rows_here", "_law_counts"] (defScope s__law_at) := ⟨rfl, rfl, rfl, by decide +kernel, rfl, by decide +kernel, by decide +kernel⟩
abbrev s__law_turned : Stmt := top 26
abbrev nm__law_turned : List Str := ["_law_marks_here", "_law_mark"]
theorem sc__law_turned : FnScope nm__law_turned ["_law_marks_here"] (defScope s__law_turned) := ⟨rfl, rfl, rfl, by decide +kernel, rfl, by decide +kernel, by decide +kernel⟩
abbrev s__law_pairs : Stmt := top 27
abbrev nm__law_pairs : List Str := ["_law_rows_here", "_law_most", "_law_some", "_law_row", "_law_counts"]
theorem sc__law_pairs : FnScope nm__law_pairs ["_law_rows_here", "_law_most"] (defScope s__law_pairs) := ⟨rfl, rfl, rfl, by decide +kernel, rfl, by decide +kernel, by decide +kernel⟩
abbrev s__law_power : Stmt := top 28
abbrev nm__law_power : List Str := ["_law_place"]
theorem sc__law_power : FnScope nm__law_power ["_law_place"] (defScope s__law_power) := ⟨rfl, rfl, rfl, by decide +kernel, rfl, by decide +kernel, by decide +kernel⟩
abbrev s__law_codes : Stmt := top 29
abbrev nm__law_codes : List Str := ["_law_rows_here", "_law_first", "_law_names", "_law_clauses", "_law_place", "_law_at_here", "_law_some", "_law_name", "_law_row"]
theorem sc__law_codes : FnScope nm__law_codes ["_law_rows_here", "_law_first"] (defScope s__law_codes) := ⟨rfl, rfl, rfl, by decide +kernel, rfl, by decide +kernel, by decide +kernel⟩
abbrev s_law : Stmt := top 30
abbrev nm_law : List Str := ["_law_script", "_law_tape", "_law_turn", "_law_rows_here", "_law_most", "_law_kept", "_law_many", "_law_first", "_law_told", "e", "_law_mark", "_law_row"]
theorem sc_law : FnScope nm_law ["_law_script"] (defScope s_law) := ⟨rfl, rfl, rfl, by decide +kernel, rfl, by decide +kernel, by decide +kernel⟩
/-- an inner statement of a class -/
def inner (s : Stmt) (j : Nat) : Stmt := match s with
  | .ClassDef _ _ _ b _ _ _ _ _ _ _ => b.getD j (.Pass ⟨0, 0, 0, 0⟩)
  | z => z
abbrev s_TooMany___init__ : Stmt := inner (top 1) 0
abbrev nm_TooMany___init__ : List Str := ["self", "many"]
theorem sc_TooMany___init__ : FnScope nm_TooMany___init__ ["self", "many"] (defScope s_TooMany___init__) := ⟨rfl, rfl, rfl, by decide +kernel, rfl, by decide +kernel, by decide +kernel⟩
/-! ### a def that stands in the top and keeps a promise -/
structure At (K : PySem.W.Frag) (mg : Str → Option Value) (x : Str) (st : Stmt) : Prop where
  ex : ∃ f fd, mg x = some (.ref f) ∧ Fun K x x st f fd
structure Has (P : Program) (w : World) (K : PySem.W.Frag) (mg : Str → Option Value) (base : Heap) (k : Nat) (x : Str) (ps : List Str) (sp : Sp) : Prop where
  ex : ∃ f fd, mg x = some (.ref f) ∧ PySem.W.keepIn K (.ref f) = true ∧ Binds K fd ps [] ∧ FnOk P w K mg base CX0 k f fd ps sp
theorem pe_has {X : Cx} {k : Nat} {x : Str} {ps : List Str} {sp : Sp} {e : Expr} {es : List Expr} {t : TA} {p pos : Pos} (h : Has X.prog X.w X.K X.mg X.base k x ps sp) (hr : Room k X.A) (hg : Gl X x) (ha : PA X (e :: es) t)
    (hdb : (x == ("__debug__" : Str)) = false := by decide) (he : starEach (e :: es) X.env = (false, eval e X.env) :: starEach es X.env := by rfl) (hpl : (backTo pos (starEach es X.env)).any (·.1) = false := by rfl) :
    PE X (.Call (.Name x p) (e :: es) [] pos) (tCall sp [] E0 t) := by
  obtain ⟨f, fd, hm, hk, hb, F⟩ := h.ex
  exact pe_call F hr hg hm hk hb .nil pass0 ha hdb he hpl
abbrev BindsAll (x : Str) (st : Stmt) (ps : List Str) : Prop :=
  ∀ (kV doc pm : Value) (an : Option Addr) (cdv ct : Value) (us : List Value), us.length = ps.length → bindArgs (PySem.W.fnOf x x (defArgs st) (defBody st) (defScope st) .none kV doc pm an cdv ct) ⟨us, []⟩ = pure (ps.zip us)
section
variable {P : Program} {w : World} {K : PySem.W.Frag} {mg : Str → Option Value} {base : Heap}
theorem has_of {x : Str} {st : Stmt} {N ps : List Str} {k : Nat} {sp : Sp} (A : At K mg x st) (S : FnScope N ps (defScope st)) (B : BindsAll x st ps) (len : ∀ vs H Q E, sp vs H Q E → vs.length = ps.length)
    (hbody : ∀ (f : Addr) (cdv : Value) (A : Around) (outer : List Env) (s : Shared) (H : Hp) (vs : List V) (Q : VK) (E : XK), Room k (A.deeper (envOfC x (defScope st) s.heap.objs.size f cdv)) → sp vs H Q E →
      ∃ t, PSs (cxOf CX0 P w K mg base N x (defScope st) f cdv A outer s H E).nox (defBody st) t ∧ t { nx := fun _ H' => Q .non H', rt := Q } (start N vs) H) : Has P w K mg base (k + 1) x ps sp := by
  obtain ⟨f, fd, hm, F⟩ := A.ex
  exact ⟨f, fd, hm, F.kp, F.binds B, F.ok S len fun cdv A outer s H vs Q E hr h => hbody f cdv A outer s H vs Q E hr h⟩
end
theorem pe_const {X : Cx} {x : Str} {i : Int} {pos : Pos} (hm : ∃ t, X.mg x = some (.int i t)) (hg : Gl X x) (hd : (x == ("__debug__" : Str)) = false := by decide) : PE X (.Name x pos) (tC (.int i)) := by
  obtain ⟨t, hm⟩ := hm
  exact pe_glob hg hm ⟨t, rfl⟩ hd
/-! ### repr of a truth -/
def boolText (b : Bool) : Str := if b then "True" else "False"
theorem boolText_inj {a b : Bool} (h : boolText a = boolText b) : a = b := by
  cases a <;> cases b <;> first | rfl | exact absurd h (by decide +kernel)
theorem call_repr_bool {X : Cx} : CallR X (.builtin "repr") (fun xs H Q => ∃ b, xs = [.bl b] ∧ Q (.str (boolText b)) H) := by
  intro pins s σ H xs us Q I r h
  obtain ⟨b, rfl, q⟩ := h
  obtain ⟨u, rfl, ru⟩ := vals1 r
  cases ru
  cases b with
  | true => exact PySem.P.repr_of_bool ⟨.str (boolText true), H, I.tok _, ⟨_, rfl⟩, q⟩
  | false => exact PySem.P.repr_of_bool ⟨.str (boolText false), H, I.tok _, ⟨_, rfl⟩, q⟩
/-! ### heaps -/
/-- all that is known stays, but for what stands at t -/
def Kp (t : Addr) (H H' : Hp) : Prop := ∀ b o, H b = some o → b ≠ t → H' b = some o
theorem Kp.refl {t : Addr} (H : Hp) : Kp t H H := fun _ _ h _ => h
theorem Kp.trans {t : Addr} {H H1 H2 : Hp} (a : Kp t H H1) (b : Kp t H1 H2) : Kp t H H2 := fun c o h n => b c o (a c o h n) n
theorem Kp.new {t p : Addr} {H : Hp} {o : HO} (h : H p = none) : Kp t H (upd H p o) := fun b u e _ => by
  rw [upd_ne (ne_of_none e h)]
  exact e
theorem Kp.at {t : Addr} {H : Hp} {o : HO} : Kp t H (upd H t o) := fun b u e n => by
  rw [upd_ne n]
  exact e
theorem Kp.same {t : Addr} {H H' : Hp} (s : Same H H') : Kp t H H' := fun b o e _ => s b o e
theorem same_new {H : Hp} {p : Addr} {o : HO} (h : H p = none) : Same H (upd H p o) := fun b u e => by
  rw [upd_ne (ne_of_none e h)]
  exact e
/-! ### the tape -/
def tk (c : Addr) (spot left : Int) : List (Key × V) := [(.inr "cells", .ref c), (.inr "spot", .int spot), (.inr "left", .int left)]
structure TapeC (H : Hp) (t c : Addr) (ns : List Int) (spot left : Int) : Prop where
  d : H t = some (.dK (tk c spot left))
  l : H c = some (.lst (ns.map V.int))
  ne : 0 < ns.length
  lt : ns.length ≤ 63
  s0 : 0 ≤ spot
  l0 : 0 ≤ left
/-- a tape at t, its cells at c, of which at most n draws are taken -/
def Tape (H : Hp) (t c : Addr) (n : Nat) : Prop := ∃ ns spot left, TapeC H t c ns spot left ∧ spot ≤ n
theorem Tape.ne {H : Hp} {t c : Addr} {n : Nat} (h : Tape H t c n) : t ≠ c := by
  obtain ⟨ns, spot, left, h, _⟩ := h
  exact ne_of h.d h.l (by intro z; cases z)
theorem Tape.le {H : Hp} {t c : Addr} {n m : Nat} (h : Tape H t c n) (l : n ≤ m) : Tape H t c m := by
  obtain ⟨ns, spot, left, h, e⟩ := h
  exact ⟨ns, spot, left, h, by omega⟩
theorem Tape.stay {H H' : Hp} {t c : Addr} {n : Nat} (h : Tape H t c n) (k : ∀ b o, H b = some o → b = t ∨ b = c → H' b = some o) : Tape H' t c n := by
  obtain ⟨ns, spot, left, h, e⟩ := h
  exact ⟨ns, spot, left, ⟨k _ _ h.d (.inl rfl), k _ _ h.l (.inr rfl), h.ne, h.lt, h.s0, h.l0⟩, e⟩
theorem Tape.same {H H' : Hp} {t c : Addr} {n : Nat} (h : Tape H t c n) (s : Same H H') : Tape H' t c n := h.stay fun b o e _ => s b o e
theorem Tape.new {H : Hp} {t c p : Addr} {n : Nat} {o : HO} (h : Tape H t c n) (hp : H p = none) : Tape (upd H p o) t c n := h.same (same_new hp)
theorem Tape.at_t {H : Hp} {t c : Addr} {n : Nat} (h : Tape H t c n) : ∃ o, H t = some o := by
  obtain ⟨ns, spot, left, h, _⟩ := h
  exact ⟨_, h.d⟩
theorem Tape.at_c {H : Hp} {t c : Addr} {n : Nat} (h : Tape H t c n) : ∃ o, H c = some o := by
  obtain ⟨ns, spot, left, h, _⟩ := h
  exact ⟨_, h.l⟩
theorem k_cells : ¬ (("cells" : Str) = "spot") := by decide +kernel
theorem k_cells2 : ¬ (("cells" : Str) = "left") := by decide +kernel
theorem k_spot : ¬ (("spot" : Str) = "left") := by decide +kernel
theorem tk_cells (c : Addr) (a b : Int) : valV (tk c a b) (Sum.inr "cells" : Key) = some (.ref c) := valV_pos rfl
theorem tk_spot (c : Addr) (a b : Int) : valV (tk c a b) (Sum.inr "spot" : Key) = some (.int a) := by
  unfold tk
  rw [valV_neg (fun e => k_cells (Sum.inr.inj e)), valV_pos rfl]
theorem tk_left (c : Addr) (a b : Int) : valV (tk c a b) (Sum.inr "left" : Key) = some (.int b) := by
  unfold tk
  rw [valV_neg (fun e => k_cells2 (Sum.inr.inj e)), valV_neg (fun e => k_spot (Sum.inr.inj e)), valV_pos rfl]
theorem tk_put_spot (c : Addr) (a b x : Int) : putK (tk c a b) (Sum.inr "spot" : Key) (.int x) = tk c x b := by
  rfl
theorem tk_put_left (c : Addr) (a b x : Int) : putK (tk c a b) (Sum.inr "left" : Key) (.int x) = tk c a x := by
  rfl
theorem dg_cells {H : Hp} {t c : Addr} {a b : Int} (h : H t = some (.dK (tk c a b))) : DGet H t (.str "cells") (some (.ref c)) := by
  have g := DGet.k (k := (Sum.inr "cells" : Key)) h
  rw [tk_cells] at g
  exact g
theorem dg_spot {H : Hp} {t c : Addr} {a b : Int} (h : H t = some (.dK (tk c a b))) : DGet H t (.str "spot") (some (.int a)) := by
  have g := DGet.k (k := (Sum.inr "spot" : Key)) h
  rw [tk_spot] at g
  exact g
theorem dg_left {H : Hp} {t c : Addr} {a b : Int} (h : H t = some (.dK (tk c a b))) : DGet H t (.str "left") (some (.int b)) := by
  have g := DGet.k (k := (Sum.inr "left" : Key)) h
  rw [tk_left] at g
  exact g
theorem dp_spot {H : Hp} {t c : Addr} {a b : Int} (x : Int) (h : H t = some (.dK (tk c a b))) : DPut H t (.str "spot") (.int x) (upd H t (.dK (tk c x b))) := by
  have g := DPut.k (k := (Sum.inr "spot" : Key)) (v := .int x) h (small1000 (by show 3 ≤ 1000; decide))
  rw [tk_put_spot] at g
  exact g
theorem dp_left {H : Hp} {t c : Addr} {a b : Int} (x : Int) (h : H t = some (.dK (tk c a b))) : DPut H t (.str "left") (.int x) (upd H t (.dK (tk c a x))) := by
  have g := DPut.k (k := (Sum.inr "left" : Key)) (v := .int x) h (small1000 (by show 3 ≤ 1000; decide))
  rw [tk_put_left] at g
  exact g
theorem Tape.fresh {H : Hp} {t c p : Addr} {n : Nat} (h : Tape H t c n) (hp : H p = none) : p ≠ t := by
  obtain ⟨o, e⟩ := h.at_t
  exact (ne_of_none e hp).symm
theorem Tape.fresh_c {H : Hp} {t c p : Addr} {n : Nat} (h : Tape H t c n) (hp : H p = none) : p ≠ c := by
  obtain ⟨o, e⟩ := h.at_c
  exact (ne_of_none e hp).symm
/-! ### a list beside the empty list -/
section
variable {X : Cx}
def rEqNil (K : PySem.W.Frag) (neg : Bool) : R2 := fun x y H Q => ∃ a b xs, x = .ref a ∧ y = .ref b ∧ SqL K H a xs ∧ SqL K H b [] ∧ Q (.bl (if neg = true then !xs.isEmpty else xs.isEmpty)) H
theorem op_eqNil (hu : X.A.units + 1 < cLine) : OpR X (compareOp .Eq) (rEqNil X.K false) := by
  intro pins s σ H x y v u Q I rx ry h
  obtain ⟨a, b, xs, rfl, rfl, ha, hb, q⟩ := h
  cases rx
  cases ry
  obtain ⟨us, vs, pl, _⟩ := I.list ha
  obtain ⟨ws, vs2, pl2, _⟩ := I.list hb
  cases vs2
  have l := vs.length
  cases xs with
  | nil =>
    cases vs
    exact SeqAt.RcAt.lists (e := fun _ => true) pl.isList pl2.isList rfl (by omega) (fun j h1 => absurd h1 (Nat.not_lt_zero _)) _ _ _ _ ⟨.bl true, H, I, rfl, q⟩
  | cons z zs => exact SeqAt.RcAt.lists_lengths pl.isList pl2.isList (by rw [List.size_toArray, ← l]; rfl) (by omega) _ _ _ _ ⟨.bl false, H, I, rfl, q⟩
theorem op_neNil (hu : X.A.units + 1 < cLine) : OpR X (compareOp .NotEq) (rEqNil X.K true) := by
  intro pins s σ H x y v u Q I rx ry h
  obtain ⟨a, b, xs, rfl, rfl, ha, hb, q⟩ := h
  cases rx
  cases ry
  obtain ⟨us, vs, pl, _⟩ := I.list ha
  obtain ⟨ws, vs2, pl2, _⟩ := I.list hb
  cases vs2
  have l := vs.length
  cases xs with
  | nil =>
    cases vs
    exact SeqAt.RcNeAt.lists (e := fun _ => true) pl.isList pl2.isList rfl (by omega) (fun j h1 => absurd h1 (Nat.not_lt_zero _)) _ _ _ _ ⟨.bl false, H, I, rfl, q⟩
  | cons z zs => exact SeqAt.RcNeAt.lists_lengths pl.isList pl2.isList (by rw [List.size_toArray, ← l]; rfl) (by omega) _ _ _ _ ⟨.bl true, H, I, rfl, q⟩
end
/-! ### comprehensions that leave what is known as it is -/
theorem take_sel {α β : Type} (t : α → Bool) (f : α → β) {xs : List α} {i : Nat} {x : α} (h : xs[i]? = some x) :
    ((xs.take (i + 1)).filter t).map f = ((xs.take i).filter t).map f ++ (if t x = true then [f x] else []) := by
  rw [List.take_add_one, h, List.filter_append, List.map_append]
  by_cases ht : t x = true
  · rw [if_pos ht]
    simp [ht]
  · rw [if_neg ht]
    simp [ht]
section
variable {K : PySem.W.Frag} {a : Addr} {xs : List V} {tt : TT} {te : TE} {vs : List Nat} {σ : L2.St} {H : Hp} {D : Addr} {Qd : Hp → Prop} {j : Nat}
/-- what a turn asks: the test, the item -/
structure SelT (H : Hp) (σ : L2.St) (vs : List Nat) (j : Nat) (tt : TT) (te : TE) (x : V) (b : Bool) (y : V) : Prop where
  wip : wipe ((wipe σ vs).set j (some x)) vs = wipe σ vs
  tst : ∀ H', Same H H' → ∀ R : Bool → Hp → Prop, (∀ H'', Same H' H'' → R b H'') → tt ((wipe σ vs).set j (some x)) H' R
  elt : b = true → ∀ H', Same H H' → ∀ R : VK, (∀ H'', Same H' H'' → R y H'') → te ((wipe σ vs).set j (some x)) H' R
theorem sel_turn {x y : V} {b : Bool} {acc : List V} {H' : Hp} {P : Hp → Prop} (hD : H D = none) (s : SelT H σ vs j tt te x b y) (hs : Same H H') (ha : H' D = some (.lst acc)) (hz : acc.length < sizeLine)
    (k : ∀ H'', Same H H'' → H'' D = some (.lst (acc ++ (if b = true then [y] else []))) → P H'') :
    gName j x (wipe σ vs) H' fun σ2 H2 => wipe σ2 vs = wipe σ vs ∧ tt σ2 H2 fun c H3 => if c = true then te σ2 H3 fun y H4 => ∃ acc, H4 D = some (.lst acc) ∧ acc.length < sizeLine ∧ P (upd H4 D (.lst (acc ++ [y]))) else P H3 := by
  refine ⟨s.wip, s.tst H' hs _ fun H3 s3 => ?_⟩
  have h3 := s3 D _ ha
  cases b with
  | false =>
    refine iteF (k H3 (hs.trans s3) ?_)
    rw [h3, if_neg Bool.false_ne_true, List.append_nil]
  | true =>
    refine iteT (s.elt rfl H3 (hs.trans s3) _ fun H4 s4 => ⟨acc, s4 D _ h3, hz, k _ (fun c o e => ?_) ?_⟩)
    · rw [upd_ne (ne_of_none e hD)]
      exact s4 c o (s3 c o (hs c o e))
    · rw [upd_same, if_pos rfl]
theorem lc_sel_list (t : V → Bool) (f : V → V) (hx : SqL K H a xs) (hD : H D = none) (hz : xs.length ≤ 1000000) (hs : ∀ x ∈ xs, SelT H σ vs j tt te x (t x) (f x)) (k : ∀ H', Same H H' → H' D = some (.lst ((xs.filter t).map f)) → Qd H') :
    ∃ W : Nat → Nat → Hp → Prop, (∃ m, W 0 m (upd H D (.lst []))) ∧ ∀ i m H, W i m H →
      ((Itl K a).stop i H ∧ Qd H) ∨ ((Itl K a).go i H ∧ ∃ Nx : Hp → Prop, (∀ H', Nx H' → ∃ m', m' < m ∧ W (i + 1) m' H') ∧ ∀ x H', (Itl K a).yld i H x H' → gName j x (wipe σ vs) H' fun σ2 H2 => wipe σ2 vs = wipe σ vs ∧ tt σ2 H2 fun b H3 =>
        if b = true then te σ2 H3 fun y H4 => ∃ acc, H4 D = some (.lst acc) ∧ acc.length < sizeLine ∧ Nx (upd H4 D (.lst (acc ++ [y]))) else Nx H3) := by
  have line : 1000000 < sizeLine := by decide
  refine lc_list (xs := xs) (fun i H' => Same H H' ∧ H' D = some (.lst (((xs.take i).filter t).map f))) ⟨same_new hD, upd_same⟩ (fun i H' _ p => p.1.seq hx) (fun i x H' hi p => ?_) fun H' p => k H' p.1 (by rw [p.2, List.take_length])
  refine sel_turn hD (hs x (List.mem_of_getElem? hi)) p.1 p.2 ?_ fun H'' s'' e => ⟨s'', by rw [e, take_sel t f hi]⟩
  have l1 := List.length_filter_le t (xs.take i)
  have l2 := List.length_take_le i xs
  have l3 : (xs.take i).length ≤ xs.length := by rw [List.length_take]; omega
  rw [List.length_map]
  omega
theorem Same.seqT {H H' : Hp} (e : Same H H') (h : SqT K H a xs) : SqT K H' a xs := by
  rcases h with (h | ⟨o, h⟩) | h
  · exact .inl (.inl (e _ _ h))
  · exact .inl (.inr ⟨o, e _ _ h⟩)
  · exact .inr h
theorem lc_sel_tup (t : V → Bool) (f : V → V) (hx : SqT K H a xs) (hD : H D = none) (hz : xs.length ≤ 1000000) (hs : ∀ x ∈ xs, SelT H σ vs j tt te x (t x) (f x)) (k : ∀ H', Same H H' → H' D = some (.lst ((xs.filter t).map f)) → Qd H') :
    ∃ W : Nat → Nat → Hp → Prop, (∃ m, W 0 m (upd H D (.lst []))) ∧ ∀ i m H, W i m H →
      ((Itt K a).stop i H ∧ Qd H) ∨ ((Itt K a).go i H ∧ ∃ Nx : Hp → Prop, (∀ H', Nx H' → ∃ m', m' < m ∧ W (i + 1) m' H') ∧ ∀ x H', (Itt K a).yld i H x H' → gName j x (wipe σ vs) H' fun σ2 H2 => wipe σ2 vs = wipe σ vs ∧ tt σ2 H2 fun b H3 =>
        if b = true then te σ2 H3 fun y H4 => ∃ acc, H4 D = some (.lst acc) ∧ acc.length < sizeLine ∧ Nx (upd H4 D (.lst (acc ++ [y]))) else Nx H3) := by
  have line : 1000000 < sizeLine := by decide
  refine lc_tup (xs := xs) (fun i H' => Same H H' ∧ H' D = some (.lst (((xs.take i).filter t).map f))) ⟨same_new hD, upd_same⟩ (fun i H' _ p => Same.seqT p.1 hx) (fun i x H' hi p => ?_) fun H' p => k H' p.1 (by rw [p.2, List.take_length])
  refine sel_turn hD (hs x (List.mem_of_getElem? hi)) p.1 p.2 ?_ fun H'' s'' e => ⟨s'', by rw [e, take_sel t f hi]⟩
  have l1 := List.length_filter_le t (xs.take i)
  have l3 : (xs.take i).length ≤ xs.length := by rw [List.length_take]; omega
  rw [List.length_map]
  omega
theorem take_range {n i : Nat} (h : i < n) : (List.range n)[i]? = some i := by
  rw [List.getElem?_range h]
theorem lc_sel_range {lo : Int} {n : Nat} (t : Nat → Bool) (f : Nat → V) (hD : H D = none) (hz : n ≤ 1000000) (hs : ∀ i, i < n → SelT H σ vs j tt te (.int (lo + i)) (t i) (f i)) (k : ∀ H', Same H H' → H' D = some (.lst (((List.range n).filter t).map f)) → Qd H') :
    ∃ W : Nat → Nat → Hp → Prop, (∃ m, W 0 m (upd H D (.lst []))) ∧ ∀ i m H, W i m H →
      ((Itr lo n).stop i H ∧ Qd H) ∨ ((Itr lo n).go i H ∧ ∃ Nx : Hp → Prop, (∀ H', Nx H' → ∃ m', m' < m ∧ W (i + 1) m' H') ∧ ∀ x H', (Itr lo n).yld i H x H' → gName j x (wipe σ vs) H' fun σ2 H2 => wipe σ2 vs = wipe σ vs ∧ tt σ2 H2 fun b H3 =>
        if b = true then te σ2 H3 fun y H4 => ∃ acc, H4 D = some (.lst acc) ∧ acc.length < sizeLine ∧ Nx (upd H4 D (.lst (acc ++ [y]))) else Nx H3) := by
  have line : 1000000 < sizeLine := by decide
  refine lc_range (fun i H' => Same H H' ∧ H' D = some (.lst ((((List.range n).take i).filter t).map f))) ⟨same_new hD, upd_same⟩ (fun i H' hi p => ?_) fun H' p => k H' p.1 (by rw [p.2, List.take_of_length_le (by rw [List.length_range]; omega)])
  refine sel_turn hD (hs i hi) p.1 p.2 ?_ fun H'' s'' e => ⟨s'', by rw [e, take_sel t f (take_range hi)]⟩
  have l1 := List.length_filter_le t ((List.range n).take i)
  have l3 : ((List.range n).take i).length ≤ n := by rw [List.length_take, List.length_range]; omega
  rw [List.length_map]
  omega
end
theorem filter_all {α : Type} (xs : List α) : xs.filter (fun _ => true) = xs := List.filter_eq_self.mpr fun _ _ => rfl
theorem Kp.free {t D : Addr} {H H' : Hp} (k : Kp t H H') (h : H' D = none) (n : D ≠ t) : H D = none := by
  cases e : H D with
  | none => rfl
  | some o =>
    rw [k D o e n] at h
    cases h
theorem Kp.mut {t p : Addr} {H H' : Hp} {o : HO} (k : Kp t H H') (h : H p = none) : Kp t H (upd H' p o) := fun b u e n => by
  rw [upd_ne (ne_of_none e h)]
  exact k b u e n
theorem Tape.mut {H : Hp} {t c p : Addr} {n : Nat} {o : HO} (h : Tape H t c n) (n1 : p ≠ t) (n2 : p ≠ c) : Tape (upd H p o) t c n := h.stay fun b u e z => by
  rw [upd_ne]
  · exact e
  · rcases z with rfl | rfl
    · exact n1.symm
    · exact n2.symm
theorem yes_go {σ : L2.St} {H : Hp} {A B : Hp → Prop} (h : A H) : tYes σ H (fun b H' => if b = true then A H' else B H') := by
  show (if true = true then A H else B H)
  rw [if_pos rfl]
  exact h
/-! ### d.update(e) of two dicts -/
theorem mt_update {X : Cx} : MtR X "dict.update" (fun x xs H Q => ∃ (a b : Addr) (ks ms : List (Key × V)), x = .ref a ∧ xs = [.ref b] ∧ H a = some (.dK ks) ∧ H b = some (.dK ms) ∧ a ≠ b ∧ ks.length + ms.length ≤ sizeLine ∧
    Q .non (upd H a (.dK (mergeK ks ms)))) := by
  intro pins s σ H x xs v us Q I rx rxs h
  obtain ⟨a, b, ks, ms, rfl, rfl, ha, hb, ne, few, q⟩ := h
  cases rx
  obtain ⟨u, rfl, ru⟩ := vals1 rxs
  cases ru
  obtain ⟨za, da, va, ra, dda⟩ := dk_of I.hok ha
  obtain ⟨zb, db, vb, rb, ddb⟩ := dk_of I.hok hb
  refine call_meetsIn PySem.F.slot_dict_update dda.typeIs PySem.F.entry_dict_update (PySem.F.args_dict_update_2 _ _) (meets_dict_update (mixKind X.prog X.w) a b ne db) ⟨va, vb, dda, ddb, by rw [← ra.length, ← rb.length]; exact few, fun h' d1 d2 same => ?_⟩
  have there : ∃ o, h'.get? a = some o := by
    obtain ⟨o, _, _, ho, _⟩ := id d1
    exact ⟨o, ho⟩
  have small : (mergeK ks ms).length ≤ sizeLine := Nat.le_trans (length_mergeK ms ks) few
  exact ⟨.non, _, d_write (t' := s.toks) I (by rw [ha]; exact True.intro) same there (dk_new small da (rb.merge ra) d1), rfl, q⟩
/-! ### rules whose reading names the written part, for use within a comprehension -/
section
variable {X : Cx} {K : PySem.W.Frag}
theorem op_inK (h : X.K = K) : OpR X (compareOp .In) (rIn K false) := h ▸ op_in_seq
theorem op_notInK (h : X.K = K) : OpR X (compareOp .NotIn) (rIn K true) := h ▸ op_notIn_seq
theorem op_eqNilK (h : X.K = K) (hu : X.A.units + 1 < cLine) : OpR X (compareOp .Eq) (rEqNil K false) := h ▸ op_eqNil hu
theorem op_neNilK (h : X.K = K) (hu : X.A.units + 1 < cLine) : OpR X (compareOp .NotEq) (rEqNil K true) := h ▸ op_neNil hu
theorem ix_listK (h : X.K = K) : IxR X (rIxL K) := h ▸ ix_list
theorem ix_tupK (h : X.K = K) : IxR X (rIxT K) := h ▸ ix_tup
theorem ix_seqK (h : X.K = K) : IxR X (rIx K) := h ▸ ix_seq
theorem len_seqK (h : X.K = K) : CallR X (.builtin "len") (fun xs H Q => ∃ p ys, xs = [.ref p] ∧ (SqL K H p ys ∨ SqT K H p ys) ∧ Q (.int (ys.length : Nat)) H) := h ▸ call_len_seq
theorem pi_listK {tg l : Expr} {tl : TE} (h : X.K = K) (hl : PE X l tl) : PI X tg l (iList K tl) := h ▸ pi_list hl
theorem pi_tupK {tg l : Expr} {tl : TE} (h : X.K = K) (hl : PE X l tl) : PI X tg l (iTup K tl) := h ▸ pi_tup hl
theorem sl_listK (h : X.K = K) : SlR X (rSlL K) := h ▸ sl_list
theorem sl_tupK (h : X.K = K) : SlR X (rSlT K) := h ▸ sl_tup
theorem cr_sumK (h : X.K = K) (hc : X.calm = true) : CallR X (.builtin "sum") (rSum K) := h ▸ cr_sum hc
theorem cr_maxL (h : X.K = K) (hc : X.calm = true) : CallR X (.builtin "max") (rMax K) := h ▸ cr_max hc
theorem cr_minL (h : X.K = K) (hc : X.calm = true) : CallR X (.builtin "min") (rMin K) := h ▸ cr_min hc
theorem cr_allK (h : X.K = K) (hc : X.calm = true) : CallR X (.builtin "all") (rAll K) := h ▸ cr_all hc
theorem cr_anyK (h : X.K = K) (hc : X.calm = true) : CallR X (.builtin "any") (rAny K) := h ▸ cr_any hc
theorem call_list_ofK (h : X.K = K) : CallR X (.type "list") (fun xs H Q => ∃ p ys, xs = [.ref p] ∧ (SqL K H p ys ∨ SqT K H p ys) ∧ ∀ l, H l = none → Q (.ref l) (upd H l (.lst ys))) := h ▸ call_list_of
theorem call_tuple_ofK (h : X.K = K) : CallR X (.type "tuple") (fun xs H Q => ∃ p ys, xs = [.ref p] ∧ ((SqL K H p ys ∧ ∀ l, H l = none → Q (.ref l) (upd H l (.tup ys))) ∨ (SqT K H p ys ∧ Q (.ref p) H))) := h ▸ call_tuple_of
theorem op_catTK (h : X.K = K) : OpR X (binaryOp .Add) (rCatT K) := h ▸ op_catT
end
theorem bd_ways : BindsAll "ways" s_ways ["lens"] := fun _ _ _ _ _ _ us hl => match us, hl with | [_], _ => rfl
theorem bd_how_many : BindsAll "how_many" s_how_many ["lens", "total"] := fun _ _ _ _ _ _ us hl => match us, hl with | [_, _], _ => rfl
theorem bd_choices : BindsAll "choices" s_choices ["lens", "total"] := fun _ _ _ _ _ _ us hl => match us, hl with | [_, _], _ => rfl
theorem bd__with_one_more : BindsAll "_with_one_more" s__with_one_more ["many", "length"] := fun _ _ _ _ _ _ us hl => match us, hl with | [_, _], _ => rfl
theorem bd_others : BindsAll "others" s_others ["marks"] := fun _ _ _ _ _ _ us hl => match us, hl with | [_], _ => rfl
theorem bd_sums_knot : BindsAll "sums_knot" s_sums_knot ["rows", "cap", "first"] := fun _ _ _ _ _ _ us hl => match us, hl with | [_, _, _], _ => rfl
theorem bd_pairs_knot : BindsAll "pairs_knot" s_pairs_knot ["rows", "most"] := fun _ _ _ _ _ _ us hl => match us, hl with | [_, _], _ => rfl
theorem bd_codes_knot : BindsAll "codes_knot" s_codes_knot ["rows", "first"] := fun _ _ _ _ _ _ us hl => match us, hl with | [_, _], _ => rfl
theorem bd_counted : BindsAll "counted" s_counted ["rows", "total"] := fun _ _ _ _ _ _ us hl => match us, hl with | [_, _], _ => rfl
theorem bd_clauses_of_count : BindsAll "clauses_of_count" s_clauses_of_count ["meaning", "name"] := fun _ _ _ _ _ _ us hl => match us, hl with | [_, _], _ => rfl
theorem bd__marks_at : BindsAll "_marks_at" s__marks_at ["rows", "counts"] := fun _ _ _ _ _ _ us hl => match us, hl with | [_, _], _ => rfl
theorem bd__has_digit : BindsAll "_has_digit" s__has_digit ["number", "place"] := fun _ _ _ _ _ _ us hl => match us, hl with | [_, _], _ => rfl
theorem bd__law_begun : BindsAll "_law_begun" s__law_begun ["_law_script"] := fun _ _ _ _ _ _ us hl => match us, hl with | [_], _ => rfl
theorem bd__law_draw : BindsAll "_law_draw" s__law_draw ["_law_tape", "_law_many"] := fun _ _ _ _ _ _ us hl => match us, hl with | [_, _], _ => rfl
theorem bd__law_pick : BindsAll "_law_pick" s__law_pick ["_law_tape", "_law_some"] := fun _ _ _ _ _ _ us hl => match us, hl with | [_, _], _ => rfl
theorem bd__law_marks : BindsAll "_law_marks" s__law_marks ["_law_tape", "_law_many"] := fun _ _ _ _ _ _ us hl => match us, hl with | [_, _], _ => rfl
theorem bd__law_rows : BindsAll "_law_rows" s__law_rows ["_law_tape", "_law_many", "_law_longest", "_law_most"] := fun _ _ _ _ _ _ us hl => match us, hl with | [_, _, _, _], _ => rfl
theorem bd__law_choices : BindsAll "_law_choices" s__law_choices ["_law_lens", "_law_total"] := fun _ _ _ _ _ _ us hl => match us, hl with | [_, _], _ => rfl
theorem bd__law_at : BindsAll "_law_at" s__law_at ["_law_rows_here", "_law_counts"] := fun _ _ _ _ _ _ us hl => match us, hl with | [_, _], _ => rfl
theorem bd__law_turned : BindsAll "_law_turned" s__law_turned ["_law_marks_here"] := fun _ _ _ _ _ _ us hl => match us, hl with | [_], _ => rfl
theorem bd__law_pairs : BindsAll "_law_pairs" s__law_pairs ["_law_rows_here", "_law_most"] := fun _ _ _ _ _ _ us hl => match us, hl with | [_, _], _ => rfl
theorem bd__law_power : BindsAll "_law_power" s__law_power ["_law_place"] := fun _ _ _ _ _ _ us hl => match us, hl with | [_], _ => rfl
theorem bd__law_codes : BindsAll "_law_codes" s__law_codes ["_law_rows_here", "_law_first"] := fun _ _ _ _ _ _ us hl => match us, hl with | [_, _], _ => rfl
theorem bd_law : BindsAll "law" s_law ["_law_script"] := fun _ _ _ _ _ _ us hl => match us, hl with | [_], _ => rfl
/-! ### making an exception of an own class, over any of the builtin ones -/
/-- by which __new__ an own class is made, and what its mro must tell -/
structure NewBy (bm : List Value) (nB newId : String) : Prop where
  f : ∃ i l, ExcBaseFacts nB newId i l
  b : bm.contains (.type nB) = true
  a : bm.contains (.type "AttributeError") = false
  n : bm.contains (.type "NameError") = false
section
variable {M : Model} {A : Around} {E : Value → Shared → Prop} {h : Heap} {g : Array GenState} {d : Drawn} {t : Nat} {os : OsState}
variable {nm q : Str} {C N : Addr} {bs bm : List Value} {hdct : Bool} {sn : List Str} {sub : List Value} {ab : Bool} {col : Option Bool} {dd : Option Addr} {k0 k1 k2 k3 k5 : Option Value} {nB newId iB initId : String}
theorem new_checked (Y : NewBy bm nB newId) {rest : List Value} {Q : Unit → Shared → Prop} (o : h.get? C = some (excClassObj nm q C N bs bm hdct sn sub ab col dd k0 k1 k2 k3 k5 newId))
    (k : Q () ⟨h, g, d, t, os⟩) : wpAny M A (checkBuiltinCall newId ⟨.ref C :: rest, []⟩) Q E ⟨h, g, d, t, os⟩ := by
  obtain ⟨⟨i, l, F⟩, yb, _, _⟩ := Y
  have own : (Value.ref C :: bm).contains (.type nB) = true := by
    rw [List.contains_cons, yb]
    exact Bool.or_true _
  have star := F.noStar
  simp only [F.newRow, F.newSplit, F.newKind, checkBuiltinCall]
  repeat (first
    | refine wpAny_loadPart_at o ?_
    | (refine wpAny_isSubtype_exc o ?_; rw [own])
    | refine wpAny_staticBase_exc o ?_
    | refine wpAny_madeBy_exc o ?_
    | simp only [Bool.false_eq_true, if_false, bne_self_eq_false]
    | wp_step)
  exact k
end
section
variable {prog : Program} {w : World} {A : Around} {E : Value → Shared → Prop} {R : Result → Shared → Prop} {h : Heap} {g : Array GenState} {d : Drawn} {t : Nat} {os : OsState}
variable {nm q : Str} {C N : Addr} {bs bm : List Value} {hdct : Bool} {sn : List Str} {sub : List Value} {ab : Bool} {col : Option Bool} {dd : Option Addr} {k0 k1 k2 k3 k5 : Option Value} {nB newId iB initId : String}
/-- the new object, its args aside -/
abbrev bare (C t : Addr) : Obj := { cls := .ref C, data := .fields #[.ref t, .none, .none, .none, .bool false, .none] }
theorem new_made (Y : NewBy bm nB newId) {rest : List Value} (o : h.get? C = some (excClassObj nm q C N bs bm hdct sn sub ab col dd k0 k1 k2 k3 k5 newId))
    (k : R (.ok (.ret (.ref (h.objs.size + 1)))) ⟨(h.push (PySem.W.kdv_tup rest)).push (bare C h.objs.size), g, d, t, os⟩) (few : rest.length ≤ sizeLine) :
    codeAny (model prog w) A (.builtin newId ⟨.ref C :: rest, []⟩) R ⟨h, g, d, t, os⟩ := by
  obtain ⟨⟨i, l, F⟩, yb, ya, yn⟩ := Y
  have e1 := F.ends
  have m1 : (Value.ref C :: bm).contains (.type nB) = true := by
    rw [List.contains_cons, yb]
    exact Bool.or_true _
  have m2 : (Value.ref C :: bm).contains (.type "AttributeError") = false := by
    rw [List.contains_cons, ya]
    rfl
  have m3 : (Value.ref C :: bm).contains (.type "NameError") = false := by
    rw [List.contains_cons, yn]
    rfl
  refine codeAny_builtinAt F.entry ?_
  unfold Builtin.«BaseException.__new__»
  refine PySem.wpAt_bind ?_
  show PySem.wpAt _ _ _ (stack >>= _) _ _ _
  refine PySem.wpAt_bind (PySem.wpAt_stack fun p1 p2 => PySem.wpAt_of_wpAny ?_)
  wp_walk
  refine PySem.wpAt_of_wpAny ?_
  rw [F.owner]
  repeat (first
    | with_reducible refine wpAny_madeHere_exc F.canon o ?_
    | with_reducible refine wpAny_loadPart_at o ?_
    | (with_reducible refine wpAny_isSubtype_exc o ?_; first | rw [m1] | rw [m2] | rw [m3])
    | wp_step)
  show R _ _
  rw [Heap.size_push]
  exact k
theorem type_made (Y : NewBy bm nB newId) {rest : List Value} {fI : Addr} {Q : Fin → Shared → Prop} (o : h.get? C = some (excClassObj nm q C N bs bm hdct sn sub ab col dd k0 k1 k2 k3 k5 newId))
    (hi : PySem.W.Looks (model prog w) h (typeLookup (.ref C) "__init__") (some (.ref fI))) (hb : ∀ x, PySem.W.Looks (model prog w) h (bindSpecial (.ref fI) x) (.ref fI, [x])) (few : rest.length ≤ sizeLine)
    (k : codeAny (model prog w) A (.call (.ref fI) ⟨.ref (h.objs.size + 1) :: rest, []⟩) (fun r s' => match r with | .ok (.ret v) => v = .none ∧ Q (.done (.ret (.ref (h.objs.size + 1)))) s' | .ok _ => False | .error e => E e s')
      ⟨(h.push (PySem.W.kdv_tup rest)).push (bare C h.objs.size), g, d, t, os⟩) :
    wpAny (model prog w) A (Builtin.«type.__call__» ⟨.ref C :: rest, []⟩) Q E ⟨h, g, d, t, os⟩ := by
  obtain ⟨i, l, F⟩ := Y.f
  repeat (first
    | with_reducible refine wpAny_loadPart_at o ?_
    | with_reducible refine wpAny_madeBy_exc o ?_
    | wp_step)
  refine codeAny_call_builtin_code (Code.quiet_builtin _ F.quiet) (new_checked Y o ?_)
  refine new_made Y o ?_ few
  show wpAny _ _ _ _ _ _
  have up : ∀ b u, h.get? b = some u → ((h.push (PySem.W.kdv_tup rest)).push (bare C h.objs.size)).get? b = some u := fun b u e => Heap.get?_push_of_some _ (Heap.get?_push_of_some _ e)
  have o2 := up _ _ o
  have at2 : ((h.push (PySem.W.kdv_tup rest)).push (bare C h.objs.size)).get? (h.objs.size + 1) = some (bare C h.objs.size) := by heap_get
  have self : (Value.ref C :: bm).contains (.ref C) = true := by simp
  have i2 := hi.keeps up
  have b2 := (hb (.ref (h.objs.size + 1))).keeps up
  unfold isInstance
  repeat (first
    | with_reducible refine wpAny_loadPart_at at2 ?_
    | (with_reducible refine wpAny_isSubtype_exc o2 ?_; rw [self])
    | wp_step)
  show wpAny _ _ (typeLookup (.ref C) _) _ _ _
  refine i2.at ?_
  refine wpAny_holding (wpAny_bind (b2.at ?_))
  refine wpAny_bind (wpAny_call (codeAny_mono k fun r s2 z => ?_))
  rcases r with e | (v | _ | _ | _)
  all_goals first
    | exact z
    | exact z.elim
    | skip
  obtain ⟨rfl, z⟩ := z
  first
    | exact wpAny_pure (wpAny_pure z)
    | (wp_walk; done)
    | (wp_walk; exact z)
theorem call_made (Y : NewBy bm nB newId) {rest : List Value} {fI : Addr} (o : h.get? C = some (excClassObj nm q C N bs bm hdct sn sub ab col dd k0 k1 k2 k3 k5 newId))
    (hi : PySem.W.Looks (model prog w) h (typeLookup (.ref C) "__init__") (some (.ref fI))) (hb : ∀ x, PySem.W.Looks (model prog w) h (bindSpecial (.ref fI) x) (.ref fI, [x])) (few : rest.length ≤ sizeLine)
    (k : codeAny (model prog w) (A.under (.builtin "type.__call__" ⟨.ref C :: rest, []⟩)) (.call (.ref fI) ⟨.ref (h.objs.size + 1) :: rest, []⟩) (PySem.W.InitBack (h.objs.size + 1) R)
      ⟨(h.push (PySem.W.kdv_tup rest)).push (bare C h.objs.size), g, d, t, os⟩) :
    codeAny (model prog w) A (.call (.ref C) ⟨rest, []⟩) R ⟨h, g, d, t, os⟩ := by
  have t1 := tc_lookup
  have t2 := tc_bind (.ref C)
  have ty : (⟨h, g, d, t, os⟩ : Shared).TypeIs (.ref C) "type" := ⟨_, o, rfl⟩
  refine codeAny_of_tree ?_
  show wpAny _ _ (callAny (.ref C) _) _ _ _
  repeat (any_goals (first
    | assumption
    | with_reducible refine wpAny_loadPart_at o ?_
    | wp_step))
  refine ⟨rfl, ?_⟩
  refine codeAny_call_builtin_at (Code.quiet_builtin _ (by decide +kernel)) entry_typeCall (wpAny_check_type_call_sub o (type_made Y o hi hb few ?_))
  refine codeAny_mono k fun r s2 z => ?_
  rcases r with e | (v | _ | _ | _)
  all_goals exact z
end

/-! ### the builtin __init__ that an own one calls -/
structure InitBy (bm : List Value) (iB initId : String) : Prop where
  c : ∃ n, ExcClass iB n initId
  b : bm.contains (.type iB) = true
section
variable {prog : Program} {w : World} {A : Around} {E : Value → Shared → Prop} {R : Result → Shared → Prop} {h : Heap} {g : Array GenState} {d : Drawn} {t : Nat} {os : OsState}
variable {nm q : Str} {C N : Addr} {bs bm : List Value} {hdct : Bool} {sn : List Str} {sub : List Value} {ab : Bool} {col : Option Bool} {dd : Option Addr} {k0 k1 k2 k3 k5 : Option Value} {newId iB initId : String}
theorem init_checked {M : Model} (Y : InitBy bm iB initId) {e : Addr} {oe : Obj} {rest : List Value} {Q : Unit → Shared → Prop} (o : h.get? C = some (excClassObj nm q C N bs bm hdct sn sub ab col dd k0 k1 k2 k3 k5 newId)) (he : h.get? e = some oe) (hc : oe.cls = .ref C)
    (k : Q () ⟨h, g, d, t, os⟩) : wpAny M A (checkBuiltinCall initId ⟨.ref e :: rest, []⟩) Q E ⟨h, g, d, t, os⟩ := by
  obtain ⟨⟨n, F⟩, yb⟩ := Y
  have own : (Value.ref C :: bm).contains (.type iB) = true := by
    rw [List.contains_cons, yb]
    exact Bool.or_true _
  have star := F.notStar
  simp only [F.initSig, F.initSplit, F.initKind, checkBuiltinCall]
  repeat (first
    | (with_reducible refine wpAny_loadPart_at he ?_; rw [hc])
    | with_reducible refine wpAny_loadPart_at o ?_
    | (with_reducible refine wpAny_isSubtype_exc o ?_; rw [own])
    | wp_step)
  refine wpAny_onRaise ?_
  rw [show ∀ (x y : String) (n : Nat), Bind.check ⟨.positional, "*", iB, .self, [⟨"args", .varPos, false⟩]⟩ x y n (List.map (fun z => z.fst) ({ pos := Value.ref e :: rest } : Args).kw) = pure () from
    fun x y n => check_star_args _ _ _ _ _ _]
  exact wpAny_pure k
theorem init_done (Y : InitBy bm iB initId) {e t0 : Addr} {rest : List Value} (o : h.get? C = some (excClassObj nm q C N bs bm hdct sn sub ab col dd k0 k1 k2 k3 k5 newId)) (he : h.get? e = some (bare C t0)) (few : rest.length ≤ sizeLine)
    (k : ∀ h2 t1, (∀ b u, b ≠ e → h.get? b = some u → h2.get? b = some u) → h2.get? e = some (bare C t1) → R (.ok (.ret .none)) ⟨h2, g, d, t, os⟩) :
    codeAny (model prog w) A (.call (.builtin initId) ⟨.ref e :: rest, []⟩) R ⟨h, g, d, t, os⟩ := by
  obtain ⟨n, F⟩ := Y.c
  refine codeAny_call_builtin F.init.plain F.initEntry (init_checked Y o he rfl ?_)
  wp_walk
  refine k _ h.objs.size (fun b u hb hu => ?_) ?_
  · rw [Heap.get?_update_other _ _ (Ne.symm hb)]
    exact Heap.get?_push_of_some _ hu
  · rw [Heap.get?_update_self _ (Heap.get?_push_of_some _ he) rfl]
    rfl
end
/-! ### an own class, as the written part tells it -/
structure OwnC (K : PySem.W.Frag) (C : Addr) (B newId initId : String) (bm : List Value) : Prop where
  cls : ∃ nm q N bs sn sub ab col dd k0 k1 k2 k3 k5, K.lookup C = some (excClassObj nm q C N bs bm true sn sub ab col dd k0 k1 k2 k3 k5 newId)
  new : ∃ nB, NewBy bm nB newId
  ini : InitBy bm B initId
  sto : ∃ S, StoreFacts S bm "object.__setattr__" "object"
  sa : PySem.W.findIn K (.ref C) "__setattr__" = some (some (.builtin "object.__setattr__"))
  tl : PySem.W.excTail bm bm = true
  ob : bm.contains (.type "object") = true
  exC : PySem.W.subIn K (.ref C) (.type "BaseException") = some true
  tyC : PySem.W.typeIn K (.ref C) = some (.type "type")
  kC : PySem.W.keepIn K (.ref C) = true
section
variable {X : Cx} {pins : List (Addr × Obj)} {σ : L2.St} {H : Hp} {s : Shared} {a C dx : Addr} {f : Str} {y : V} {u : Value} {fs : List (Str × V)} {A : Around} {B newId initId : String} {bm : List Value}
/-- B.__init__(self, ..) tells nothing -/
theorem own_init {us : List Value} {E : Value → Shared → Prop} {Q : Value → Shared → Prop} (T : OwnC X.K C B newId initId bm) (I : Inv X pins σ H s) (e : H a = some (exo a C none)) (few : us.length ≤ sizeLine) (k : ∀ s', Inv X pins σ H s' → Q .none s') :
    wpAny (model X.prog X.w) A (call (.builtin initId) (.ref a :: us)) Q E s := by
  obtain ⟨nm, q, N, bs, sn, sub, ab, col, dd, k0, k1, k2, k3, k5, o⟩ := T.cls
  obtain ⟨t1, at1⟩ := exo_at I.hok e
  obtain ⟨hp, g, d, t, os⟩ := s
  refine wpAny_call (init_done T.ini (I.kIn _ _ o) at1 few fun h2 t2 stay at2 => ?_)
  have J := I.write (t' := t) (x := a) (e := a) (o := exo a C none) (by rw [e]; exact True.intro) (.inl rfl) stay ⟨_, at2⟩ (exo_ok at2)
  have same : upd H a (exo a C none) = H := funext fun b => by
    by_cases hb : b = a
    · subst hb
      rw [upd_same, e]
    · rw [upd_ne hb]
  rw [same] at J
  exact k _ J
end
def tOwnI (K : PySem.W.Frag) (B newId initId : String) (bm : List Value) (ta : TA) : TE := fun σ H Q => ta σ H fun vs H1 => ∃ (a C : Addr) (ws : List V), vs = .ref a :: ws ∧ ws.length ≤ 1000 ∧ OwnC K C B newId initId bm ∧ H1 a = some (exo a C none) ∧ Q .non H1
section
variable {X : Cx} {o e : Expr} {es : List Expr} {to te : TE} {ta : TA} {f : Str} {p p' p1 p2 pos : Pos} {B newId initId : String} {bm : List Value}
/-- B.__init__(self, ..), B builtin -/
theorem pe_ownInit {x : Str} {pl : Sem Bool} (hg : Gl X x) (hm : X.mg x = none) (hb : bootBuiltins x = some (.type B)) (ty : typeOf (.type B) = pure (.type "type")) (st : Manifest.isStub B = false)
    (vV : PySem.W.findCls X.K (.type B) (.type "type") "__init__" = some (.val (.builtin initId))) (kb : PySem.W.handedIn (.builtin initId) = true) (ha : PA X (e :: es) ta) (n1 : x ≠ "__name__" := by decide) (n2 : (x == ("__debug__" : Str)) = false := by decide)
    (hc : eval (.Call (.Attribute (.Name x p1) "__init__" p2) (e :: es) [] pos) X.env = (do
      let ov ← eval (.Name x p1) X.env
      standAt p2.atName
      let (f, first) ← holding [ov] (getMethod ov "__init__" pl)
      callWith pos f first (backTo pos (starEach (e :: es) X.env)) (backToKw pos (keywordEach [] X.env))) := by rfl)
    (he : starEach (e :: es) X.env = (false, eval e X.env) :: starEach es X.env := by rfl) (hpl : (backTo pos (starEach es X.env)).any (·.1) = false := by rfl) :
    PE X (.Call (.Attribute (.Name x p1) "__init__" p2) (e :: es) [] pos) (tOwnI X.K B newId initId bm ta) := by
  refine ⟨fun pins s σ H Q I h => ?_⟩
  refine PySem.W.methodCall_KW (ld_blt I hg hm hb ?_ n1 n2) hc
  obtain ⟨m, fr⟩ := I.fr
  refine PySem.W.method_type fr I.ok.mod.kin ty st vV kb ?_
  show wpAny _ _ (callWith pos (Value.builtin initId) [] (backTo pos (starEach (e :: es) X.env)) []) _ _ _
  refine PyProof.Rows.callWith_method1 (thn (ha.run pos pins _ σ H _ (I.tok _) h) fun us s1 ⟨vs, H1, I1, r1, a, C, ws, ev, few, T, ea, k⟩ => ?_) he hpl
  subst ev
  cases r1 with
  | @cons _ u0 _ ur ra rw' =>
    obtain rfl : u0 = Value.ref a := ra
    have fit : ur.length ≤ sizeLine := by
      rw [← Paired.length rw', sizeLine_eq]
      omega
    exact own_init T I1 ea fit fun s2 J => ⟨.non, H1, J, rfl, k⟩
/-- C(e, ..) as a value: a new exception -/
def tOwnV (C : Addr) (sp : Sp) (ta : TA) : TE := fun σ H Q => ta σ H fun vs H1 => vs.length ≤ 1000 ∧ ∀ a, H1 a = none → sp (.ref a :: vs) (upd H1 a (exo a C none)) (fun v H2 => v = .non ∧ Q (.ref a) H2) (fun _ _ _ => False)
theorem own_call {CX : CXT} {C fI : Addr} {k : Nat} {fd : FuncData} {ps : List Str} {sp : Sp} (T : OwnC X.K C B newId initId bm) (iC : PySem.W.findIn X.K (.ref C) "__init__" = some (some (.ref fI))) (tI : PySem.W.typeIn X.K (.ref fI) = some (.type "function"))
    (F1 : FnOk X.prog X.w X.K X.mg X.base CX k fI fd ps sp) (hr : Room (k + 1) X.A) (hb : Binds X.K fd ps []) (hx : Passes CX X (fun _ _ _ => False)) {pins : List (Addr × Obj)} {σ : L2.St} {H : Hp} {s : Shared} {Q : VK} {us : List Value} {vs : List V}
    (I : Inv X pins σ H s) (r : Vals vs us) (few : vs.length ≤ 1000) (h : ∀ a, H a = none → sp (.ref a :: vs) (upd H a (exo a C none)) (fun v H2 => v = .non ∧ Q (.ref a) H2) (fun _ _ _ => False)) :
    wpAny (model X.prog X.w) X.A (call (.ref C) us) (EP X pins σ Q) X.xe s := by
  obtain ⟨nm, q, N, bs, sn, sub, ab, col, dd, k0, k1, k2, k3, k5, o⟩ := T.cls
  obtain ⟨nB, Y⟩ := T.new
  obtain ⟨hp, g, dr, tk, os⟩ := s
  have lt : hp.objs.size ≤ hp.objs.size + 1 := Nat.le_succ _
  have no : H (hp.objs.size + 1) = none := I.hok.fresh lt
  have hq := h (hp.objs.size + 1) no
  have up : ∀ b u, hp.get? b = some u → ((hp.push (PySem.W.kdv_tup us)).push (bare C hp.objs.size)).get? b = some u := fun b u e => Heap.get?_push_of_some _ (Heap.get?_push_of_some _ e)
  have at2 : ((hp.push (PySem.W.kdv_tup us)).push (bare C hp.objs.size)).get? (hp.objs.size + 1) = some (bare C hp.objs.size) := by heap_get
  have I2 : Inv X pins σ (upd H (hp.objs.size + 1) (exo (hp.objs.size + 1) C none)) ⟨(hp.push (PySem.W.kdv_tup us)).push (bare C hp.objs.size), g, dr, tk, os⟩ :=
    I.laid (t' := tk) (a := hp.objs.size + 1) (o := exo (hp.objs.size + 1) C none) (h' := (hp.push (PySem.W.kdv_tup us)).push (bare C hp.objs.size)) up lt (exo_ok at2)
  have r2 : Vals (V.ref (hp.objs.size + 1) :: vs) (Value.ref (hp.objs.size + 1) :: us) := .cons rfl r
  have hl : (Value.ref (hp.objs.size + 1) :: us).length = ps.length := by
    rw [← r2.length]
    exact F1.len _ _ _ _ hq
  have fit : us.length ≤ sizeLine := by
    rw [← Paired.length r, sizeLine_eq]
    omega
  have hbd := hb ⟨(hp.push (PySem.W.kdv_tup us)).push (bare C hp.objs.size), g, dr, tk, os⟩ (Value.ref (hp.objs.size + 1) :: us) I2.kIn (by rw [List.append_nil]; exact hl)
  rw [List.append_nil] at hbd
  refine wpAny_call (call_made Y (I.kIn _ _ o) (PySem.W.looks_findIn I.kIn iC) (fun x => PySem.W.bind_fn I.kIn x tI) fit
    (codeAny_mono (F1.run _ X.stack _ _ ⟨Value.ref (hp.objs.size + 1) :: us, []⟩ (Value.ref (hp.objs.size + 1) :: us) _ _ (fun _ _ _ => False) (hr.make C us []) (I2.env0.make C us []) hbd r2 hq) fun r s2 z => ?_))
  cases r with
  | error er => exact hx pins σ _ _ er s2 I2 z
  | ok fl =>
    cases fl with
    | ret u =>
      obtain ⟨v, H2, J, rv, ev, k⟩ := I2.after z
      subst ev
      exact ⟨rv, .ref (hp.objs.size + 1), H2, J, rfl, k⟩
    | next => exact False.elim z
    | brk => exact False.elim z
    | cont => exact False.elim z
theorem pe_own {CX : CXT} {x : Str} {C fI : Addr} {k : Nat} {fd : FuncData} {ps : List Str} {sp : Sp} (T : OwnC X.K C B newId initId bm) (iC : PySem.W.findIn X.K (.ref C) "__init__" = some (some (.ref fI))) (tI : PySem.W.typeIn X.K (.ref fI) = some (.type "function"))
    (F1 : FnOk X.prog X.w X.K X.mg X.base CX k fI fd ps sp) (hr : Room (k + 1) X.A) (hb : Binds X.K fd ps []) (hx : Passes CX X (fun _ _ _ => False)) (hg : Gl X x) (hm : X.mg x = some (.ref C)) (ha : PA X (e :: es) ta)
    (hdb : (x == ("__debug__" : Str)) = false := by decide) (he : starEach (e :: es) X.env = (false, eval e X.env) :: starEach es X.env := by rfl) (hpl : (backTo pos (starEach es X.env)).any (·.1) = false := by rfl) :
    PE X (.Call (.Name x p) (e :: es) [] pos) (tOwnV C sp ta) := by
  refine ⟨fun pins s σ H Q I h => ?_⟩
  refine wpAny_Call_Name_kw (ld_glob I hg hm ?_ hdb)
  refine PySem.W.callWith_K (h₀ := X.base) I.ok.mod.kin T.kC (thn (ha.run pos pins s σ H _ I h) fun us s1 ⟨vs, H1, I1, r1, hz, q1⟩ => ⟨I1.kIn, ?_⟩) he hpl
  exact own_call T iC tI F1 hr hb hx I1 r1 hz q1
theorem pe_own0 {CX : CXT} {x : Str} {C fI : Addr} {k : Nat} {fd : FuncData} {ps : List Str} {sp : Sp} (T : OwnC X.K C B newId initId bm) (iC : PySem.W.findIn X.K (.ref C) "__init__" = some (some (.ref fI))) (tI : PySem.W.typeIn X.K (.ref fI) = some (.type "function"))
    (F1 : FnOk X.prog X.w X.K X.mg X.base CX k fI fd ps sp) (hr : Room (k + 1) X.A) (hb : Binds X.K fd ps []) (hx : Passes CX X (fun _ _ _ => False)) (hg : Gl X x) (hm : X.mg x = some (.ref C)) (hdb : (x == ("__debug__" : Str)) = false := by decide) :
    PE X (.Call (.Name x p) [] [] pos) (tOwnV C sp tNil) := by
  refine ⟨fun pins s σ H Q I h => ?_⟩
  refine wpAny_Call_Name_kw (ld_glob I hg hm ?_ hdb)
  exact PySem.W.callWith_K0 I.kIn T.kC (own_call (us := []) T iC tI F1 hr hb hx I .nil h.1 h.2)
end

/-! ### self.f = e on such -/
section
open PySem.Builtin PySem.Builtin.ObjectAttr
variable {prog : Program} {w : World} {A : Around} {R : Result → Shared → Prop} {hp : Heap} {g : Array GenState} {d : Drawn} {t : Nat} {os : OsState} {K : PySem.W.Frag} {C x dx : Addr} {B newId initId : String} {bm : List Value} {name : Str} {tk : Tok} {v : Value} {fv : Array Value}
theorem OwnC.clsIn (T : OwnC K C B newId initId bm) : ∃ cd : ClassData, PySem.W.clsIn K C = some cd ∧ cd.mro = .ref C :: bm ∧ cd.hasDict = true := by
  obtain ⟨nm, q, N, bs, sn, sub, ab, col, dd, k0, k1, k2, k3, k5, o⟩ := T.cls
  refine ⟨{ name := nm, bases := bs, mro := .ref C :: bm, ns := N, qualname := q, hasDict := true, slotNames := sn, subclasses := sub, abstract := ab, collection := col, hasDel := false }, ?_, rfl, rfl⟩
  unfold PySem.W.clsIn
  rw [o] <;> rfl
theorem OwnC.over (T : OwnC K C B newId initId bm) : PySem.W.excOver K C bm = true := by
  obtain ⟨cd, hc, hm, _⟩ := T.clsIn
  unfold PySem.W.excOver
  rw [hc]
  show (match cd.mro with | .ref C' :: l => C' == C && PySem.W.excTail bm l | _ => false) = true
  rw [hm]
  show (C == C && PySem.W.excTail bm bm) = true
  rw [T.tl, Bool.and_true]
  exact beq_self_eq_true C
theorem taker_none (h : PySem.W.findIn K (.ref C) name = some none) : PySem.W.takerIn K C name = some none := by
  unfold PySem.W.takerIn
  rw [h]
  rfl
theorem own_sa0 (T : OwnC K C B newId initId bm) (X : K.In hp) (hx : hp.get? x = some { cls := .ref C, data := .fields fv }) (no : PySem.W.findIn K (.ref C) name = some none)
    (k : ∀ h2 t2 dx, (∀ b u, b ≠ x → hp.get? b = some u → h2.get? b = some u) → hp.objs.size ≤ dx → dx ≠ x → h2.get? x = some { cls := .ref C, dict := some dx, data := .fields fv } →
      h2.Ns1 dx (fun y => if y = name then some v else none) → R (.ok (.ret .none)) ⟨h2, g, d, t2, os⟩) :
    codeAny (model prog w) A (.call (.builtin "object.__setattr__") ⟨[.ref x, .str name tk, v], []⟩) R ⟨hp, g, d, t, os⟩ := by
  obtain ⟨S, SF⟩ := T.sto
  obtain ⟨cd, hc, hm, hh⟩ := T.clsIn
  have far : x ≠ hp.objs.size := Nat.ne_of_lt (Heap.lt_size hx)
  have lk : PySem.W.Looks (model prog w) hp (classData C) cd := PySem.W.looks_clsIn X hc
  refine PySem.W.osa_openX (s := ⟨hp, g, d, t, os⟩) (ox := { cls := .ref C, data := .fields fv }) (od := none) SF X ⟨hx, rfl, rfl, trivial⟩ T.over (taker_none no) fun b => ?_
  show wpAny _ _ (storeInOwnDict (.ref x) (.ref C) (.str name tk) name v b) _ _ _
  obtain ⟨c1, c2, c3, c4, c5, hd, c7, c8, c9, c10, c11⟩ := cd
  dsimp only at hh
  subst hh
  unfold storeInOwnDict ownDictForStores
  repeat (first
    | with_reducible refine PySem.HandSPX.store_in_new ?_ ?_
    | with_reducible refine wpAny_loadPart_at hx ?_
    | with_reducible refine lk.at ?_
    | wp_step)
  · exact ⟨_, #[], _, (Heap.get?_update_ne _ _ _ _ far.symm).trans (Heap.get?_push_at rfl rfl), rfl, fun e he => absurd he (by simp), fun _ => rfl⟩
  · intro h2 t2 hn hs
    have hx1 : (hp.push { cls := .type "dict", data := .dict #[] }).get? x = some { cls := .ref C, data := .fields fv } := Heap.get?_push_of_some _ hx
    refine k h2 t2 hp.objs.size (fun b u hb hu => ?_) (Nat.le_refl _) far.symm ?_ hn
    · exact (hs.2 b (Nat.ne_of_lt (Heap.lt_size hu))).trans ((Heap.get?_update_ne _ _ _ _ hb).trans (Heap.get?_push_of_some _ hu))
    · exact (hs.2 x far).trans (Heap.get?_update_self _ hx1 rfl)
theorem own_sa1 {m0 : Str → Option Value} {nl : List Str} (T : OwnC K C B newId initId bm) (X : K.In hp) (hx : hp.get? x = some { cls := .ref C, dict := some dx, data := .fields fv }) (hns : hp.Ns1 dx m0) (hw : Within m0 nl) (hz : nl.length ≤ 1000)
    (no : PySem.W.findIn K (.ref C) name = some none)
    (k : ∀ h2 t2, (∀ b u, b ≠ dx → hp.get? b = some u → h2.get? b = some u) → h2.Ns1 dx (fun y => if y = name then some v else m0 y) → R (.ok (.ret .none)) ⟨h2, g, d, t2, os⟩) :
    codeAny (model prog w) A (.call (.builtin "object.__setattr__") ⟨[.ref x, .str name tk, v], []⟩) R ⟨hp, g, d, t, os⟩ := by
  obtain ⟨S, SF⟩ := T.sto
  obtain ⟨cd, hc, hm, hh⟩ := T.clsIn
  obtain ⟨oD, _, _, hoD, _, _⟩ := hns.count hw
  have lk : PySem.W.Looks (model prog w) hp (classData C) cd := PySem.W.looks_clsIn X hc
  refine PySem.W.osa_openX (s := ⟨hp, g, d, t, os⟩) (ox := { cls := .ref C, dict := some dx, data := .fields fv }) (od := some oD) SF X ⟨hx, rfl, rfl, hoD⟩ T.over (taker_none no) fun b => ?_
  show wpAny _ _ (storeInOwnDict (.ref x) (.ref C) (.str name tk) name v b) _ _ _
  obtain ⟨c1, c2, c3, c4, c5, hd, c7, c8, c9, c10, c11⟩ := cd
  dsimp only at hh
  subst hh
  unfold storeInOwnDict ownDictForStores
  repeat (first
    | with_reducible refine PySem.OEX.store_in_old hns hw hz ?_
    | with_reducible refine wpAny_loadPart_at hx ?_
    | with_reducible refine lk.at ?_
    | wp_step)
  intro h2 t2 hn hs
  exact k h2 t2 (fun b u hb hu => (hs.2 b hb).trans hu) hn
end
section
variable {X : Cx} {pins : List (Addr × Obj)} {σ : L2.St} {H : Hp} {s : Shared} {a C dx : Addr} {f : Str} {y : V} {u : Value} {fs : List (Str × V)} {Q : Unit → Shared → Prop} {E : Value → Shared → Prop} {A : Around} {B newId initId : String} {bm : List Value}
theorem own_st0 (T : OwnC X.K C B newId initId bm) (I : Inv X pins σ H s) (e : H a = some (exo a C none)) (no : PySem.W.findIn X.K (.ref C) f = some none) (ry : RelV y u)
    (k : ∀ dx s', H dx = none → dx ≠ a → Inv X pins σ (upd (upd H dx (exd dx [(f, y)])) a (exo a C (some dx))) s' → Q () s') : wpAny (model X.prog X.w) A (setAttr (.ref a) f u) Q E s := by
  obtain ⟨t1, ho⟩ := exo_at I.hok e
  obtain ⟨hp, g, d, t, os⟩ := s
  refine PySem.W.set_plain I.kIn (ox := { cls := .ref C, dict := none, data := .fields #[.ref t1, .none, .none, .none, .bool false, .none] }) (od := none) ⟨ho, rfl, rfl, trivial⟩ T.sa ?_
  refine own_sa0 T I.kIn ho no fun h2 t2 dx stay dn dne hx hn => ?_
  have nodx : H dx = none := I.hok.fresh dn
  have ndx : ∀ {b : Addr} {o : Obj}, hp.get? b = some o → b ≠ dx := fun {b o} z => Nat.ne_of_lt (Nat.lt_of_lt_of_le (Heap.lt_size z) dn)
  have na : ∀ {b : Addr}, H b = none → b ≠ a := fun {b} n z => by
    rw [z, e] at n
    cases n
  have un : Un X.fs [] H (upd (upd H dx (exd dx [(f, y)])) a (exo a C (some dx))) hp h2 := {
    keep := fun b o z n _ _ => stay b o (na n) z
    slot := fun b o z n _ _ => ⟨o.slots, stay b o (na n) z⟩
    free := fun b o z n _ => by
      rw [upd_ne (na n), upd_ne (ndx z)]
      exact n
    there := fun b o z _ => by
      by_cases hb : b = a
      · subst hb
        exact ⟨_, hx⟩
      · exact ⟨o, stay b o hb z⟩
    tups := fun b xs z => by
      rw [upd_ne (L2.at_ne e z exo_tup), upd_ne (ne_of_none z nodx)]
      exact z
    frzs := fun b o v z => by
      rw [upd_ne (L2.at_ne e z exo_frz), upd_ne (ne_of_none z nodx)]
      exact z
    tbls := fun b ps z => ⟨#[], by
      rw [upd_ne (L2.at_ne e z exo_tbl), upd_ne (ne_of_none z nodx), z]
      simp⟩ }
  refine k dx _ nodx dne (I.un (t' := t2) un fun b o z => ?_)
  by_cases hb : b = a
  · subst hb
    rw [upd_same] at z
    cases z
    exact exo_ok hx
  · rw [upd_ne hb] at z
    by_cases hd : b = dx
    · subst hd
      rw [upd_same] at z
      cases z
      exact exd_ok hn (relO_put (fs := []) ry fun g => True.intro)
    · rw [upd_ne hd] at z
      refine (I.hok b o z).stay (fun c v hc q => stay c v ?_ q) (fun c hc => ?_) fun c xs hc => ?_
      · rcases hc with hc | hc
        · subst hc
          exact hb
        · exact L2.at_ne e hc exo_own
      · rw [upd_ne (L2.at_ne e hc exo_own), upd_ne (ne_of_none hc nodx)]
        exact hc
      · rw [upd_ne (L2.at_ne e hc exo_tup), upd_ne (ne_of_none hc nodx)]
        exact hc
theorem own_st1 (T : OwnC X.K C B newId initId bm) (I : Inv X pins σ H s) (e : H a = some (exo a C (some dx))) (ed : H dx = some (exd dx fs)) (hl : fs.length ≤ 900) (no : PySem.W.findIn X.K (.ref C) f = some none) (ry : RelV y u)
    (k : ∀ s', Inv X pins σ (upd H dx (exd dx ((f, y) :: fs))) s' → Q () s') : wpAny (model X.prog X.w) A (setAttr (.ref a) f u) Q E s := by
  obtain ⟨t1, ho⟩ := exo_at I.hok e
  obtain ⟨mA, hns, rel⟩ := exd_at I.hok ed
  have hw := within_of rel
  obtain ⟨hp, g, d, t, os⟩ := s
  obtain ⟨oD, _, _, hoD, _, _⟩ := hns.count hw
  refine PySem.W.set_plain I.kIn (ox := { cls := .ref C, dict := some dx, data := .fields #[.ref t1, .none, .none, .none, .bool false, .none] }) (od := some oD) ⟨ho, rfl, rfl, hoD⟩ T.sa ?_
  refine own_sa1 T I.kIn ho hns hw (by rw [List.length_map]; omega) no fun h2 t2 stay hn => ?_
  have there : ∃ o, h2.get? dx = some o := by
    obtain ⟨o, _, _, z, _⟩ := id hn
    exact ⟨o, z⟩
  exact k _ (I.write (t' := t2) (x := dx) (e := dx) (o := exd dx ((f, y) :: fs)) (by rw [ed]; exact True.intro) (.inl rfl) stay there (exd_ok hn (relO_put ry rel)))
end
def tOwnS (K : PySem.W.Frag) (B newId initId : String) (bm : List Value) (f : Str) (to te : TE) : TS := fun D σ H => te σ H fun y H1 => to σ H1 fun x H2 => ∃ a C : Addr, x = .ref a ∧ OwnC K C B newId initId bm ∧ PySem.W.findIn K (.ref C) f = some none ∧
  ((H2 a = some (exo a C none) ∧ ∀ dx, H2 dx = none → dx ≠ a → D.nx σ (upd (upd H2 dx (exd dx [(f, y)])) a (exo a C (some dx)))) ∨
    ∃ (dx : Addr) (fs : List (Str × V)), H2 a = some (exo a C (some dx)) ∧ H2 dx = some (exd dx fs) ∧ fs.length ≤ 900 ∧ D.nx σ (upd H2 dx (exd dx ((f, y) :: fs))))
theorem ps_ownS {X : Cx} {o e : Expr} {to te : TE} {f : Str} {p' pos : Pos} {B newId initId : String} {bm : List Value} (ho : PE X o to) (he : PE X e te) (hs : swapsWith e (some (.Attribute o f p')) pos.line X.env = pure false := by rfl) :
    PS X (.Assign [.Attribute o f p'] e pos) (tOwnS X.K B newId initId bm f to te) := by
  refine ⟨fun pins s σ H D I h => ?_⟩
  refine plainObj_wpAny_Assign_Attribute (thn (he.run pins s σ H _ I h) fun v s1 ⟨y, H1, I1, r1, q1⟩ => thn (ho.run pins s1 σ H1 _ I1 q1) fun u s2 ⟨x, H2, I2, r2, a, C, ex, T, no, z⟩ => ?_) hs
  subst ex
  obtain rfl : u = Value.ref a := r2
  rcases z with ⟨ea, z⟩ | ⟨dx, fs, ea, ed, hl, z⟩
  · exact own_st0 T I2 ea no r1 fun dx s2 n ne J => ⟨σ, _, J, z dx n ne⟩
  · exact own_st1 T I2 ea ed hl no r1 fun s2 J => ⟨σ, _, J, z⟩

/-! ### isinstance of an exception that is held as a value -/
section
open PySem.W
variable {prog : Program} {w : World} {A : Around} {E : Value → Shared → Prop} {s : Shared} {K : Frag} {x D : Addr} {ox : Obj} {od : Option Obj}
theorem found_data {n : Str} {a g : Value} (hc : (clsIn K D).isSome = true) (h1 : findIn K (.ref D) n = some (some a)) (h2 : specialIn K a "__get__" = some (some g)) (h3 : takesIn K a = some true) :
    findObj K D od n = some (.bind g a) := by
  obtain ⟨cd, z⟩ := Option.isSome_iff_exists.mp hc
  unfold findObj
  rw [z, Option.bind_some, h1, Option.bind_some]
  simp [h2, h3]
theorem class_told {Q : Option Value → Shared → Prop} (T : ExcC K D) (X : K.In s.heap) (I : InstAt s.heap x ox D od) (k : Q (some (.ref D)) { s with toks := s.toks + 1 }) : wpAny (model prog w) A (getAttr? (.ref x) "__class__") Q E s := by
  have there : (clsIn K D).isSome = true := by
    obtain ⟨cd, z, _⟩ := any_some T.hd
    rw [z]
    rfl
  have fo : findObj K D od "__class__" = some (.bind (.builtin "getset_descriptor.__get__") (.builtin "object.__class__")) := found_data there T.ha T.hn T.ht
  obtain ⟨hp, g, d, t, os⟩ := s
  have l0 := I.type (M := model prog w)
  have l1 := looks_findIn (M := model prog w) X T.hg
  have l2 := looks_findIn (M := model prog w) X T.hk
  have l3 := looks_find (M := model prog w) X I fo
  have under : Looks (model prog w) hp (isInstance (.ref x) (.type "BaseException")) true := l0.andThen (looks_subIn X T.hs)
  have z0 : (false && onTheHeap (Value.builtin "BaseException.__getattribute__")) = false := rfl
  have z2 : (Value.builtin "BaseException.__getattribute__" == Value.builtin "object.__getattribute__") = false := by decide +kernel
  have z1 : (onTheHeap (Value.ref D) && Value.builtin "BaseException.__getattribute__" == Value.builtin "object.__getattribute__") = false := by
    rw [z2]
    rfl
  unfold getAttr?
  unfold getAttrBy?
  unfold getAttrBy
  refine wpAny_bind (wpAny_mkText (wpAny_bind (wpAny_attempt (wpAny_holding (wpAny_bind (l0.at (wpAny_bind (l1.at ?_))))))))
  show wpAny _ _ (if (onTheHeap (Value.ref D) && Value.builtin "BaseException.__getattribute__" == Value.builtin "object.__getattribute__") = true
    then _ else _) _ _ _
  rw [z1, if_neg Bool.false_ne_true]
  unfold getAttrByItsOwn
  unfold hookBefore
  refine wpAny_bind ?_
  rw [if_pos (show onTheHeap (Value.ref D) = true by rfl)]
  refine l2.at ?_
  refine wpAny_bind ?_
  refine wpAny_attempt (wpAny_holding ?_)
  unfold callGetattribute
  rw [z0, if_neg Bool.false_ne_true]
  unfold boundAndCalled
  rw [PySem.F.excAttr_ValueError.ga.bind (.ref x)]
  refine wpAny_bind ?_
  refine wpAny_pure ?_
  show wpAny (model prog w) _ (call (.builtin "BaseException.__getattribute__") [.ref x, .str "__class__" t]) _ _ _
  refine wpAny_call ?_
  refine codeAny_call_builtin PySem.F.excAttr_ValueError.ga.plain PySem.F.entry_bexc_ga ?_
  refine @check_slot (model prog w) _ _ ⟨hp, g, d, t + 1, os⟩ "BaseException.__getattribute__" "BaseException" "__getattribute__" (.ref x) [.str "__class__" t] [] _ (by decide +kernel) (by decide +kernel) under (PySem.F.args_bexc_ga (.ref x) (.str "__class__" t)) ?_
  unfold PySem.Builtin.«object.__getattribute__»
  refine wpAny_bind ?_
  refine wpAny_of_eq (a := ((Value.ref x : Value), [Value.str "__class__" t])) (by first | rfl | (simp only [PySem.Builtin.slotArgs]; done)) ?_
  refine wpAny_bind ?_
  refine wpAny_pure (wpAny_bind (l0.at (wpAny_bind (l3.at ?_))))
  show wpAny (model prog w) _ (holding [Value.builtin "object.__class__"] (call (.builtin "getset_descriptor.__get__") [.builtin "object.__class__", .ref x, .ref D]) >>= ret) _ _ _
  refine wpAny_bind ?_
  refine wpAny_holding (wpAny_call (class_get (s := ⟨hp, g, d, t + 1, os⟩) (ox := ox) (od := od) X I T.hm ?_))
  refine wpAny_pure ?_
  show wpAny (model prog w) _ (handedOut (.ref D)) _ _ _
  rw [handedOut_of (v := .ref D) rfl]
  first
    | exact wpAny_pure (wpAny_pure k)
    | exact wpAny_pure k
    | exact wpAny_pure (wpAny_bind (wpAny_pure (wpAny_pure k)))
theorem exo_kit (T : ExcC K D) : KitX K (.ref x) (.ref D) (fun h => InstAt h x ox D od) where
  ty := fun _ _ _ I => I.type
  it := fun M h X _ => by
    obtain ⟨cd, z, _⟩ := any_some T.hd
    unfold clsIn at z
    split at z
    · rename_i o
      intro _ _ _ s' k q
      unfold isType
      unfold loadHead
      exact wpAny_bind (wpAny_loadPart (k _ _ (X _ _ o)) (wpAny_pure q))
    · cases z
  ne := fun h tp _ _ _ _ X htp => by
    obtain ⟨cd, z, _⟩ := any_some T.hd
    refine Bool.eq_false_iff.mpr fun q => ?_
    have e : D = tp := Value.ref.inj (beq_iff_eq.mp q)
    subst e
    unfold clsIn at z
    split at z
    · rename_i o
      cases (X _ _ o).symm.trans htp
    · cases z
  ca := fun X I k => class_told T X I k
theorem kit_own {C C' : Addr} (T' : PySem.W.hasDictIn K C' = true) (ty : typeIn K (.ref C') = some (.type "type")) (ex : subIn K (.ref C) (.ref C') = some (decide (C = C'))) :
    kitOne K (.ref C) (.ref C') = some (decide (C = C')) := by
  unfold kitOne
  by_cases h : C = C'
  · subst h
    rw [if_pos (beq_self_eq_true _), decide_eq_true rfl]
  · rw [if_neg (fun z => h (Value.ref.inj (beq_iff_eq.mp z)))]
    unfold kitCls
    obtain ⟨cd, z, _⟩ := any_some T'
    have yes : ((clsIn K C').isSome && typeIn K (.ref C') == some (.type "type")) = true := by
      rw [z, ty]
      rfl
    show (if ((clsIn K C').isSome && typeIn K (.ref C') == some (.type "type")) = true then subIn K (.ref C) (.ref C') else none) = _
    rw [if_pos yes]
    exact ex
end
/-- isinstance(e, c), e an exception of an own class that is held as a value -/
def rIsO (K : PySem.W.Frag) : List V → Hp → VK → Prop := fun xs H Q => ∃ (a C : Addr) (d : Option Addr) (c : V) (cv : Value) (b : Bool), xs = [.ref a, c] ∧ ClsV c cv ∧ ExcC K C ∧ H a = some (exo a C d) ∧ (∀ dx, d = some dx → ∃ fs, H dx = some (exd dx fs)) ∧ PySem.W.kitOne K (.ref C) cv = some b ∧ Q (.bl b) H
theorem call_isO {X : Cx} : CallR X (.builtin "isinstance") (rIsO X.K) := by
  intro pins s σ H xs us Q I r h
  obtain ⟨a, C, d, c, cv, b, rfl, kc, T, ea, ed, e, q⟩ := h
  obtain ⟨u1, u2, rfl, r1, r2⟩ := vals2 r
  have e2 := kc.eq r2
  subst e2
  cases r1
  obtain ⟨t1, ho⟩ := exo_at I.hok ea
  have J : ∃ od, PySem.W.InstAt s.heap a { cls := .ref C, dict := d, data := .fields #[.ref t1, .none, .none, .none, .bool false, .none] } C od := by
    cases d with
    | none => exact ⟨none, ho, rfl, rfl, trivial⟩
    | some dx =>
      obtain ⟨fs, hd⟩ := ed dx rfl
      obtain ⟨mA, hns, rel⟩ := exd_at I.hok hd
      obtain ⟨oD, _, _, hoD, _, _⟩ := hns.count (within_of rel)
      exact ⟨some oD, ho, rfl, rfl, hoD⟩
  obtain ⟨od, J⟩ := J
  exact PySem.W.kia_one (exo_kit T) I.kIn J e (fun z => nomatch z) fun tk => ⟨.bl b, H, I.tok tk, rfl, q⟩
/-- e.f of such -/
def tOwnF (K : PySem.W.Frag) (f : Str) (te : TE) : TE := fun σ H Q => te σ H fun x H1 => ∃ (a C d : Addr) (fs : List (Str × V)) (v : V), x = .ref a ∧ XfC K C ∧ PySem.W.findIn K (.ref C) f = some none ∧ H1 a = some (exo a C (some d)) ∧ H1 d = some (exd d fs) ∧ fs.lookup f = some v ∧ Q v H1
theorem pe_ownF {X : Cx} {e : Expr} {te : TE} {pos : Pos} {n : Str} (he : PE X e te) (hb : attributeBase e n X.env (eval e X.env) = eval e X.env := by rfl) : PE X (.Attribute e n pos) (tOwnF X.K n te) := by
  refine ⟨fun pins s σ H Q I h => ?_⟩
  refine attr_of hb (thn (he.run pins s σ H _ I h) fun u s1 hh => ?_)
  obtain ⟨x, H1, I1, rx, a, C, d, fs, v, ex, T, no, ea, ed, l, q⟩ := hh
  subst ex
  obtain rfl : u = Value.ref a := rx
  obtain ⟨t1, ho⟩ := exo_at I1.hok ea
  obtain ⟨mA, hns, rel⟩ := exd_at I1.hok ed
  obtain ⟨od, hoD, hl⟩ := lookIn_ns hns
  obtain ⟨u, hu, ru⟩ := RelO.some_of (v := v) (o := mA n) (by rw [← l]; exact rel n)
  have J : PySem.W.InstAt s1.heap a { cls := .ref C, dict := some d, data := .fields #[.ref t1, .none, .none, .none, .bool false, .none] } C (some od) := ⟨ho, rfl, rfl, hoD⟩
  exact HandSPX.exc_get I1.kIn J T.ga T.gg T.exC (PySem.W.findObj_own T.hdC no rfl (by rw [hl, hu])) (handed_of ru) ⟨v, H1, I1.tok _, ru, q⟩

/-! ### the law's own def, run where the law is asked: nothing is being shown there -/
def RunAt (P : Program) (w : World) (K : PySem.W.Frag) (mg : Str → Option Value) (base : Heap) (f : Addr) (fd : FuncData) (ps : List Str) (sp : Sp) : Prop :=
  ∀ (s : Shared) (H : Hp) (us : List Value) (vs : List V) (Q : VK) (E : XK), Env0 P w K mg base callerA [] s H → BindsTo s fd ⟨us, []⟩ (ps.zip us) → Vals vs us → sp vs H Q E → codeAny (model P w) callerA (.call (.ref f) ⟨us, []⟩) (CR CX0 [] P w H s Q E) s
section
variable {P : Program} {w : World} {K : PySem.W.Frag} {mg : Str → Option Value} {base : Heap}
theorem run_at {x qual : Str} {st : Stmt} {f : Addr} {fd : FuncData} {N ps : List Str} {k : Nat} {sp : Sp} (F : Fun K x qual st f fd) (S : FnScope N ps (defScope st)) (room : Room (k + 1) callerA) (len : ∀ vs H Q E, sp vs H Q E → vs.length = ps.length)
    (body : ∀ (cdv : Value) (s : Shared) (H : Hp) (vs : List V) (Q : VK) (E : XK), Room k (callerA.deeper (envOfC qual (defScope st) s.heap.objs.size f cdv)) → sp vs H Q E →
      ∃ t, PSs (cxOf CX0 P w K mg base N qual (defScope st) f cdv callerA [] s H E).nox (defBody st) t ∧ t { nx := fun _ H' => Q .non H', rt := Q } (start N vs) H) : RunAt P w K mg base f fd ps sp := by
  obtain ⟨oc, od, kV, doc, pm, an, cdv, ct, osl, rfl, lk, hcd⟩ := F.ex
  intro s H us vs Q E e0 hb r hsp
  have few := len _ _ _ _ hsp
  have kin : K.In s.heap := e0.mod.kin.keeps fun b o z => (e0.bs b o z).1
  have lim : s.heap.NoLimit := e0.mod.nolimit.keeps fun b o z => (e0.bs b o z).1
  have kinds : ∀ z ∈ ps.zip us, (defScope st).names.lookup z.1 = some .local ∨ ((defScope st).names.lookup z.1 = some .cell ∧ ((cellsFrom (s.heap.objs.size + 1) (defScope st).names []).lookup z.1).isSome = true) := by
    rintro ⟨n, v⟩ hz
    rcases S.par n (List.of_mem_zip hz).1 with z | z
    · exact .inl z
    · exact .inr ⟨z, PySem.W.cellsFrom_some _ _ _ (.inl z)⟩
  refine codeAny_call_function room.depth (kin _ _ lk) rfl S.co S.gen rfl (PySem.W.codeRec_of kin hcd) (hb _ _ _ _ ?_)
  refine wpAny_newFunctionEnv_cells S.kind kinds fun env he s1 z => ?_
  subst he
  refine ⟨lim.keeps z.toInCall.keep, codeAny_func ?_⟩
  obtain ⟨t, ht, hq⟩ := body cdv s H vs Q E (room.deeper _) hsp
  have I : Inv (cxOf CX0 P w K mg base N qual (defScope st) f cdv callerA [] s H E) [] (start N vs) H s1 := inv_start S room.hd e0 few r z
  refine wpAny_mono (ht.nox.run [] s1 (start N vs) H _ I hq) (fun fl s2 hs => ?_) fun e s2 hs => hs
  cases fl with
  | ret u =>
    obtain ⟨v, σ2, H2, J, rv, q⟩ := hs
    exact ⟨v, H2, J.os, J.bare, J.base, J.hok, rv, q⟩
  | next =>
    obtain ⟨σ2, H2, J, q⟩ := hs
    exact ⟨.non, H2, J.os, J.bare, J.base, J.hok, rfl, q⟩
  | brk =>
    obtain ⟨_, _, _, q⟩ := hs
    exact q.elim
  | cont =>
    obtain ⟨_, _, _, q⟩ := hs
    exact q.elim
theorem law_at {mb : Str → Option Value} {fa p : Addr} {fd : FuncData} {x : Str} {sp : Sp} {s1 : Shared} {vs : List Value} {ns : List Int}
    (kin : K.In s1.heap) (hns : s1.heap.Ns mainGlobals mg) (hb : s1.heap.Ns builtinsNs mb) (hbb : ∀ y : Str, y ≠ "__name__" → mb y = bootBuiltins y) (hlim : s1.heap.NoLimit) (hg : s1.gens = #[])
    (hp : s1.heap.get? p = some { cls := .type "list", data := .seq vs.toArray }) (hi : IntsAre vs ns) (few : ns.length ≤ sizeLine)
    (F : ∀ base : Heap, K.In base → base.Ns mainGlobals mg → RunAt P w K mg base fa fd [x] sp) (binds : ∀ (s : Shared) (u : Value), BindsTo s fd ⟨[u], []⟩ [(x, u)])
    (hsp : ∀ H : Hp, Only H → SqL K H p (ns.map V.int) → sp [.ref p] H (fun v _ => v = .bl true) fun _ _ _ => False) :
    codeAny (model P w) callerA (.call (.ref fa) ⟨[.ref p], []⟩) (fun r s2 => r = .ok (.ret (.bool true)) ∧ OldK s1.heap s2.heap ∧ s2.os = s1.os ∧ AllBare s2.gens) s1 := by
  have rv := vals_ints hi
  have core : ∀ H : Hp, Only H → SqL K H p (ns.map V.int) → HOk P w H s1.heap → (∀ b, H b ≠ none → b = p) → (H p ≠ none → K.lookup p = none) →
      codeAny (model P w) callerA (.call (.ref fa) ⟨[.ref p], []⟩) (fun r s2 => r = .ok (.ret (.bool true)) ∧ OldK s1.heap s2.heap ∧ s2.os = s1.os ∧ AllBare s2.gens) s1 := by
    intro H only seq hok one hK
    have below : ∀ {b : Addr} {o : Obj}, s1.heap.get? b = some o → H b = none → (hidT s1.heap H).get? b = some o := fun e n => hidT_get e n
    have dicts : ∀ {b : Addr} {o : Obj} {es : Array DictEntry} {ep : Nat}, s1.heap.get? b = some o → o.data = .dict es ep → H b = none := by
      intro b o es ep e d
      cases q : H b with
      | none => rfl
      | some u =>
        obtain rfl : b = p := one b (by rw [q]; simp)
        rw [hp] at e
        cases e
        cases (show Data.seq vs.toArray _ = Data.dict es ep from d)
    have spaces : ∀ {b : Addr} {m : Str → Option Value}, s1.heap.Ns b m → (hidT s1.heap H).Ns b m := by
      rintro b m ⟨o, es, ep, e, d, r⟩
      exact ⟨o, es, ep, below e (dicts e d), d, r⟩
    have kin2 : K.In (hidT s1.heap H) := fun b o e => by
      refine below (kin b o e) ?_
      cases q : H b with
      | none => rfl
      | some u =>
        obtain rfl : b = p := one b (by rw [q]; simp)
        rw [hK (by rw [q]; simp)] at e
        cases e
    have mod : Mod K mg (hidT s1.heap H) := by
      obtain ⟨mc, c1, c2⟩ := hlim
      exact ⟨kin2, spaces hns, ⟨mb, spaces hb, hbb⟩, ⟨mc, spaces c1, c2⟩⟩
    have e0 : Env0 P w K mg (hidT s1.heap H) callerA [] s1 H :=
      ⟨rfl, mod, fun b o e => of_hidT e, Nat.le_of_eq (hidT_size _ _), trivial, fun b z => absurd (show b ∈ ([] : List Addr) from z) (by simp), hok, .of_eq hg⟩
    refine codeAny_mono (F _ kin2 (spaces hns) s1 H [.ref p] [.ref p] _ _ e0 (binds s1 (.ref p)) (.cons rfl .nil) (hsp H only seq)) fun r s2 h => ?_
    cases r with
    | error e => exact h.elim
    | ok fl =>
      cases fl with
      | next => exact h.elim
      | brk => exact h.elim
      | cont => exact h.elim
      | ret u =>
        obtain ⟨v, H2, os, bare, un, hok2, rel, q⟩ := h
        obtain rfl : v = .bl true := q
        obtain rfl : u = Value.bool true := rel
        refine ⟨rfl, OldK.of_keep fun b o e => ?_, os, bare⟩
        cases q : H b with
        | none => exact un.keep b o e q (fun z => absurd (show b ∈ ([] : List Addr) from z) (by simp)) (by simp)
        | some u =>
          rcases only b with z | ⟨ob, xs, z⟩
          · rw [q] at z
            cases z
          · obtain ⟨a1, _⟩ := hok b _ z
            obtain ⟨a2, _⟩ := hok2 b _ (un.frzs b ob _ z)
            rw [e] at a1
            cases a1
            exact a2
  cases hk : K.lookup p with
  | some o =>
    have e := kin p o hk
    rw [hp] at e
    cases e
    have lv := hi.length
    refine core (fun _ => none) (fun _ => .inl rfl) (.inr ⟨_, vs.toArray, _, hk, rfl, rfl, rfl, ?_, by simpa using rv⟩) (fun b u z => ?_) (fun b z => absurd rfl z) fun z => absurd rfl z
    · rw [List.size_toArray, lv]
      exact few
    · cases (show (none : Option HO) = some u from z)
  | none =>
    refine core (fun b => if b = p then some (.frz { cls := .type "list", data := .seq vs.toArray } (.lst (ns.map V.int))) else none) (fun b => ?_) (.inl (.inr ⟨{ cls := .type "list", data := .seq vs.toArray }, if_pos rfl⟩)) (fun b u z => ?_) (fun b z => ?_) fun _ => hk
    · by_cases hb : b = p
      · exact .inr ⟨_, _, if_pos hb⟩
      · exact .inl (if_neg hb)
    · by_cases hb : b = p
      · subst hb
        cases (if_pos rfl).symm.trans z
        refine ⟨hp, ?_, vs, _, rv, hp⟩
        rw [List.length_map]
        exact few
      · cases (if_neg hb).symm.trans z
    · by_cases hb : b = p
      · exact hb
      · exact absurd (if_neg hb) z
end
theorem walk_at {l : PySem.W.OpenLaw} {n : Nat} {q : Program} {loose : List Str} {XP : (Str → Option Value) → Heap → Prop} {YP : World → Heap → Prop} {d : DefRec} {K : Params → PySem.W.Frag} {sp : World → Sp} {x : Str}
    (hn : l.most = some n) (hn2 : n ≤ sizeLine) (hdf : d.params.defaults = []) (hY : ∀ (w : World) (h : Heap), YP w h → (K w.params).In h)
    (F : ∀ (w : World) (mg : Str → Option Value) (fa : Addr) (h : Heap), (K w.params).In h → h.Ns mainGlobals mg → mg d.name = some (.ref fa) →
      ∃ fd : FuncData, (∀ (s : Shared) (u : Value), BindsTo s fd ⟨[u], []⟩ [(x, u)]) ∧ ∀ base : Heap, (K w.params).In base → base.Ns mainGlobals mg → RunAt l.prog w (K w.params) mg base fa fd [x] (sp w))
    (hsp : ∀ (w : World) (H : Hp) (a : Addr) (ns : List Int), ns.length ≤ n → Only H → SqL (K w.params) H a (ns.map V.int) → sp w [.ref a] H (fun v _ => v = .bl true) fun _ _ _ => False) :
    PySem.W.WalkO q loose XP YP l.row.toRowW d [] (fun f vs => PySem.call f vs) := by
  refine Att.attach_call hn hdf fun w s0 s1 mg mb fa o pm cd doc a vs ns G Y ho hd hcd hmg hobj hints hlen hg => ?_
  obtain ⟨fd, hb, hF⟩ := F w mg fa _ (hY w _ Y) G.T.g hmg
  exact law_at (hY w _ Y) G.T.g G.T.b G.T.builtins G.T.nolimit hg hobj hints (Nat.le_trans hlen hn2) hF hb fun H only seq => hsp w H a ns hlen only seq

/-! ### repr of a list where nothing is being shown; None in an f-string -/
theorem call_reprD {X : Cx} (hg : X.A.guards = some []) (hu : X.A.units + 64 < cLine) : CallR X (.builtin "repr") (fun xs H Q => ∃ a d, xs = [.ref a] ∧ Dp X.K H (.ref a) d ∧ d.showable = true ∧ d.hasDict = false ∧ d.depth ≤ 60 ∧ d.shown.length ≤ sizeLine ∧ Q (.str d.shown) H) := by
  intro pins s σ H xs us Q I r h
  obtain ⟨a, d, rfl, hd, h1, h2, h3, h4, q⟩ := h
  obtain ⟨u, rfl, ru⟩ := vals1 r
  cases ru
  obtain ⟨as, rd⟩ := Dp.reads I d (.ref a) (.ref a) hd rfl
  exact repr_of_reads' (s := s) rd h1 (fun z => by rw [h2] at z; cases z) hg (by omega) (fun _ _ z => z) (fun h2 u tk k => ⟨.str d.shown, H, I.kept (t' := tk) k, ⟨_, rfl⟩, q⟩) h4
def fmtN (Q : VK) : VK := fun x H1 => (∃ y : Str, x = .str y ∧ y.length ≤ sizeLine ∧ Q (.str y) H1) ∨ (∃ i : Int, x = .int i ∧ i.natAbs.log2 < 1920 ∧ Q (.str (toString i)) H1) ∨ (x = .non ∧ Q (.str "None") H1)
def tFmtN (te : TE) : TE := fun σ H Q => te σ H (fmtN Q)
theorem pe_fmtN {X : Cx} {e : Expr} {te : TE} {pos : Pos} (he : PE X e te) : PE X (.FormattedValue e (-1) none pos) (tFmtN te) := by
  refine ⟨fun pins s σ H Q I h => ?_⟩
  refine wpAny_FormattedValue_plain (thn (he.run pins s σ H _ I h) fun v s1 z => ?_)
  obtain ⟨x, H1, I1, rx, q⟩ := z
  rcases q with ⟨y, rfl, hz, q⟩ | ⟨i, rfl, hz, q⟩ | ⟨rfl, q⟩
  · obtain ⟨t, rfl⟩ := rx
    exact wpAny_formatField_str ⟨.str y, H1, I1, ⟨t, rfl⟩, q⟩ ⟨.str y, H1, I1.tok _, ⟨_, rfl⟩, q⟩ hz
  · obtain ⟨t, rfl⟩ := rx
    exact wpAny_formatField_int hz ⟨.str (toString i), H1, I1.tok _, ⟨_, rfl⟩, q⟩
  · cases rx
    exact wpAny_formatField_none ⟨.str "None", H1, I1.tok _, ⟨_, rfl⟩, q⟩
/-! ### what a field may hold -/
/-- a whole number of up to eighteen figures, a short text, None -/
inductive Fld : V → Prop where
  | int (i : Int) (h : i.natAbs < 10 ^ 18) : Fld (.int i)
  | str (z : Str) (h : z.length ≤ 100) : Fld (.str z)
  | non : Fld .non
def fldText : V → Str
  | .int i => toString i
  | .str z => z
  | _ => "None"
theorem fld_log {i : Int} (h : i.natAbs < 10 ^ 18) : i.natAbs.log2 < 1920 := by
  have lg : i.natAbs.log2 < 60 := PySem.Flt.log2_lt_of (by decide) (Nat.lt_trans h (by decide))
  omega
theorem fld_short {i : Int} (h : i.natAbs < 10 ^ 18) : ((toString i : String) : Str).length ≤ 19 := by
  show (Str.ofString (toString i)).length ≤ 19
  rw [PySem.ofString_length]
  exact int_text_length_le10 (k := 18) (by decide) h
theorem fld_fmt {v : V} {H : Hp} {Q : VK} (h : Fld v) (k : ∀ y : Str, y.length ≤ 100 → Q (.str y) H) : fmtN Q v H := by
  cases h with
  | int i h => exact .inr (.inl ⟨i, rfl, fld_log h, k _ (Nat.le_trans (fld_short h) (by decide))⟩)
  | str z h => exact .inl ⟨z, rfl, Nat.le_trans h (by decide), k _ h⟩
  | non => exact .inr (.inr ⟨rfl, k _ (by decide)⟩)

/-! ### the four builtin classes -/
abbrev bmV : List Value := [.type "ValueError", .type "Exception", .type "BaseException", .type "object"]
abbrev bmI : List Value := [.type "IndexError", .type "LookupError", .type "Exception", .type "BaseException", .type "object"]
abbrev bmK : List Value := [.type "KeyError", .type "LookupError", .type "Exception", .type "BaseException", .type "object"]
abbrev bmL : List Value := [.type "LookupError", .type "Exception", .type "BaseException", .type "object"]
theorem store_K : StoreFacts "KeyError" bmK "object.__setattr__" "object" where
  mro := by kernel_rfl
  slot := .of (n := "__setattr__")
    (owner := "object")
    (by
      rw [typeLookup_type]
      rw [builtinLookup_eq_fast]
      kernel_rfl)
    (by decide +kernel)
    (by decide +kernel)
    (by decide +kernel)
    (by
      first
        | exact .inl (by decide +kernel)
        | exact .inr (by decide +kernel))
    (by
      rw [isSubtype_type]
      kernel_rfl)
  entry := PySem.F.entry_object_sa
  kind := by decide +kernel
  split := by decide +kernel
  hasOwner := by decide +kernel
  args := PySem.F.store_ValueError.args
  passes := fun self => by kernel_rfl
structure BaseOf (B newId initId : String) (bm : List Value) : Prop where
  new : ∃ nB, NewBy bm nB newId
  ini : InitBy bm B initId
  sto : ∃ S, StoreFacts S bm "object.__setattr__" "object"
  tl : PySem.W.excTail bm bm = true
  ob : bm.contains (.type "object") = true
  flat : ∀ C : Addr, bm.contains (.ref C) = false
theorem base_V : BaseOf "ValueError" "ValueError.__new__" "ValueError.__init__" bmV :=
  ⟨⟨"ValueError", ⟨_, _, PySem.F.excBase_ValueError⟩, by decide +kernel, by decide +kernel, by decide +kernel⟩, ⟨⟨_, excClass_ValueError⟩, by decide +kernel⟩, ⟨_, PySem.F.store_ValueError⟩, by decide +kernel, by decide +kernel, fun _ => rfl⟩
theorem base_I : BaseOf "IndexError" "IndexError.__new__" "IndexError.__init__" bmI :=
  ⟨⟨"IndexError", ⟨_, _, PySem.F.excBase_IndexError⟩, by decide +kernel, by decide +kernel, by decide +kernel⟩, ⟨⟨_, excClass_IndexError⟩, by decide +kernel⟩, ⟨_, PySem.F.store_IndexError⟩, by decide +kernel, by decide +kernel, fun _ => rfl⟩
theorem base_L : BaseOf "LookupError" "LookupError.__new__" "LookupError.__init__" bmL :=
  ⟨⟨"LookupError", ⟨_, _, PySem.F.excBase_LookupError⟩, by decide +kernel, by decide +kernel, by decide +kernel⟩, ⟨⟨_, excClass_LookupError⟩, by decide +kernel⟩, ⟨_, PySem.F.store_LookupError⟩, by decide +kernel, by decide +kernel, fun _ => rfl⟩
/-- KeyError's own new is LookupError's -/
theorem base_K : BaseOf "KeyError" "LookupError.__new__" "KeyError.__init__" bmK :=
  ⟨⟨"LookupError", ⟨_, _, PySem.F.excBase_LookupError⟩, by decide +kernel, by decide +kernel, by decide +kernel⟩, ⟨⟨_, excClass_KeyError⟩, by decide +kernel⟩, ⟨_, store_K⟩, by decide +kernel, by decide +kernel, fun _ => rfl⟩
theorem meta_V : typeOf (.type "ValueError") = pure (.type "type") := by kernel_rfl
theorem meta_K : typeOf (.type "KeyError") = pure (.type "type") := by kernel_rfl
theorem meta_I : typeOf (.type "IndexError") = pure (.type "type") := by kernel_rfl
theorem meta_L : typeOf (.type "LookupError") = pure (.type "type") := by kernel_rfl
/-! ### an own class of the top -/
section
open PySem.W
structure ClsAt (K : Frag) (mg : Str → Option Value) (C : Addr) (x qual : Str) (B newId initId : String) (bm : List Value) (st : Stmt) (fs : List Str) : Prop where
  mg : mg x = some (.ref C)
  own : OwnC K C B newId initId bm
  xf : XfC K C
  ex : ExcC K C
  no : ∀ f ∈ fs, findIn K (.ref C) f = some none
  ini : ∃ F fd, findIn K (.ref C) "__init__" = some (some (.ref F)) ∧ typeIn K (.ref F) = some (.type "function") ∧ Fun K "__init__" qual st F fd
theorem cls_mk {K : Frag} {mg : Str → Option Value} {C F : Addr} {x qual : Str} {B newId initId : String} {bm : List Value} {st : Stmt} {fs : List Str} {nm q : Str} {N : Addr} {bs : List Value} {sn : List Str} {sub : List Value} {ab : Bool} {col : Option Bool} {dd : Option Addr} {k0 k1 k2 k3 k5 : Option Value} {fd : FuncData}
    (Y : BaseOf B newId initId bm) (m : mg x = some (.ref C)) (o : K.lookup C = some (excClassObj nm q C N bs bm true sn sub ab col dd k0 k1 k2 k3 k5 newId)) (i : findIn K (.ref C) "__init__" = some (some (.ref F))) (t : typeIn K (.ref F) = some (.type "function")) (f : Fun K "__init__" qual st F fd)
    (h1 : findIn K (.ref C) "__setattr__" = some (some (.builtin "object.__setattr__"))) (h2 : subIn K (.ref C) (.type "BaseException") = some true) (h3 : typeIn K (.ref C) = some (.type "type")) (h4 : keepIn K (.ref C) = true)
    (h5 : findIn K (.ref C) "__getattribute__" = some (some (.builtin "BaseException.__getattribute__"))) (h6 : findIn K (.ref C) "__getattr__" = some none) (h7 : hasDictIn K C = true) (h8 : findIn K (.ref C) "__class__" = some (some (.builtin "object.__class__")))
    (h9 : mroIn K C (.type "object") = some true) (e1 : specialIn K (.builtin "object.__class__") "__get__" = some (some (.builtin "getset_descriptor.__get__"))) (e2 : takesIn K (.builtin "object.__class__") = some true)
    (no : ∀ f ∈ fs, findIn K (.ref C) f = some none) : ClsAt K mg C x qual B newId initId bm st fs :=
  ⟨m, ⟨⟨nm, q, N, bs, sn, sub, ab, col, dd, k0, k1, k2, k3, k5, o⟩, Y.new, Y.ini, Y.sto, h1, Y.tl, Y.ob, h2, h3, h4⟩, ⟨h5, h6, h2, h7⟩, ⟨h5, h6, h2, h7, h8, e1, e2, h9⟩, no, F, fd, i, t, f⟩
theorem no0 {p : Str → Prop} : ∀ f ∈ ([] : List Str), p f := fun f h => by cases h
theorem no1 {p : Str → Prop} {a : Str} (h : p a) : ∀ f ∈ [a], p f := fun f hf => by
  rw [List.mem_singleton.mp hf]
  exact h
theorem no2 {p : Str → Prop} {a b : Str} (h : p a) (k : p b) : ∀ f ∈ [a, b], p f := fun f hf => by
  rcases List.mem_cons.mp hf with e | e
  · rw [e]
    exact h
  · rw [List.mem_singleton.mp e]
    exact k
/-- whether one stands under another -/
theorem kit_two {K : Frag} {mg mg' : Str → Option Value} {C C' : Addr} {x qual x' qual' : Str} {B newId initId B' newId' initId' : String} {bm bm' : List Value} {st st' : Stmt} {fs fs' : List Str} (T : ClsAt K mg C x qual B newId initId bm st fs) (T' : ClsAt K mg' C' x' qual' B' newId' initId' bm' st' fs')
    (flat : bm.contains (.ref C') = false) : kitOne K (.ref C) (.ref C') = some (decide (C = C')) := by
  refine kit_own T'.ex.hd T'.own.tyC ?_
  obtain ⟨cd, hc, hm, _⟩ := T.own.clsIn
  show mroIn K C (.ref C') = _
  unfold mroIn
  rw [hc, Option.bind_some, hm]
  show some ((Value.ref C :: bm).contains (.ref C')) = _
  rw [List.contains_cons, flat, Bool.or_false]
  congr 1
  by_cases h : C = C'
  · subst h
    rw [decide_eq_true rfl]
    exact beq_self_eq_true _
  · rw [decide_eq_false h]
    exact Bool.eq_false_iff.mpr fun z => h (Value.ref.inj (beq_iff_eq.mp z)).symm
theorem kit_base {K : Frag} {mg : Str → Option Value} {C : Addr} {x qual : Str} {B newId initId : String} {bm : List Value} {st : Stmt} {fs : List Str} {T : String} {b : Bool} (Y : ClsAt K mg C x qual B newId initId bm st fs) (km : kitMeta T = true) (h : bm.contains (.type T) = b) :
    kitOne K (.ref C) (.type T) = some b := by
  obtain ⟨cd, hc, hm, _⟩ := Y.own.clsIn
  show (if (Value.ref C == Value.type T) = true then some true else kitCls K (.ref C) (.type T)) = _
  have ne : (Value.ref C == Value.type T) = false := Bool.eq_false_iff.mpr fun z => by
    have e := beq_iff_eq.mp z
    cases e
  rw [ne, if_neg Bool.false_ne_true]
  show (if kitMeta T = true then subIn K (.ref C) (.type T) else none) = _
  rw [if_pos km]
  show mroIn K C (.type T) = _
  unfold mroIn
  rw [hc, Option.bind_some, hm]
  show some ((Value.ref C :: bm).contains (.type T)) = _
  rw [List.contains_cons, h]
  rfl
end
/-- its __init__ keeps sp -/
structure HasC (P : Program) (w : World) (K : PySem.W.Frag) (mg : Str → Option Value) (base : Heap) (C : Addr) (x : Str) (ps : List Str) (sp : Sp) : Prop where
  ex : ∃ (B newId initId : String) (bm : List Value) (F : Addr) (fd : FuncData), mg x = some (.ref C) ∧ OwnC K C B newId initId bm ∧ PySem.W.findIn K (.ref C) "__init__" = some (some (.ref F)) ∧ PySem.W.typeIn K (.ref F) = some (.type "function") ∧ FnOk P w K mg base CX0 1 F fd ps sp ∧ Binds K fd ps []
theorem pe_hasC {X : Cx} {C : Addr} {x : Str} {ps : List Str} {sp : Sp} {e : Expr} {es : List Expr} {t : TA} {p pos : Pos} (h : HasC X.prog X.w X.K X.mg X.base C x ps sp) (hr : Room 2 X.A) (hg : Gl X x) (ha : PA X (e :: es) t)
    (hdb : (x == ("__debug__" : Str)) = false := by decide) (he : starEach (e :: es) X.env = (false, eval e X.env) :: starEach es X.env := by rfl) (hpl : (backTo pos (starEach es X.env)).any (·.1) = false := by rfl) :
    PE X (.Call (.Name x p) (e :: es) [] pos) (tOwnV C sp t) := by
  obtain ⟨B, newId, initId, bm, F, fd, hm, T, iC, tI, f, b⟩ := h.ex
  exact pe_own T iC tI f hr b pass0 hg hm ha hdb he hpl
theorem pe_hasC0 {X : Cx} {C : Addr} {x : Str} {ps : List Str} {sp : Sp} {p pos : Pos} (h : HasC X.prog X.w X.K X.mg X.base C x ps sp) (hr : Room 2 X.A) (hg : Gl X x) (hdb : (x == ("__debug__" : Str)) = false := by decide) :
    PE X (.Call (.Name x p) [] [] pos) (tOwnV C sp tNil) := by
  obtain ⟨B, newId, initId, bm, F, fd, hm, T, iC, tI, f, b⟩ := h.ex
  exact pe_own0 T iC tI f hr b pass0 hg hm hdb
/-! ### what such an __init__ promises: no field, one, two -/
section
variable (C : Addr) (f g : Str)
def spI0 : Sp := fun vs H Q _ => ∃ a, vs = [.ref a] ∧ H a = some (exo a C none) ∧ Q .non H
def spI1 : Sp := fun vs H Q _ => ∃ a v, vs = [.ref a, v] ∧ Fld v ∧ H a = some (exo a C none) ∧ ∀ dx, H dx = none → dx ≠ a → Q .non (upd (upd H dx (exd dx [(f, v)])) a (exo a C (some dx)))
def spI2 : Sp := fun vs H Q _ => ∃ a u v, vs = [.ref a, u, v] ∧ Fld u ∧ Fld v ∧ H a = some (exo a C none) ∧ ∀ dx, H dx = none → dx ≠ a → Q .non (upd (upd (upd H dx (exd dx [(f, u)])) a (exo a C (some dx))) dx (exd dx [(g, v), (f, u)]))
end
/-! ### texts of parts -/
theorem part2 {a y : Str} {n m : Nat} (h1 : a.length ≤ n) (h2 : y.length ≤ m) : (a ++ y).length ≤ n + m := by
  rw [PySem.Str.length_append]
  exact Nat.add_le_add h1 h2
theorem part {a y : Str} {n m : Nat} (h1 : a.length ≤ n) (h2 : y.length ≤ m) (h3 : n + m ≤ 10000) : (a ++ y).length ≤ sizeLine :=
  Nat.le_trans (part2 h1 h2) (Nat.le_trans h3 (by decide))
/-- an own class by its name -/
theorem pe_cls {X : Cx} {x : Str} {C : Addr} {pos : Pos} (m : X.mg x = some (.ref C)) (hg : Gl X x) (hd : (x == ("__debug__" : Str)) = false := by decide) : PE X (.Name x pos) (tC (.ref C)) := pe_glob (v := .ref C) hg m rfl hd
theorem getD_inj {l : List Addr} (nd : l.Nodup) (i j : Nat) (hi : i < l.length) (hj : j < l.length) (h : l.getD i 0 = l.getD j 0) : i = j := by
  rw [List.getD_eq_getElem?_getD, List.getD_eq_getElem?_getD, List.getElem?_eq_getElem hi, List.getElem?_eq_getElem hj, Option.getD_some, Option.getD_some] at h
  have z := List.pairwise_iff_getElem.mp nd
  rcases Nat.lt_trichotomy i j with c | c | c
  · exact absurd h (z i j hi hj c)
  · exact c
  · exact absurd h.symm (z j i hj hi c)

/-! ### a tuple of texts of the top -/
structure CTup (K : PySem.W.Frag) (mg : Str → Option Value) (x : Str) (ws : List Str) : Prop where
  ex : ∃ p, mg x = some (.ref p) ∧ ∃ (o : Obj) (its : Array Value) (n : Nat), K.lookup p = some o ∧ o.cls = .type "tuple" ∧ o.data = .seq its n ∧ its.size ≤ sizeLine ∧ Vals (ws.map V.str) its.toList
theorem pe_ctup {X : Cx} {x : Str} {ws : List Str} {pos : Pos} (h : CTup X.K X.mg x ws) (hg : Gl X x) (hd : (x == ("__debug__" : Str)) = false := by decide) :
    PE X (.Name x pos) (fun _ H Q => ∀ p, (∀ H', SqT X.K H' p (ws.map V.str)) → Q (.ref p) H) := by
  obtain ⟨p, hm, e⟩ := h.ex
  exact ⟨fun _ _ _ H _ I h => ld_glob I hg hm ⟨.ref p, H, I, rfl, h p fun H' => .inr e⟩ hd⟩
theorem ctup_mk {K : PySem.W.Frag} {mg : Str → Option Value} {x : Str} {ws : List Str} {p : Addr} {pd : Option Addr} {its : Array Value} {n : Nat} {sl : Array (Option Value)} (hm : mg x = some (.ref p)) (l : K.lookup p = some ⟨.type "tuple", pd, .seq its n, sl⟩)
    (few : its.size ≤ 1000) (v : Vals (ws.map V.str) its.toList) : CTup K mg x ws :=
  ⟨p, hm, _, its, n, l, rfl, rfl, Nat.le_trans few (by decide), v⟩

structure Top (K : PySem.W.Frag) (mg : Str → Option Value) (cs : Nat → Addr) : Prop where
  d_ways : At K mg "ways" s_ways
  d_how_many : At K mg "how_many" s_how_many
  d_choices : At K mg "choices" s_choices
  d__with_one_more : At K mg "_with_one_more" s__with_one_more
  d_others : At K mg "others" s_others
  d_sums_knot : At K mg "sums_knot" s_sums_knot
  d_pairs_knot : At K mg "pairs_knot" s_pairs_knot
  d_codes_knot : At K mg "codes_knot" s_codes_knot
  d_counted : At K mg "counted" s_counted
  d_clauses_of_count : At K mg "clauses_of_count" s_clauses_of_count
  d__marks_at : At K mg "_marks_at" s__marks_at
  d__has_digit : At K mg "_has_digit" s__has_digit
  d__law_begun : At K mg "_law_begun" s__law_begun
  d__law_draw : At K mg "_law_draw" s__law_draw
  d__law_pick : At K mg "_law_pick" s__law_pick
  d__law_marks : At K mg "_law_marks" s__law_marks
  d__law_rows : At K mg "_law_rows" s__law_rows
  d__law_choices : At K mg "_law_choices" s__law_choices
  d__law_at : At K mg "_law_at" s__law_at
  d__law_turned : At K mg "_law_turned" s__law_turned
  d__law_pairs : At K mg "_law_pairs" s__law_pairs
  d__law_power : At K mg "_law_power" s__law_power
  d__law_codes : At K mg "_law_codes" s__law_codes
  d_law : At K mg "law" s_law
  k_TooMany : ClsAt K mg (cs 0) "TooMany" "TooMany.__init__" "IndexError" "IndexError.__new__" "IndexError.__init__" bmI s_TooMany___init__ ["many"]
  one : ∀ i j, i < 1 → j < 1 → cs i = cs j → i = j
  i_ValueError : PySem.W.findCls K (.type "ValueError") (.type "type") "__init__" = some (.val (.builtin "ValueError.__init__"))
  i_IndexError : PySem.W.findCls K (.type "IndexError") (.type "type") "__init__" = some (.val (.builtin "IndexError.__init__"))
  i_KeyError : PySem.W.findCls K (.type "KeyError") (.type "type") "__init__" = some (.val (.builtin "KeyError.__init__"))
  i_LookupError : PySem.W.findCls K (.type "LookupError") (.type "type") "__init__" = some (.val (.builtin "LookupError.__init__"))
  c_MOST_CHOICES : ∃ t, mg "MOST_CHOICES" = some (.int 3003 t)
  b_len : mg "len" = none
  b_sum : mg "sum" = none
  b_range : mg "range" = none
  b_min : mg "min" = none
  b_max : mg "max" = none
  b_tuple : mg "tuple" = none
  b_enumerate : mg "enumerate" = none
  b_zip : mg "zip" = none
  b_list : mg "list" = none
  b_repr : mg "repr" = none
  b_IndexError : mg "IndexError" = none
section
variable {P : Program} {w : World} {K : PySem.W.Frag} {mg : Str → Option Value} {base : Heap} {cs : Nat → Addr}
theorem hc_TooMany (T : Top K mg cs) : HasC P w K mg base (cs 0) "TooMany" ["self", "many"] (spI1 (cs 0) "many") := by
  obtain ⟨F, fd, iC, tI, f⟩ := T.k_TooMany.ini
  refine ⟨_, _, _, _, F, fd, T.k_TooMany.mg, T.k_TooMany.own, iC, tI, ?_, f.binds fun _ _ _ _ _ _ us hl => match us, hl with | [_, _], _ => rfl⟩
  refine f.ok sc_TooMany___init__ (fun vs H Q E h => ?_) (fun cdv A outer s H vs Q E hr h => ?_)
  · obtain ⟨a, v0, rfl, _⟩ := h
    rfl
  · have nd := sc_TooMany___init__.nd
    obtain ⟨a, v0, rfl, f0, ha, k⟩ := h
    refine ⟨_, (pss_cons (ps_expr (pe_ownInit (newId := "IndexError.__new__") (initId := "IndexError.__init__") (bm := bmI) (by rfl) T.b_IndexError (by decide +kernel) meta_I (by decide +kernel) T.i_IndexError (by decide +kernel) (pa_cons (pv 0) (pa_cons (pe_joined (.cons pe_str (.cons (pe_fmtN (pv 1)) .nil))) pa_nil))))
    (pss_one (ps_ownS (B := "IndexError") (newId := "IndexError.__new__") (initId := "IndexError.__init__") (bm := bmI) (pv 0) (pv 1)))), ?_⟩
    refine ⟨_, rfl, ?_⟩
    refine ⟨_, rfl, part (n := 0) (m := 100) (by decide) (by decide +kernel) (by decide), ?_⟩
    refine ⟨_, rfl, fld_fmt f0 fun yf0 hf0 => ?_⟩
    refine ⟨_, rfl, part (n := 100) (m := 100) (part2 (n := 0) (m := 100) (by decide) (by decide +kernel)) hf0 (by decide), ?_⟩
    refine ⟨a, cs 0, [_], rfl, by show 1 ≤ 1000; decide, T.k_TooMany.own, ha, ?_⟩
    exact ⟨_, rfl, _, rfl, a, cs 0, rfl, T.k_TooMany.own, T.k_TooMany.no _ (by simp), .inl ⟨ha, fun dx n ne => k dx n ne⟩⟩
end
/-! ### raising an exception of an own class, and catching it -/
section
variable {X : Cx}
/-- the end of C(..) without a field: the exception is let go -/
theorem mk_endN {pins : List (Addr × Obj)} {σ : L2.St} {H1 H2 : Hp} {Q : XK} {hp hp2 h2 : Heap} {g1 g2 : Array GenState} {d1 d2 : Drawn} {t1 t2 : Nat} {os1 os2 : OsState} {a C : Addr} (T : Raises X (.ref C)) (I1 : Inv X pins σ H1 ⟨hp, g1, d1, t1, os1⟩)
    (ha : hp.objs.size ≤ a) (k : ∀ b o, hp.get? b = some o → hp2.get? b = some o) (un : Un (frs X.stack) [] (upd H1 a (exo a C none)) H2 hp2 h2) (hok : HOk X.prog X.w H2 h2) (ho : os2 = os1) (hb : AllBare g2)
    (ea : H2 a = some (exo a C none)) (q : Q (.ref C) none (del H2 a)) : MkP X pins σ Q (.ref a) ⟨h2, g2, d2, t2, os2⟩ := by
  obtain ⟨t0, hoe⟩ := exo_at hok ea
  have hn : H1 a = none := I1.hok.fresh ha
  obtain ⟨G, g1', g2'⟩ := restrict h2 fun b => decide (b ≠ a)
  have gk : ∀ b, b ≠ a → G.get? b = h2.get? b := fun b hb => g1' b (decide_eq_true hb)
  have ge : G.get? a = none := g2' a (by simp)
  have nha : ∀ {b : Addr} {o : Obj}, hp.get? b = some o → b ≠ a := fun {b o} z => Nat.ne_of_lt (Nat.lt_of_lt_of_le (Heap.lt_size z) ha)
  have up : ∀ {b : Addr}, b ≠ a → H1 b = none → upd H1 a (exo a C none) b = none := fun {b} hb n => by
    rw [upd_ne hb]
    exact n
  have un2 : Un (frs X.stack) [] H1 (del H2 a) hp G := {
    keep := fun b o z n hf hx => by
      rw [gk b (nha z)]
      exact un.keep b o (k b o z) (up (nha z) n) hf hx
    slot := fun b o z n hf hx => by
      rw [gk b (nha z)]
      exact un.slot b o (k b o z) (up (nha z) n) hf hx
    free := fun b o z n hx => by
      rw [del_ne (nha z)]
      exact un.free b o (k b o z) (up (nha z) n) hx
    there := fun b o z hx => by
      rw [gk b (nha z)]
      exact un.there b o (k b o z) hx
    tups := fun b xs z => by
      rw [del_ne (ne_of_none z hn)]
      exact un.tups b xs (by rw [upd_ne (ne_of_none z hn)]; exact z)
    frzs := fun b o v z => by
      rw [del_ne (ne_of_none z hn)]
      exact un.frzs b o v (by rw [upd_ne (ne_of_none z hn)]; exact z)
    tbls := fun b ps z => by
      rw [del_ne (ne_of_none z hn)]
      exact un.tbls b ps (by rw [upd_ne (ne_of_none z hn)]; exact z) }
  have ok2 : HOk X.prog X.w (del H2 a) G := fun b o z => by
    have hba : b ≠ a := fun e => by
      rw [e, del_same] at z
      cases z
    rw [del_ne hba] at z
    have noa : ∀ {c : Addr}, H2 c = some (.own b) → c ≠ a := fun {c} hc => L2.at_ne ea hc exo_own
    exact (hok b o z).stay (fun c v hc y => by
        have hca : c ≠ a := by
          rcases hc with hc | hc
          · rw [hc]
            exact hba
          · exact noa hc
        rw [gk c hca]
        exact y)
      (fun c hc => by rw [del_ne (noa hc)]; exact hc) (fun c xs hc => by rw [del_ne (L2.at_ne ea hc exo_tup)]; exact hc)
  have J : Inv X pins σ (del H2 a) ⟨G, g2, d2, t2, os2⟩ := I1.call' (ch := []) ho un2 ok2 hb (fun b z => absurd z (by simp))
  exact ⟨a, _, _, ⟨G, g2, d2, t2, os2⟩, _, .ref C, none, rfl, J, fun b o z => by
    by_cases hba : b = a
    · rw [hba, ge] at z
      cases z
    · exact (gk b hba).symm.trans z, ge, hoe, ⟨rfl, rfl⟩, rfl, rfl, del_same, rfl, hb, T, q⟩
/-- C(e, ..), to be raised -/
def tMkC (C : Addr) (sp : Sp) (ta : TA) : L2.St → Hp → XK → Prop := fun σ H Q => ta σ H fun vs H1 => vs.length ≤ 1000 ∧ ∀ a, H1 a = none → sp (.ref a :: vs) (upd H1 a (exo a C none))
  (fun v H2 => v = .non ∧ ((H2 a = some (exo a C none) ∧ Q (.ref C) none (del H2 a)) ∨ ∃ (d : Addr) (fs : List (Str × V)), H2 a = some (exo a C (some d)) ∧ H2 d = some (exd d fs) ∧ H1 d = none ∧ Q (.ref C) (some d) (upd (del H2 a) d (.xd fs)))) (fun _ _ _ => False)
theorem mk_call {CX : CXT} {C fI : Addr} {k : Nat} {fd : FuncData} {ps : List Str} {sp : Sp} {B newId initId : String} {bm : List Value} (T : OwnC X.K C B newId initId bm) (iC : PySem.W.findIn X.K (.ref C) "__init__" = some (some (.ref fI))) (tI : PySem.W.typeIn X.K (.ref fI) = some (.type "function"))
    (F1 : FnOk X.prog X.w X.K X.mg X.base CX k fI fd ps sp) (hr : Room (k + 1) X.A) (hb : Binds X.K fd ps []) (hx : Passes CX X (fun _ _ _ => False)) {pins : List (Addr × Obj)} {σ : L2.St} {H : Hp} {s : Shared} {Q : XK} {us : List Value} {vs : List V}
    (I : Inv X pins σ H s) (r : Vals vs us) (few : vs.length ≤ 1000) (h : ∀ a, H a = none → sp (.ref a :: vs) (upd H a (exo a C none))
      (fun v H2 => v = .non ∧ ((H2 a = some (exo a C none) ∧ Q (.ref C) none (del H2 a)) ∨ ∃ (d : Addr) (fs : List (Str × V)), H2 a = some (exo a C (some d)) ∧ H2 d = some (exd d fs) ∧ H d = none ∧ Q (.ref C) (some d) (upd (del H2 a) d (.xd fs)))) (fun _ _ _ => False)) :
    wpAny (model X.prog X.w) X.A (call (.ref C) us) (MkP X pins σ Q) X.xe s := by
  obtain ⟨nm, q, N, bs, sn, sub, ab, col, dd, k0, k1, k2, k3, k5, o⟩ := T.cls
  obtain ⟨nB, Y⟩ := T.new
  obtain ⟨hp, g, dr, tk, os⟩ := s
  have lt : hp.objs.size ≤ hp.objs.size + 1 := Nat.le_succ _
  have no : H (hp.objs.size + 1) = none := I.hok.fresh lt
  have hq := h (hp.objs.size + 1) no
  have up : ∀ b u, hp.get? b = some u → ((hp.push (PySem.W.kdv_tup us)).push (bare C hp.objs.size)).get? b = some u := fun b u e => Heap.get?_push_of_some _ (Heap.get?_push_of_some _ e)
  have at2 : ((hp.push (PySem.W.kdv_tup us)).push (bare C hp.objs.size)).get? (hp.objs.size + 1) = some (bare C hp.objs.size) := by heap_get
  have I2 : Inv X pins σ (upd H (hp.objs.size + 1) (exo (hp.objs.size + 1) C none)) ⟨(hp.push (PySem.W.kdv_tup us)).push (bare C hp.objs.size), g, dr, tk, os⟩ :=
    I.laid (t' := tk) (a := hp.objs.size + 1) (o := exo (hp.objs.size + 1) C none) (h' := (hp.push (PySem.W.kdv_tup us)).push (bare C hp.objs.size)) up lt (exo_ok at2)
  have r2 : Vals (V.ref (hp.objs.size + 1) :: vs) (Value.ref (hp.objs.size + 1) :: us) := .cons rfl r
  have hl : (Value.ref (hp.objs.size + 1) :: us).length = ps.length := by
    rw [← r2.length]
    exact F1.len _ _ _ _ hq
  have fit : us.length ≤ sizeLine := by
    rw [← Paired.length r, sizeLine_eq]
    omega
  have hbd := hb ⟨(hp.push (PySem.W.kdv_tup us)).push (bare C hp.objs.size), g, dr, tk, os⟩ (Value.ref (hp.objs.size + 1) :: us) I2.kIn (by rw [List.append_nil]; exact hl)
  rw [List.append_nil] at hbd
  refine wpAny_call (call_made Y (I.kIn _ _ o) (PySem.W.looks_findIn I.kIn iC) (fun x => PySem.W.bind_fn I.kIn x tI) fit
    (codeAny_mono (F1.run _ X.stack _ _ ⟨Value.ref (hp.objs.size + 1) :: us, []⟩ (Value.ref (hp.objs.size + 1) :: us) _ _ (fun _ _ _ => False) (hr.make C us []) (I2.env0.make C us []) hbd r2 hq) fun r s2 z => ?_))
  cases r with
  | error er => exact hx pins σ _ _ er s2 I2 z
  | ok fl =>
    cases fl with
    | ret u =>
      obtain ⟨v, H2, os2, bare2, un2, hok2, rv, ev, q⟩ := z
      subst ev
      obtain ⟨h2, g2, d2, t2, os'⟩ := s2
      have R : Raises X (.ref C) := raises_own T.exC T.tyC
      rcases q with ⟨ea, q2⟩ | ⟨d, fs, ea, ed, hd1, q2⟩
      · exact ⟨rv, mk_endN R I lt up un2 hok2 os2 bare2 ea q2⟩
      · exact ⟨rv, mk_end R I lt up un2 hok2 os2 bare2 ea ed hd1 q2⟩
    | next => exact False.elim z
    | brk => exact False.elim z
    | cont => exact False.elim z
theorem pmk_hasC {C : Addr} {x : Str} {ps : List Str} {sp : Sp} {e : Expr} {es : List Expr} {t : TA} {p pos : Pos} (h : HasC X.prog X.w X.K X.mg X.base C x ps sp) (hr : Room 2 X.A) (hg : Gl X x) (ha : PA X (e :: es) t)
    (hdb : (x == ("__debug__" : Str)) = false := by decide) (he : starEach (e :: es) X.env = (false, eval e X.env) :: starEach es X.env := by rfl) (hpl : (backTo pos (starEach es X.env)).any (·.1) = false := by rfl) :
    PMk X (.Call (.Name x p) (e :: es) [] pos) (tMkC C sp t) := by
  obtain ⟨B, newId, initId, bm, F, fd, hm, T, iC, tI, f, b⟩ := h.ex
  intro pins s σ H Q I h
  refine wpAny_Call_Name_kw (ld_glob I hg hm ?_ hdb)
  refine PySem.W.callWith_K (h₀ := X.base) I.ok.mod.kin T.kC (thn (ha.run pos pins s σ H _ I h) fun us s1 ⟨vs, H1, I1, r1, hz, q1⟩ => ⟨I1.kIn, ?_⟩) he hpl
  exact mk_call T iC tI f hr b pass0 I1 r1 hz q1
theorem pmk_hasC0 {C : Addr} {x : Str} {ps : List Str} {sp : Sp} {p pos : Pos} (h : HasC X.prog X.w X.K X.mg X.base C x ps sp) (hr : Room 2 X.A) (hg : Gl X x) (hdb : (x == ("__debug__" : Str)) = false := by decide) :
    PMk X (.Call (.Name x p) [] [] pos) (tMkC C sp tNil) := by
  obtain ⟨B, newId, initId, bm, F, fd, hm, T, iC, tI, f, b⟩ := h.ex
  intro pins s σ H Q I h
  refine wpAny_Call_Name_kw (ld_glob I hg hm ?_ hdb)
  exact PySem.W.callWith_K0 I.kIn T.kC (mk_call (us := []) T iC tI f hr b pass0 I .nil h.1 h.2)
theorem del_upd {H : Hp} {a : Addr} {o : HO} (h : H a = none) : del (upd H a o) a = H := funext fun b => by
  by_cases e : b = a
  · rw [e, del_same, h]
  · rw [del_ne e, upd_ne e]
/-- C() without a field -/
theorem pmk_own0 {C : Addr} {x : Str} {p pos : Pos} (h : HasC X.prog X.w X.K X.mg X.base C x ["self"] (spI0 C)) (hr : Room 2 X.A) (hg : Gl X x) (hdb : (x == ("__debug__" : Str)) = false := by decide) :
    PMk X (.Call (.Name x p) [] [] pos) (fun _ H Q => Q (.ref C) none H) := fun pins s σ H Q I q =>
  pmk_hasC0 h hr hg hdb pins s σ H Q I ⟨by show 0 ≤ 1000; decide, fun a na => ⟨a, rfl, upd_same, rfl, .inl ⟨upd_same, by rw [del_upd na]; exact q⟩⟩⟩
/-! ### defs that may raise -/
structure HasX (P : Program) (w : World) (K : PySem.W.Frag) (mg : Str → Option Value) (base : Heap) (k : Nat) (x : Str) (ps : List Str) (sp : Sp) : Prop where
  ex : ∃ f fd, mg x = some (.ref f) ∧ PySem.W.keepIn K (.ref f) = true ∧ Binds K fd ps [] ∧ FnOk P w K mg base (L2.CX P w) k f fd ps sp
theorem has_ofX {P : Program} {w : World} {K : PySem.W.Frag} {mg : Str → Option Value} {base : Heap} {x : Str} {st : Stmt} {N ps : List Str} {k : Nat} {sp : Sp} (A : At K mg x st) (S : FnScope N ps (defScope st)) (B : BindsAll x st ps) (len : ∀ vs H Q E, sp vs H Q E → vs.length = ps.length)
    (hbody : ∀ (f : Addr) (cdv : Value) (A : Around) (outer : List Env) (s : Shared) (H : Hp) (vs : List V) (Q : VK) (E : XK), Room k (A.deeper (envOfC x (defScope st) s.heap.objs.size f cdv)) → sp vs H Q E →
      ∃ t, PSs (cxOf (L2.CX P w) P w K mg base N x (defScope st) f cdv A outer s H E) (defBody st) t ∧ t { nx := fun _ H' => Q .non H', rt := Q } (start N vs) H) : HasX P w K mg base (k + 1) x ps sp := by
  obtain ⟨f, fd, hm, F⟩ := A.ex
  exact ⟨f, fd, hm, F.kp, F.binds B, F.okX S len fun cdv A outer s H vs Q E hr h => hbody f cdv A outer s H vs Q E hr h⟩
theorem pe_hasX {W : WX} {k : Nat} {x : Str} {ps : List Str} {sp : Sp} {e : Expr} {es : List Expr} {t : TA} {p pos : Pos} (tk : Takes X W) (h : HasX X.prog X.w X.K X.mg X.base k x ps sp) (hr : Room k X.A) (hg : Gl X x) (ha : PA X (e :: es) t)
    (hdb : (x == ("__debug__" : Str)) = false := by decide) (he : starEach (e :: es) X.env = (false, eval e X.env) :: starEach es X.env := by rfl) (hpl : (backTo pos (starEach es X.env)).any (·.1) = false := by rfl) :
    PE X (.Call (.Name x p) (e :: es) [] pos) (tCallS sp (WE W) t) := by
  obtain ⟨f, fd, hm, hk, hb, F⟩ := h.ex
  exact pe_callS F hr hg hm hk hb (fun σ => L2.passAt tk σ) ha hdb he hpl
/-- here it lets nothing out -/
theorem pe_hasX0 {k : Nat} {x : Str} {ps : List Str} {sp : Sp} {e : Expr} {es : List Expr} {t : TA} {p pos : Pos} (h : HasX X.prog X.w X.K X.mg X.base k x ps sp) (hr : Room k X.A) (hg : Gl X x) (ha : PA X (e :: es) t)
    (hdb : (x == ("__debug__" : Str)) = false := by decide) (he : starEach (e :: es) X.env = (false, eval e X.env) :: starEach es X.env := by rfl) (hpl : (backTo pos (starEach es X.env)).any (·.1) = false := by rfl) :
    PE X (.Call (.Name x p) (e :: es) [] pos) (tCall sp [] E0 t) := by
  obtain ⟨f, fd, hm, hk, hb, F⟩ := h.ex
  exact pe_call F hr hg hm hk hb .nil L2.passL ha hdb he hpl
end
/-! ### isinstance of a caught one -/
/-- what its dict holds is known, where it has one -/
def XdAt (H : Hp) (d : Option Addr) : Prop := ∀ dx, d = some dx → ∃ fs, H dx = some (.xd fs)
theorem xd_none {H : Hp} : XdAt H none := fun dx z => by cases z
theorem caught_at {X : Cx} {pins pn : List (Addr × Obj)} {σ : L2.St} {H : Hp} {s : Shared} {a D : Addr} {d : Option Addr} {oe : Obj} (hz : Zc (.ref D) d oe) (hf : ∃ vs, oe.data = .fields vs) (I : Inv (X.suite a ((a, oe) :: pn)) pins σ H s) (hd : XdAt H d) :
    ∃ od, PySem.W.InstAt s.heap a oe D od := by
  obtain ⟨hget, _⟩ := I.pin (a, oe) (List.mem_append.mpr (.inl List.mem_cons_self))
  obtain ⟨vs, hv⟩ := hf
  have nc : PySem.W.notCls oe = true := by
    unfold PySem.W.notCls
    rw [hv] <;> rfl
  cases d with
  | none => exact ⟨none, hget, hz.1, nc, by rw [hz.2]; trivial⟩
  | some dx =>
    obtain ⟨fs, e⟩ := hd dx rfl
    have hx : ObjOk X.prog X.w H s.heap dx (.xd fs) := I.hok dx _ e
    obtain ⟨mA, hns, _⟩ := hx
    obtain ⟨od, ho, _⟩ := lookIn_ns hns
    exact ⟨some od, hget, hz.1, nc, by rw [hz.2]; exact ho⟩
def rIsX (K : PySem.W.Frag) (cls : Value) (d : Option Addr) (a : Addr) : List V → Hp → VK → Prop := fun xs H Q => ∃ (c : V) (cv : Value) (D : Addr) (b : Bool), xs = [.ref a, c] ∧ cls = .ref D ∧ ClsV c cv ∧ ExcC K D ∧ XdAt H d ∧ PySem.W.kitOne K (.ref D) cv = some b ∧ Q (.bl b) H
theorem call_isX {X : Cx} {a : Addr} {cls : Value} {d : Option Addr} {oe : Obj} {pn : List (Addr × Obj)} (hz : Zc cls d oe) (hf : ∃ vs, oe.data = .fields vs) : CallR (X.suite a ((a, oe) :: pn)) (.builtin "isinstance") (rIsX X.K cls d a) := by
  intro pins s σ H xs us Q I r h
  obtain ⟨c, cv, D, b, rfl, rfl, kc, T, hd, e, q⟩ := h
  obtain ⟨u1, u2, rfl, r1, r2⟩ := vals2 r
  have e2 := kc.eq r2
  subst e2
  cases r1
  obtain ⟨od, J⟩ := caught_at hz hf I hd
  exact PySem.W.kia_one (exo_kit T) I.kIn J e (fun z => nomatch z) fun tk => ⟨.bl b, H, I.tok tk, rfl, q⟩
def rIsXT (K : PySem.W.Frag) (cls : Value) (d : Option Addr) (a : Addr) : List V → Hp → VK → Prop := fun xs H Q => ∃ (tp : Addr) (cs : List V) (us : List Value) (D : Addr) (b : Bool), xs = [.ref a, .ref tp] ∧ cls = .ref D ∧ H tp = some (.tup cs) ∧ Paired ClsV cs us ∧ ExcC K D ∧ XdAt H d ∧ PySem.W.kitAny K (.ref D) us = some b ∧ Q (.bl b) H
theorem call_isXT {X : Cx} {a : Addr} {cls : Value} {d : Option Addr} {oe : Obj} {pn : List (Addr × Obj)} (hz : Zc cls d oe) (hf : ∃ vs, oe.data = .fields vs) : CallR (X.suite a ((a, oe) :: pn)) (.builtin "isinstance") (rIsXT X.K cls d a) := by
  intro pins s σ H xs us Q I r h
  obtain ⟨tp, cs, ws, D, b, rfl, rfl, ht, kc, T, hd, e, q⟩ := h
  obtain ⟨u1, u2, rfl, r1, r2⟩ := vals2 r
  cases r1
  cases r2
  obtain ⟨od, J⟩ := caught_at hz hf I hd
  have hx : ObjOk X.prog X.w H s.heap tp (.tup cs) := I.hok tp _ ht
  obtain ⟨_, vs, rv, o, ho, h2, n, h3⟩ := hx
  obtain ⟨oc, od', oda, osl⟩ := o
  dsimp only at h2 h3
  subst h2 h3
  have e3 := ClsV.all kc rv
  subst e3
  exact PySem.W.kia_tup (exo_kit T) I.kIn J ho e (fun z => nomatch z) fun tk => ⟨.bl b, H, I.tok tk, rfl, q⟩
/-- the class that a clause names, own -/
theorem names_own {X : Cx} {x : Str} {C : Addr} (m : X.mg x = some (.ref C)) (hg : Gl X x) (hd : (x == ("__debug__" : Str)) = false := by decide) : Names X x (.ref C) := ⟨hg, hd, .inl m⟩
/-- one own class in a clause that names another -/
theorem exm_two {K : PySem.W.Frag} {mg mg' : Str → Option Value} {C C' : Addr} {x qual x' qual' : Str} {B newId initId B' newId' initId' : String} {bm bm' : List Value} {st st' : Stmt} {fs fs' : List Str} (T : ClsAt K mg C x qual B newId initId bm st fs) (T' : ClsAt K mg' C' x' qual' B' newId' initId' bm' st' fs')
    (flat : bm.contains (.ref C') = false) : PySem.W.exmOne K (.ref C) (.ref C') = some (decide (C = C')) := by
  refine PySem.W.exm_ref T'.ex.hs T'.ex.hd T'.own.tyC ?_
  obtain ⟨cd, hc, hm, _⟩ := T.own.clsIn
  show PySem.W.mroIn K C (.ref C') = _
  unfold PySem.W.mroIn
  rw [hc, Option.bind_some, hm]
  show some ((Value.ref C :: bm).contains (.ref C')) = _
  rw [List.contains_cons, flat, Bool.or_false]
  congr 1
  by_cases h : C = C'
  · subst h
    rw [decide_eq_true rfl]
    exact beq_self_eq_true _
  · rw [decide_eq_false h]
    exact Bool.eq_false_iff.mpr fun z => h (Value.ref.inj (beq_iff_eq.mp z)).symm
theorem kit_nil {K : PySem.W.Frag} {t : Value} : PySem.W.kitAny K t [] = some false := rfl
theorem kit_no {K : PySem.W.Frag} {t c : Value} {r : List Value} (h : PySem.W.kitOne K t c = some false) (k : PySem.W.kitAny K t r = some false) : PySem.W.kitAny K t (c :: r) = some false := by
  unfold PySem.W.kitAny
  rw [h]
  exact k
theorem kit_other {K : PySem.W.Frag} {mg mg' : Str → Option Value} {C C' : Addr} {x qual x' qual' : Str} {B newId initId B' newId' initId' : String} {bm bm' : List Value} {st st' : Stmt} {fs fs' : List Str} (T : ClsAt K mg C x qual B newId initId bm st fs) (T' : ClsAt K mg' C' x' qual' B' newId' initId' bm' st' fs')
    (flat : bm.contains (.ref C') = false) (ne : C ≠ C') : PySem.W.kitOne K (.ref C) (.ref C') = some false := by
  rw [kit_two T T' flat, decide_eq_false ne]
theorem exm_self {K : PySem.W.Frag} {mg : Str → Option Value} {C : Addr} {x qual : Str} {B newId initId : String} {bm : List Value} {st : Stmt} {fs : List Str} (T : ClsAt K mg C x qual B newId initId bm st fs) (flat : bm.contains (.ref C) = false) : PySem.W.exmOne K (.ref C) (.ref C) = some true := by
  rw [exm_two T T flat, decide_eq_true rfl]

/-! ### the draws -/
def spDraw : Sp := fun vs H Q _ => ∃ (t c : Addr) (m : Int) (n : Nat), vs = [.ref t, .int m] ∧ Tape H t c n ∧ n < 2 ^ 40 ∧ 0 < m ∧ m < 2 ^ 8000 ∧
  ∀ (H' : Hp) (r : Int), 0 ≤ r → r < m → Tape H' t c (n + 1) → Kp t H H' → Q (.int r) H'
theorem cell_at {ns : List Int} {spot : Int} (h0 : 0 < ns.length) (hs : 0 ≤ spot) : ∃ x, atI (ns.map V.int) (spot % ((ns.map V.int).length : Int)) = some (.int x) := by
  rw [List.length_map]
  have hp : (0 : Int) < (ns.length : Int) := by omega
  have h1 := Int.emod_nonneg spot (show (ns.length : Int) ≠ 0 by omega)
  have h2 := Int.emod_lt_of_pos spot hp
  have h3 : (spot % (ns.length : Int)).toNat < ns.length := by omega
  refine ⟨ns[(spot % (ns.length : Int)).toNat], at_of (j := (spot % (ns.length : Int)).toNat) (by omega) ?_⟩
  rw [List.getElem?_map, List.getElem?_eq_getElem h3]
  rfl
theorem log2_small {m : Int} (h0 : 0 < m) (h : m < 2 ^ 8000) : m.natAbs.log2 < 9000 := by
  have h2 : m.natAbs < 2 ^ 8000 := by
    have e : ((2 ^ 8000 : Nat) : Int) = (2 : Int) ^ 8000 := by rw [Int.natCast_pow]; rfl
    omega
  exact Nat.lt_of_lt_of_le (PySem.Flt.log2_lt_of (by decide) h2) (by decide)
theorem pow_ok {x spot : Int} {n : Nat} (h0 : 0 ≤ spot) (h1 : spot ≤ n) (h2 : n < 2 ^ 40) : CPow (x % 2147483647 + 69621 * spot + 48271) 17 := by
  have a := Int.emod_nonneg x (show (2147483647 : Int) ≠ 0 by decide)
  have b := Int.emod_lt_of_pos x (show (0 : Int) < 2147483647 by decide)
  refine ⟨by decide, by decide, ?_⟩
  have e : (2 : Nat) ^ 64 = 18446744073709551616 := by decide
  rw [e]
  omega
section
variable {P : Program} {w : World} {K : PySem.W.Frag} {mg : Str → Option Value} {base : Heap}
theorem has_draw {cs : Nat → Addr} (T : Top K mg cs) : Has P w K mg base 1 "_law_draw" ["_law_tape", "_law_many"] spDraw := by
  refine has_of T.d__law_draw sc__law_draw bd__law_draw (fun vs H Q E h => ?_) (fun f cdv A outer s H vs Q E hr h => ?_)
  · obtain ⟨t, c, m, n, rfl, _⟩ := h
    rfl
  · have hu := hu_of hr
    have nd := sc__law_draw.nd
    obtain ⟨t, c, m, n, rfl, ⟨ns, spot, left, tp, hs⟩, hn, hm, hm2, k⟩ := h
    refine ⟨_, (C8.pss_cut (ps_if (pt_cmpR op_lt (pe_dget hu (pv 0) pe_str (fun _ _ => rfl)) (pv 1) (nomark _)) (pss_cons (ps_par (i := 2) (j := 3) (by rfl) nd rfl rfl (by decide) rfl rfl (pa_cons (pe_dget hu (pv 0) pe_str (fun _ _ => rfl)) (pa_cons (pe_callB call_len_seq (by rfl) T.b_len (by decide +kernel) (pa_cons (pe_dget hu (pv 0) pe_str (fun _ _ => rfl)) pa_nil)) pa_nil)) (by rfl))
    (pss_cons (ps_asg (pe_tup (pa_cons (pe_ix ix_list (pe_dget hu (pv 0) pe_str (fun _ _ => rfl)) (pe_op op_mod (pv 2) (pv 3)) (fun _ _ => rfl)) (pa_cons (pe_op op_add (pv 2) pe_int) pa_nil))) (pg_tup (by rfl) (pgs_cons (pg_name (i := 4) nd rfl (.inl rfl)) (pgs_cons (pg_sub (pv 0) pe_str (set_dict hu)) pgs_nil))))
    (pss_cons (ps_dput hu (pv 0) pe_str (pe_op op_mod (pe_op op_pow (pe_op op_add (pe_op op_add (pe_op op_mod (pv 4) pe_int) (pe_op op_mul pe_int (pv 2))) pe_int) pe_int) (pe_op op_add (pe_op op_pow pe_int pe_int) pe_int)) rfl)
    (pss_one (ps_if (PW.pt (pw_and (pt_cmpR op_ge (pv 4) (pe_op op_pow pe_int pe_int) (nomark _)) (pw_and1 (pt_cmpR op_lt (pv 2) (pv 3) (nomark _))))) (pss_one (ps_dput hu (pv 0) pe_str (pe_op op_sub (pv 4) (pe_op op_pow pe_int pe_int)) rfl)) pss_nil))))) pss_nil)
    (pss_cons (ps_asg (pe_tup (pa_cons (pe_op op_mod (pe_dget hu (pv 0) pe_str (fun _ _ => rfl)) (pv 1)) (pa_cons (pe_op op_fdivW (pe_dget hu (pv 0) pe_str (fun _ _ => rfl)) (pv 1)) pa_nil))) (pg_tup (by rfl) (pgs_cons (pg_name (i := 5) nd rfl (.inl rfl)) (pgs_cons (pg_sub (pv 0) pe_str (set_dict hu)) pgs_nil))))
    (pss_one (ps_ret (pv 5))))), ?_⟩
    refine ⟨fun σ' H' => ∃ (v2 v3 v4 v5 : Option V) (spot' left' : Int), σ' = [some (.ref t), some (.int m), v2, v3, v4, v5] ∧ TapeC H' t c ns spot' left' ∧ spot' ≤ ((n + 1 : Nat) : Int) ∧ Kp t H H', ?_, ?_⟩
    · refine ⟨_, rfl, t, _, rfl, dg_left tp.d, _, rfl, _, _, rfl, rfl, _, rfl, ite2 (fun _ => ?_) (fun _ => ?_)⟩
      · obtain ⟨x, hx⟩ := cell_at tp.ne tp.s0
        refine ⟨_, rfl, t, _, rfl, dg_spot tp.d, _, rfl, t, _, rfl, dg_cells tp.d, c, _, rfl, .inl (SqL.of tp.l), _, _, rfl, ?_⟩
        refine ⟨_, rfl, t, _, rfl, dg_cells tp.d, _, rfl, _, rfl, _, _, rfl, rfl, ?_, c, _, _, _, rfl, rfl, SqL.of tp.l, hx, _, rfl, _, _, rfl, rfl, by show 2 ≤ sizeLine; decide, fun p hp => ?_⟩
        · show (0 : Int) < ((ns.map V.int).length : Int)
          rw [List.length_map]
          have := tp.ne
          omega
        have h1 : (upd H p (.tup [.int x, .int (spot + 1)])) t = some (.dK (tk c spot left)) := by
          rw [upd_ne (ne_of_none tp.d hp)]
          exact tp.d
        refine ⟨p, _, rfl, SqT.of upd_same, rfl, _, _, rfl, _, _, rfl, _, rfl, t, _, rfl, dp_spot _ h1, rfl, ?_⟩
        have c1 : (upd (upd H p (.tup [.int x, .int (spot + 1)])) t (.dK (tk c (spot + 1) left))) c = some (.lst (ns.map V.int)) := by
          rw [upd_ne (show c ≠ t from ne_of tp.l tp.d (by intro z; cases z)), upd_ne (ne_of_none tp.l hp)]
          exact tp.l
        refine ⟨_, rfl, _, _, rfl, rfl, by show (0 : Int) < 2147483647; decide, _, rfl, _, _, rfl, rfl, .inl ⟨by decide, by decide⟩, _, _, rfl, rfl, _, _, rfl, rfl, _, _, rfl, rfl, pow_ok tp.s0 hs hn, _, _, rfl, rfl, ⟨by decide, by decide, by decide⟩, _, _, rfl, rfl, _, _, rfl, rfl, ?_, _, rfl, t, _, rfl, dp_left _ upd_same, ?_⟩
        · show (0 : Int) < 10 ^ (50 : Int).toNat + 151
          decide
        have kp : ∀ z, Kp t H (upd (upd (upd H p (.tup [.int x, .int (spot + 1)])) t (.dK (tk c (spot + 1) left))) t (.dK (tk c (spot + 1) z))) := fun z => ((Kp.new hp).trans Kp.at).trans Kp.at
        have tq : ∀ z, 0 ≤ z → TapeC (upd (upd (upd H p (.tup [.int x, .int (spot + 1)])) t (.dK (tk c (spot + 1) left))) t (.dK (tk c (spot + 1) z))) t c ns (spot + 1) z := fun z hz =>
          ⟨upd_same, by rw [upd_ne (show c ≠ t from ne_of tp.l tp.d (by intro z; cases z))]; exact c1, tp.ne, tp.lt, by have := tp.s0; omega, hz⟩
        have h0 : ∀ a : Int, 0 ≤ a % (10 ^ (50 : Int).toNat + 151) := fun a => Int.emod_nonneg _ (by decide)
        refine ⟨_, rfl, _, _, rfl, rfl, ⟨by decide, by decide, by decide⟩, _, _, rfl, rfl, _, rfl, ite2 (fun hc => ?_) (fun _ => iteF ?_)⟩
        · refine ⟨_, rfl, _, rfl, _, _, rfl, rfl, _, rfl, ite2 (fun _ => ?_) (fun _ => ?_)⟩
          · refine ⟨_, rfl, _, _, rfl, rfl, ⟨by decide, by decide, by decide⟩, _, _, rfl, rfl, _, rfl, t, _, rfl, dp_left _ upd_same, ?_⟩
            have hz : (10 : Int) ^ (18 : Int).toNat ≤ x := of_decide_eq_true hc
            exact ⟨_, _, _, _, spot + 1, x - 10 ^ (18 : Int).toNat, rfl, ⟨upd_same, by rw [upd_ne (show c ≠ t from ne_of tp.l tp.d (by intro z; cases z))]; exact (tq _ (h0 _)).l, tp.ne, tp.lt, by have := tp.s0; omega, by omega⟩, by omega, (kp _).trans Kp.at⟩
          · exact ⟨_, _, _, _, _, _, rfl, tq _ (h0 _), by omega, kp _⟩
        · exact ⟨_, _, _, _, _, _, rfl, tq _ (h0 _), by omega, kp _⟩
      · exact ⟨_, _, _, _, _, _, rfl, tp, by omega, Kp.refl _⟩
    · rintro σ' H' ⟨v2, v3, v4, v5, spot', left', rfl, tp', hs', kp⟩
      refine ⟨_, rfl, t, _, rfl, dg_left tp'.d, _, rfl, _, _, rfl, rfl, hm, _, rfl, t, _, rfl, dg_left tp'.d, _, rfl, _, _, rfl, rfl, ⟨hm, ?_⟩, by show 2 ≤ sizeLine; decide, fun p hp => ?_⟩
      · exact log2_small hm hm2
      have h1 : ∀ o, (upd H' p o) t = some (.dK (tk c spot' left')) := fun o => by
          rw [upd_ne (ne_of_none tp'.d hp)]
          exact tp'.d
      refine ⟨p, _, rfl, SqT.of upd_same, rfl, _, _, rfl, _, _, rfl, _, rfl, t, _, rfl, dp_left _ (h1 _), rfl, ?_⟩
      refine ⟨_, rfl, k _ _ (Int.emod_nonneg _ (by omega)) (Int.emod_lt_of_pos _ hm) ?_ ?_⟩
      · exact ⟨ns, spot', _, ⟨upd_same, by rw [upd_ne (show c ≠ t from ne_of tp'.l tp'.d (by intro z; cases z)), upd_ne (ne_of_none tp'.l hp)]; exact tp'.l, tp'.ne, tp'.lt, tp'.s0, Int.ediv_nonneg tp'.l0 (by omega)⟩, hs'⟩
      · exact (kp.trans (Kp.new hp)).trans Kp.at
/-- a pick from a list or a tuple -/
def spPick (K : PySem.W.Frag) : Sp := fun vs H Q _ => ∃ (t c a : Addr) (xs : List V) (n : Nat), vs = [.ref t, .ref a] ∧ Tape H t c n ∧ n < 2 ^ 40 ∧ (∀ H', Kp t H H' → SqL K H' a xs ∨ SqT K H' a xs) ∧ 0 < xs.length ∧ xs.length ≤ 1000000 ∧
  ∀ (H' : Hp) (i : Nat) (v : V), xs[i]? = some v → Tape H' t c (n + 1) → Kp t H H' → Q v H'
theorem has_pick {cs : Nat → Addr} (T : Top K mg cs) (h__law_draw : Has P w K mg base 1 "_law_draw" ["_law_tape", "_law_many"] spDraw) : Has P w K mg base 2 "_law_pick" ["_law_tape", "_law_some"] (spPick K) := by
  refine has_of T.d__law_pick sc__law_pick bd__law_pick (fun vs H Q E h => ?_) (fun f cdv A outer s H vs Q E hr h => ?_)
  · obtain ⟨t, c, a, xs, n, rfl, _⟩ := h
    rfl
  · have hu := hu_of hr
    have nd := sc__law_pick.nd
    obtain ⟨t, c, a, xs, n, rfl, tp, hn, hs, h0, h1, k⟩ := h
    refine ⟨_, (pss_one (ps_ret (pe_ix ix_seq (pv 1) (pe_has h__law_draw (hr.mono (by omega)) (by rfl) (pa_cons (pv 0) (pa_cons (pe_callB call_len_seq (by rfl) T.b_len (by decide +kernel) (pa_cons (pv 1) pa_nil)) pa_nil))) (fun _ _ => rfl)))), ?_⟩
    refine ⟨_, rfl, _, rfl, _, rfl, a, xs, rfl, hs H (Kp.refl _), t, c, _, n, rfl, tp, hn, by omega, ?_, fun H' r r0 r1 tp' kp => ?_⟩
    · exact Int.lt_of_le_of_lt (Int.ofNat_le.mpr h1) (by decide +kernel)
    have hi : r.toNat < xs.length := by omega
    have g : xs[r.toNat]? = some xs[r.toNat] := List.getElem?_eq_getElem hi
    rcases hs H' kp with z | z
    · exact .inl ⟨a, xs, r, _, rfl, rfl, z, at_of (by omega) g, k H' _ _ g tp' kp⟩
    · exact .inr (.inl ⟨a, xs, r, _, rfl, rfl, z, at_of (by omega) g, k H' _ _ g tp' kp⟩)
/-- the tape's beginning -/
def spBegun (K : PySem.W.Frag) : Sp := fun vs H Q _ => ∃ (a : Addr) (ns : List Int), vs = [.ref a] ∧ SqL K H a (ns.map V.int) ∧ ns.length ≤ 63 ∧
  ∀ (H' : Hp) (t c : Addr), H t = none → H c = none → Same H H' → Tape H' t c 0 → Q (.ref t) H'
theorem has_begun {cs : Nat → Addr} (T : Top K mg cs) : Has P w K mg base 1 "_law_begun" ["_law_script"] (spBegun K) := by
  refine has_of T.d__law_begun sc__law_begun bd__law_begun (fun vs H Q E h => ?_) (fun f cdv A outer s H vs Q E hr h => ?_)
  · obtain ⟨a, ns, rfl, _⟩ := h
    rfl
  · have hu := hu_of hr
    have nd := sc__law_begun.nd
    obtain ⟨a, ns, rfl, hS, hl, k⟩ := h
    refine ⟨_, (pss_one (ps_ret (pe_disp (pps_cons pe_str (pe_orT (pe_slice sl_list (pv 0) po_none (po_some pe_int)) (pe_one (pe_lst (pa_cons pe_int pa_nil)))) (pps_cons pe_str pe_int (pps_cons pe_str pe_int pps_nil))) (by rfl) (by rfl) (fun z => by cases z) (by decide)))), ?_⟩
    intro t ht
    have s1 := same_new (o := .dK []) ht
    refine ⟨_, rfl, 63, rfl, a, _, rfl, s1.seq hS, fun q hq => ?_⟩
    have ec : cutV (ns.map V.int) none (some 63) = ns.map V.int := by
      unfold cutV
      rw [HT.sIx_none, show HT.sIx (ns.map V.int).length (ns.map V.int).length (some 63) = min 63 (ns.map V.int).length from HT.sIx_nat _ _ 63, List.drop_zero, List.length_map]
      refine List.take_of_length_le ?_
      rw [List.length_map]
      omega
    rw [ec]
    have nqt : q ≠ t := fun e => by
      rw [e, upd_same] at hq
      cases hq
    have nq : H q = none := by
      rw [← hq, upd_ne nqt]
    cases hns : ns with
    | cons z zs =>
      refine ⟨true, .inl ⟨_, SqL.of upd_same, rfl⟩, iteT ?_⟩
      refine ⟨by rw [upd_ne nqt.symm]; exact upd_same, tk q 0 0, rfl, by show 3 ≤ 15; decide, ?_⟩
      refine k _ t q ht nq (fun b o e => ?_) ⟨z :: zs, 0, 0, ⟨upd_same, by rw [upd_ne nqt]; exact upd_same, by rw [List.length_cons]; omega, by rw [← hns]; exact hl, by decide, by decide⟩, by decide⟩
      rw [upd_ne (ne_of_none e ht), upd_ne (ne_of_none e nq), upd_ne (ne_of_none e ht)]
      exact e
    | nil =>
      refine ⟨false, .inl ⟨_, SqL.of upd_same, rfl⟩, iteF ?_⟩
      refine ⟨by show 1 ≤ sizeLine; decide, fun p hp => ?_⟩
      have npq : p ≠ q := fun e => by
        rw [e, upd_same] at hp
        cases hp
      have npt : p ≠ t := fun e => by
        rw [e, upd_ne nqt.symm, upd_same] at hp
        cases hp
      have np : H p = none := by
        rw [← hp, upd_ne npq, upd_ne npt]
      refine ⟨by rw [upd_ne npt.symm, upd_ne nqt.symm]; exact upd_same, tk p 0 0, rfl, by show 3 ≤ 15; decide, ?_⟩
      refine k _ t p ht np (fun b o e => ?_) ⟨[0], 0, 0, ⟨upd_same, by rw [upd_ne npt]; exact upd_same, by decide, by decide, by decide, by decide⟩, by decide⟩
      rw [upd_ne (ne_of_none e ht), upd_ne (ne_of_none e np), upd_ne (ne_of_none e nq), upd_ne (ne_of_none e ht)]
      exact e
end

/-! ### steps by clauses, as plain functions -/
def tru (on : List Int) : List (Key × V) := on.map fun k => ((Sum.inl k : Key), V.bl true)
def ins (on : List Int) (k : Int) : List Int := if k ∈ on then on else on ++ [k]
theorem tru_val (on : List Int) (k : Int) : valV (tru on) (Sum.inl k : Key) = if k ∈ on then some (V.bl true) else none := by
  induction on with
  | nil => rfl
  | cons a r ih =>
    show valV (((Sum.inl a : Key), V.bl true) :: tru r) (Sum.inl k : Key) = _
    by_cases h : a = k
    · rw [valV_pos (by rw [h]), if_pos (by rw [h]; exact List.mem_cons_self)]
    · rw [valV_neg (fun e => h (Sum.inl.inj e)), ih]
      by_cases hm : k ∈ r
      · rw [if_pos hm, if_pos (List.mem_cons_of_mem _ hm)]
      · rw [if_neg hm, if_neg]
        intro z
        rcases List.mem_cons.mp z with e | e
        · exact h e.symm
        · exact hm e
theorem tru_some (on : List Int) (k : Int) : (valV (tru on) (Sum.inl k : Key)).isSome = decide (k ∈ on) := by
  rw [tru_val]
  by_cases h : k ∈ on
  · rw [if_pos h, decide_eq_true h]
    rfl
  · rw [if_neg h, decide_eq_false h]
    rfl
theorem tru_put (on : List Int) (k : Int) : putK (tru on) (Sum.inl k : Key) (V.bl true) = tru (ins on k) := by
  unfold ins
  by_cases h : k ∈ on
  · rw [if_pos h]
    unfold putK
    rw [if_pos (by rw [valV_any, tru_some, decide_eq_true h])]
    unfold tru
    rw [List.map_map]
    refine List.map_congr_left fun a ha => ?_
    show (if ((Sum.inl a : Key), V.bl true).1 = Sum.inl k then _ else _) = _
    by_cases e : (Sum.inl a : Key) = Sum.inl k
    · rw [if_pos e]
    · rw [if_neg e]
  · rw [if_neg h, putK_new _ (by rw [tru_val, if_neg h])]
    unfold tru
    rw [List.map_append]
    rfl
theorem tru_merge : ∀ (b a : List Int), mergeK (tru a) (tru b) = tru (b.foldl ins a)
  | [], a => rfl
  | k :: r, a => by
    show mergeK (putK (tru a) (Sum.inl k : Key) (V.bl true)) (tru r) = _
    rw [tru_put, tru_merge r]
    rfl
theorem ins_len (on : List Int) (k : Int) : (ins on k).length ≤ on.length + 1 := by
  unfold ins
  split
  · omega
  · rw [List.length_append]
    exact Nat.le_refl _
theorem fold_len : ∀ (b a : List Int), (b.foldl ins a).length ≤ a.length + b.length
  | [], a => Nat.le_refl _
  | k :: r, a => by
    have h := fold_len r (ins a k)
    have h2 := ins_len a k
    show (r.foldl ins (ins a k)).length ≤ a.length + (r.length + 1)
    omega
/-- the marks of a clause that aren't off -/
def left (on c : List Int) : List Int := c.filter fun m => !decide (-m ∈ on)
/-- the clause of a number -/
def clAt (cs : List (List Int)) (r : Int) : Option (List Int) := if 0 ≤ r ∧ r < cs.length then cs[r.toNat]? else none
def step (cs : List (List Int)) (on : List Int) (r : Int) : Option (List Int) :=
  match clAt cs r with
  | none => none
  | some c => match left on c with
    | [x] => if x ∈ on then none else some (ins on x)
    | _ => none
def bring (cs : List (List Int)) : List Int → List Int → Option (List Int)
  | [], on => some on
  | r :: rs, on => match step cs on r with
    | none => none
    | some on' => bring cs rs on'
def broken (cs : List (List Int)) (on : List Int) (r : Int) : Bool :=
  match clAt cs r with
  | none => false
  | some c => (left on c).isEmpty
/-- what the program tells -/
def shownP (cs : List (List Int)) (ps rs : List Int) : Option Int → Bool
  | none => match rs.getLast? with
    | none => false
    | some r => match bring cs rs.dropLast (ps.foldl ins []) with
      | none => false
      | some on => broken cs on r
  | some m => match bring cs rs (ps.foldl ins []) with
    | none => false
    | some on => decide (m ∈ on)
/-- the law's own walk -/
def stepL (cs : List (List Int)) (on : List Int) (r : Int) : Option (List Int × Bool) :=
  match clAt cs r with
  | none => none
  | some c => if (left on c).length > 1 ∨ ((left on c).filter fun m => decide (m ∈ on)) ≠ [] then none else some ((left on c).foldl ins on, (left on c).isEmpty)
def walkL (cs : List (List Int)) : List Int → List Int → Bool → Option (List Int × Bool)
  | [], on, e => some (on, e)
  | r :: rs, on, e => if e = true then none else match stepL cs on r with
    | none => none
    | some (on', e') => walkL cs rs on' e'
def shownL (cs : List (List Int)) (ps rs : List Int) (m : Option Int) : Bool :=
  match walkL cs rs (ps.foldl ins []) false with
  | none => false
  | some (on, e) => match m with
    | none => e
    | some k => !e && decide (k ∈ on)
theorem stepL_of (cs : List (List Int)) (on : List Int) (r : Int) : stepL cs on r = match step cs on r with
    | some on' => some (on', false)
    | none => if broken cs on r = true then some (on, true) else none := by
  unfold stepL step broken
  cases clAt cs r with
  | none => rfl
  | some c =>
    show (if (left on c).length > 1 ∨ ((left on c).filter fun m => decide (m ∈ on)) ≠ [] then none else some ((left on c).foldl ins on, (left on c).isEmpty)) = match (match left on c with | [x] => if x ∈ on then none else some (ins on x) | _ => none) with
      | some on' => some (on', false)
      | none => if (left on c).isEmpty = true then some (on, true) else none
    cases left on c with
    | nil => simp
    | cons x r =>
      cases r with
      | nil =>
        by_cases h : x ∈ on
        · simp [h]
        · simp [h, ins]
      | cons y r => simp
theorem walk_ended (cs : List (List Int)) (rs on : List Int) : walkL cs rs on true = if rs = [] then some (on, true) else none := by
  cases rs with
  | nil => rfl
  | cons r rs => simp [walkL]
theorem walk_mark (cs : List (List Int)) (k : Int) : ∀ (rs on : List Int), (match walkL cs rs on false with
    | none => false
    | some (o, e) => !e && decide (k ∈ o)) = match bring cs rs on with
    | none => false
    | some o => decide (k ∈ o)
  | [], on => rfl
  | r :: rs, on => by
    simp only [walkL, bring]
    rw [if_neg Bool.false_ne_true, stepL_of]
    cases step cs on r with
    | some on' => exact walk_mark cs k rs on'
    | none =>
      by_cases hb : broken cs on r = true
      · simp only [hb, if_true]
        rw [walk_ended]
        cases rs with
        | nil => rfl
        | cons a b => rfl
      · simp only [hb]
        rfl
theorem walk_none (cs : List (List Int)) : ∀ (rs on : List Int), (match walkL cs rs on false with
    | none => false
    | some (_, e) => e) = match rs.getLast? with
    | none => false
    | some r => match bring cs rs.dropLast on with
      | none => false
      | some o => broken cs o r
  | [], on => rfl
  | [r], on => by
    simp only [walkL, bring, List.getLast?_singleton, List.dropLast_singleton]
    rw [if_neg Bool.false_ne_true, stepL_of]
    cases hs : step cs on r with
    | some on' =>
      have nb : broken cs on r = false := by
        unfold step at hs
        unfold broken
        cases hc : clAt cs r with
        | none => rfl
        | some c =>
          rw [hc] at hs
          simp only at hs ⊢
          cases hl : left on c with
          | nil =>
            rw [hl] at hs
            cases hs
          | cons x y => rfl
      rw [nb]
    | none =>
      by_cases hb : broken cs on r = true
      · simp only [hb, if_true]
      · simp only [hb]
        simp
  | r :: r2 :: rs, on => by
    have e1 : (r :: r2 :: rs).getLast? = (r2 :: rs).getLast? := by rw [List.getLast?_cons_cons]
    have e2 : (r :: r2 :: rs).dropLast = r :: (r2 :: rs).dropLast := rfl
    rw [e1, e2]
    simp only [bring]
    rw [show walkL cs (r :: r2 :: rs) on false = match stepL cs on r with | none => none | some (on', e') => walkL cs (r2 :: rs) on' e' by
      show (if false = true then none else _) = _
      rw [if_neg Bool.false_ne_true]]
    rw [stepL_of]
    cases step cs on r with
    | some on' => exact walk_none cs (r2 :: rs) on'
    | none =>
      have z : (match (r2 :: rs).getLast? with | none => false | some r => false) = false := by
        cases (r2 :: rs).getLast? <;> rfl
      by_cases hb : broken cs on r = true
      · simp only [hb, if_true]
        rw [walk_ended]
        simp only [reduceCtorEq, if_false]
        exact z.symm
      · simp only [hb]
        exact z.symm
theorem shown_eq (cs : List (List Int)) (ps rs : List Int) (m : Option Int) : shownL cs ps rs m = shownP cs ps rs m := by
  unfold shownL shownP
  cases m with
  | none => exact walk_none cs rs _
  | some k => exact walk_mark cs k rs _

/-! ### clauses as they stand in the heap -/
structure Cs (H : Hp) (a : Addr) (qs : List Addr) (cs : List (List Int)) : Prop where
  l : H a = some (.lst (qs.map V.ref))
  n : qs.length = cs.length
  t : ∀ (i : Nat) q c, qs[i]? = some q → cs[i]? = some c → H q = some (.tup (c.map V.int))
theorem Cs.same {H H' : Hp} {a : Addr} {qs : List Addr} {cs : List (List Int)} (h : Cs H a qs cs) (s : Same H H') : Cs H' a qs cs := ⟨s _ _ h.l, h.n, fun i q c hq hc => s _ _ (h.t i q c hq hc)⟩
theorem Cs.kp {H H' : Hp} {a d : Addr} {qs : List Addr} {cs : List (List Int)} {kvs : List (Key × V)} (h : Cs H a qs cs) (hd : H d = some (.dK kvs)) (k : Kp d H H') : Cs H' a qs cs :=
  ⟨k _ _ h.l (ne_of h.l hd (by intro z; cases z)), h.n, fun i q c hq hc => k _ _ (h.t i q c hq hc) (ne_of (h.t i q c hq hc) hd (by intro z; cases z))⟩
theorem clAt_some {cs : List (List Int)} {r : Int} {c : List Int} (h : clAt cs r = some c) : 0 ≤ r ∧ r < cs.length ∧ cs[r.toNat]? = some c := by
  unfold clAt at h
  split at h
  · rename_i e
    exact ⟨e.1, e.2, h⟩
  · cases h
theorem clAt_in {cs : List (List Int)} {r : Int} (h0 : 0 ≤ r) (h1 : r < cs.length) : ∃ c, clAt cs r = some c := by
  unfold clAt
  rw [if_pos ⟨h0, h1⟩]
  exact ⟨_, List.getElem?_eq_getElem (by omega)⟩
theorem Cs.at {H : Hp} {a : Addr} {qs : List Addr} {cs : List (List Int)} (h : Cs H a qs cs) {r : Int} {c : List Int} (hc : clAt cs r = some c) : ∃ q, atI (qs.map V.ref) r = some (.ref q) ∧ H q = some (.tup (c.map V.int)) := by
  obtain ⟨h0, h1, h2⟩ := clAt_some hc
  have hn := h.n
  have l : r.toNat < qs.length := by omega
  refine ⟨qs[r.toNat], at_of (j := r.toNat) (by omega) ?_, h.t _ _ _ (List.getElem?_eq_getElem l) h2⟩
  rw [List.getElem?_map, List.getElem?_eq_getElem l]
  rfl
theorem len_zero (l : List Int) : decide (V.int ((l.map V.int).length : Nat) = V.int 0) = l.isEmpty := by
  cases l with
  | nil => rfl
  | cons y r =>
    refine decide_eq_false fun z => ?_
    have z2 := V.int.inj z
    rw [List.length_map, List.length_cons] at z2
    omega
theorem drop_at {α : Type} {xs : List α} {i : Nat} {x : α} (h : xs[i]? = some x) : xs.drop i = x :: xs.drop (i + 1) := by
  obtain ⟨l, e⟩ := List.getElem?_eq_some_iff.mp h
  rw [List.drop_eq_getElem_cons l, e]
theorem int_at {rs : List Int} {i : Nat} {x : V} (h : (rs.map V.int)[i]? = some x) : ∃ r, x = .int r ∧ rs[i]? = some r := by
  rw [List.getElem?_map] at h
  cases e : rs[i]? with
  | none =>
    rw [e] at h
    cases h
  | some r =>
    rw [e] at h
    exact ⟨r, (Option.some.inj h).symm, rfl⟩

/-! ### small things -/
theorem pick_int {zs : List Int} {i : Nat} {v : V} (h : (zs.map V.int)[i]? = some v) : ∃ z, v = .int z ∧ z ∈ zs := by
  obtain ⟨r, e, hr⟩ := int_at h
  exact ⟨r, e, List.mem_of_getElem? hr⟩
theorem seq_in {n : Nat} {i : Int} (h0 : 0 ≤ i) (h1 : i < n) : seqIndex? i n = some i.toNat := by
  have e : ixN n i = some i.toNat := by
    unfold ixN
    rw [if_pos h0, if_pos h1]
  exact (ixN_seq e).1
theorem pow8000 {x : Int} (h : x ≤ 1000000) : x < 2 ^ 8000 := Int.lt_of_le_of_lt h (by decide +kernel)
theorem Tape.sq {H : Hp} {t c p : Addr} {n : Nat} {xs : List V} (h : Tape H t c n) (e : H p = some (.lst xs)) {H' : Hp} (k : Kp t H H') : H' p = some (.lst xs) := k p _ e (by
  obtain ⟨ns, spot, left, tc, _⟩ := h
  exact ne_of e tc.d (by intro z; cases z))
theorem Tape.ne_lst' {H : Hp} {t c p : Addr} {n : Nat} {xs : List V} (h : Tape H t c n) (e : H p = some (.lst xs)) : p ≠ t := by
  obtain ⟨ns, spot, left, tc, _⟩ := h
  exact ne_of e tc.d (by intro z; cases z)
theorem getElem_snoc {α : Type} {xs : List α} {x y : α} {i : Nat} (h : (xs ++ [x])[i]? = some y) : (i < xs.length ∧ xs[i]? = some y) ∨ (i = xs.length ∧ x = y) := by
  by_cases c : i < xs.length
  · rw [List.getElem?_append_left c] at h
    exact .inl ⟨c, h⟩
  · rw [List.getElem?_append_right (by omega)] at h
    have l := (List.getElem?_eq_some_iff.mp h).1
    simp only [List.length_cons, List.length_nil] at l
    have e : i - xs.length = 0 := by omega
    rw [e] at h
    exact .inr ⟨by omega, Option.some.inj h⟩
theorem same_mut {H H' : Hp} {D : Addr} {o : HO} (s : Same H H') (h : H D = none) : Same H (upd H' D o) := fun b u e => by
  rw [upd_ne (ne_of_none e h)]
  exact s b u e
theorem take_snoc {xs : List Int} {i : Nat} {x : Int} (h : xs[i]? = some x) : xs.take (i + 1) = xs.take i ++ [x] := by
  rw [List.take_add_one, h]
  rfl

/-! ### what the data are -/
theorem lay_ints : ∀ l : List Int, PyData.canLayAll0 (l.map PyData.int) = true
  | [] => rfl
  | x :: r => by
    rw [List.map_cons, PyData.canLayAll0, lay_ints r]
    rfl
theorem dep_ints : ∀ l : List Int, PyData.depthAll (l.map PyData.int) ≤ 0
  | [] => Nat.le_refl _
  | x :: r => by
    rw [List.map_cons, PyData.depthAll]
    exact Nat.max_le.mpr ⟨Nat.le_refl _, dep_ints r⟩
def tupD (c : List Int) : PyData := .tuple (c.map PyData.int)
def lstD (c : List Int) : PyData := .list (c.map PyData.int)
theorem lay_tup (c : List Int) : (tupD c).canLay0 = true := by
  unfold tupD
  rw [PyData.canLay0]
  exact lay_ints c
theorem lay_lst (c : List Int) : (lstD c).canLay0 = true := by
  unfold lstD
  rw [PyData.canLay0]
  exact lay_ints c
theorem dep_tup (c : List Int) : (tupD c).depth ≤ 1 := by
  unfold tupD
  rw [PyData.depth]
  exact Nat.succ_le_succ (dep_ints c)
theorem dep_lst (c : List Int) : (lstD c).depth ≤ 1 := by
  unfold lstD
  rw [PyData.depth]
  exact Nat.succ_le_succ (dep_ints c)
theorem lay_tups : ∀ cs : List (List Int), PyData.canLayAll0 (cs.map tupD) = true
  | [] => rfl
  | x :: r => by
    rw [List.map_cons, PyData.canLayAll0, lay_tups r, lay_tup]
    rfl
theorem dep_tups : ∀ cs : List (List Int), PyData.depthAll (cs.map tupD) ≤ 1
  | [] => Nat.zero_le _
  | x :: r => by
    rw [List.map_cons, PyData.depthAll]
    exact Nat.max_le.mpr ⟨dep_tup x, dep_tups r⟩
section
variable {K : PySem.W.Frag} {H : Hp}
theorem dp_ints : ∀ l : List Int, DpAll K H (l.map V.int) (l.map PyData.int)
  | [] => .nil
  | x :: r => .cons (.int x) (dp_ints r)
theorem dp_lst {a : Addr} {l : List Int} (h : H a = some (.lst (l.map V.int))) : Dp K H (.ref a) (lstD l) := .lst (SqL.of h) (dp_ints l)
theorem dp_tups : ∀ {qs : List Addr} {cs : List (List Int)}, qs.length = cs.length → (∀ (i : Nat) q c, qs[i]? = some q → cs[i]? = some c → H q = some (.tup (c.map V.int))) → DpAll K H (qs.map V.ref) (cs.map tupD)
  | [], [], _, _ => .nil
  | [], _ :: _, n, _ => absurd n (by simp)
  | _ :: _, [], n, _ => absurd n (by simp)
  | q :: qs, c :: cs, n, t => .cons (.tup (SqT.of (t 0 q c rfl rfl)) (dp_ints c)) (dp_tups (Nat.succ.inj n) fun i q c hq hc => t (i + 1) q c hq hc)
end
theorem shape_lst (l : List Int) : SeqAt.shaped (lstD l) = true := by
  unfold SeqAt.shaped
  rw [lay_lst, decide_eq_true (Nat.le_trans (dep_lst l) (by decide))]
  rfl

/-! ### promises that hold where nothing is being shown -/
structure FnG (P : Program) (w : World) (K : PySem.W.Frag) (mg : Str → Option Value) (base : Heap) (k : Nat) (f : Addr) (fd : FuncData) (ps : List Str) (sp : Sp) : Prop where
  len : ∀ vs H Q E, sp vs H Q E → vs.length = ps.length
  run : ∀ (A : Around) (out : List Env) (s : Shared) (H : Hp) (us : List Value) (vs : List V) (Q : VK) (E : XK), Room k A → A.guards = some [] → Env0 P w K mg base A out s H → BindsTo s fd ⟨us, []⟩ (ps.zip us) → Vals vs us → sp vs H Q E →
    codeAny (model P w) A (.call (.ref f) ⟨us, []⟩) (CR CX0 out P w H s Q E) s
structure HasG (P : Program) (w : World) (K : PySem.W.Frag) (mg : Str → Option Value) (base : Heap) (k : Nat) (x : Str) (ps : List Str) (sp : Sp) : Prop where
  ex : ∃ f fd, mg x = some (.ref f) ∧ PySem.W.keepIn K (.ref f) = true ∧ Binds K fd ps [] ∧ FnG P w K mg base k f fd ps sp
section
variable {P : Program} {w : World} {K : PySem.W.Frag} {mg : Str → Option Value} {base : Heap}
theorem fnG {x qual : Str} {st : Stmt} {f : Addr} {fd : FuncData} {N ps : List Str} {k : Nat} {sp : Sp} (F : Fun K x qual st f fd) (S : FnScope N ps (defScope st)) (len : ∀ vs H Q E, sp vs H Q E → vs.length = ps.length)
    (body : ∀ (cdv : Value) (A : Around) (out : List Env) (s : Shared) (H : Hp) (vs : List V) (Q : VK) (E : XK), Room k (A.deeper (envOfC qual (defScope st) s.heap.objs.size f cdv)) → (A.deeper (envOfC qual (defScope st) s.heap.objs.size f cdv)).guards = some [] → sp vs H Q E →
      ∃ t, PSs (cxOf CX0 P w K mg base N qual (defScope st) f cdv A out s H E).nox (defBody st) t ∧ t { nx := fun _ H' => Q .non H', rt := Q } (start N vs) H) : FnG P w K mg base (k + 1) f fd ps sp := by
  obtain ⟨oc, od, kV, doc, pm, an, cdv, ct, osl, rfl, lk, hcd⟩ := F.ex
  refine ⟨len, fun A out s H us vs Q E room calm e0 hb r hsp => ?_⟩
  have few := len _ _ _ _ hsp
  have kin : K.In s.heap := e0.mod.kin.keeps fun b o z => (e0.bs b o z).1
  have lim : s.heap.NoLimit := e0.mod.nolimit.keeps fun b o z => (e0.bs b o z).1
  have kinds : ∀ z ∈ ps.zip us, (defScope st).names.lookup z.1 = some .local ∨ ((defScope st).names.lookup z.1 = some .cell ∧ ((cellsFrom (s.heap.objs.size + 1) (defScope st).names []).lookup z.1).isSome = true) := by
    rintro ⟨n, v⟩ hz
    rcases S.par n (List.of_mem_zip hz).1 with z | z
    · exact .inl z
    · exact .inr ⟨z, PySem.W.cellsFrom_some _ _ _ (.inl z)⟩
  refine codeAny_call_function room.depth (kin _ _ lk) rfl S.co S.gen rfl (PySem.W.codeRec_of kin hcd) (hb _ _ _ _ ?_)
  refine wpAny_newFunctionEnv_cells S.kind kinds fun env he s1 z => ?_
  subst he
  refine ⟨lim.keeps z.toInCall.keep, codeAny_func ?_⟩
  obtain ⟨t, ht, hq⟩ := body cdv A out s H vs Q E (room.deeper _) calm hsp
  have I : Inv (cxOf CX0 P w K mg base N qual (defScope st) f cdv A out s H E) [] (start N vs) H s1 := inv_start S room.hd e0 few r z
  refine wpAny_mono (ht.nox.run [] s1 (start N vs) H _ I hq) (fun fl s2 hs => ?_) fun e s2 hs => hs
  cases fl with
  | ret u =>
    obtain ⟨v, σ2, H2, J, rv, q⟩ := hs
    exact ⟨v, H2, J.os, J.bare, J.base, J.hok, rv, q⟩
  | next =>
    obtain ⟨σ2, H2, J, q⟩ := hs
    exact ⟨.non, H2, J.os, J.bare, J.base, J.hok, rfl, q⟩
  | brk =>
    obtain ⟨_, _, _, q⟩ := hs
    exact q.elim
  | cont =>
    obtain ⟨_, _, _, q⟩ := hs
    exact q.elim
theorem has_ofG {x : Str} {st : Stmt} {N ps : List Str} {k : Nat} {sp : Sp} (A : At K mg x st) (S : FnScope N ps (defScope st)) (B : BindsAll x st ps) (len : ∀ vs H Q E, sp vs H Q E → vs.length = ps.length)
    (body : ∀ (f : Addr) (cdv : Value) (A : Around) (out : List Env) (s : Shared) (H : Hp) (vs : List V) (Q : VK) (E : XK), Room k (A.deeper (envOfC x (defScope st) s.heap.objs.size f cdv)) → (A.deeper (envOfC x (defScope st) s.heap.objs.size f cdv)).guards = some [] → sp vs H Q E →
      ∃ t, PSs (cxOf CX0 P w K mg base N x (defScope st) f cdv A out s H E).nox (defBody st) t ∧ t { nx := fun _ H' => Q .non H', rt := Q } (start N vs) H) : HasG P w K mg base (k + 1) x ps sp := by
  obtain ⟨f, fd, hm, F⟩ := A.ex
  exact ⟨f, fd, hm, F.kp, F.binds B, fnG F S len fun cdv A out s H vs Q E hr hg h => body f cdv A out s H vs Q E hr hg h⟩
theorem FnG.at_ {f : Addr} {fd : FuncData} {ps : List Str} {k : Nat} {sp : Sp} (G : FnG P w K mg base k f fd ps sp) (room : Room k callerA) : RunAt P w K mg base f fd ps sp :=
  fun s H us vs Q E e0 hb r hsp => G.run callerA [] s H us vs Q E room rfl e0 hb r hsp
end
section
variable {X : Cx} {k : Nat} {x : Str} {ps : List Str} {sp : Sp} {e : Expr} {es : List Expr} {t : TA} {p pos : Pos}
theorem pe_hasG (h : HasG X.prog X.w X.K X.mg X.base k x ps sp) (hr : Room k X.A) (hgd : X.A.guards = some []) (hg : Gl X x) (ha : PA X (e :: es) t)
    (hdb : (x == ("__debug__" : Str)) = false := by decide) (he : starEach (e :: es) X.env = (false, eval e X.env) :: starEach es X.env := by rfl) (hpl : (backTo pos (starEach es X.env)).any (·.1) = false := by rfl) :
    PE X (.Call (.Name x p) (e :: es) [] pos) (tCall sp [] E0 t) := by
  obtain ⟨f, fd, hm, hk, hb, F⟩ := h.ex
  refine ⟨fun pins s σ H Q I hw => ?_⟩
  refine wpAny_Call_Name_kw (ld_glob I hg hm ?_ hdb)
  refine PySem.W.callWith_K (h₀ := X.base) I.ok.mod.kin hk (thn (ha.run pos pins s σ H _ I hw) fun us s1 ⟨vs, H1, I1, r1, q⟩ => ⟨I1.kIn, ?_⟩) he hpl
  have q : sp vs H1 Q E0 := by
    have z : sp (vs ++ []) H1 Q E0 := q
    rwa [List.append_nil] at z
  have bd := hb s1 us I1.kIn (by rw [List.append_nil, ← r1.length]; exact F.len _ _ _ _ q)
  rw [List.append_nil] at bd
  refine wpAny_call (codeAny_mono (F.run X.A X.stack s1 H1 us vs Q E0 hr hgd I1.env0 bd r1 q) fun r s2 hq => ?_)
  cases r with
  | error e => exact pass0 pins σ H1 s1 e s2 I1 hq
  | ok fl =>
    cases fl with
    | ret u => exact I1.after hq
    | next => exact hq.elim
    | brk => exact hq.elim
    | cont => exact hq.elim
end
/-! ### repr of None, of a whole number, of a list -/
structure Showy (x : PyData) : Prop where
  s : x.showable = true
  n : x.hasDict = false
  d : x.depth ≤ 60
  l : x.shown.length ≤ sizeLine
theorem call_reprV {X : Cx} (hgd : X.A.guards = some []) (hu : X.A.units + 64 < cLine) : CallR X (.builtin "repr") (fun xs H Q => (xs = [.non] ∧ Q (.str "None") H) ∨ (∃ i, xs = [.int i] ∧ i.natAbs.log2 < 1920 ∧ Q (.str (toString i)) H) ∨
    ∃ a d, xs = [.ref a] ∧ Dp X.K H (.ref a) d ∧ Showy d ∧ Q (.str d.shown) H) := by
  intro pins s σ H xs us Q I r h
  rcases h with ⟨rfl, q⟩ | ⟨i, rfl, hi, q⟩ | ⟨a, d, rfl, hd, sh, q⟩
  · obtain ⟨u, rfl, ru⟩ := vals1 r
    cases ru
    exact PySem.P.repr_of_none ⟨.str "None", H, I.tok _, ⟨_, rfl⟩, q⟩
  · obtain ⟨u, rfl, t, rfl⟩ := vals1 r
    exact PySem.P.repr_of_int hi ⟨.str (toString i), H, I.tok _, ⟨_, rfl⟩, q⟩
  · obtain ⟨u, rfl, ru⟩ := vals1 r
    cases ru
    obtain ⟨as, rd⟩ := Dp.reads I d (.ref a) (.ref a) hd rfl
    have h3 := sh.d
    exact repr_of_reads' (s := s) rd sh.s (fun z => by rw [sh.n] at z; cases z) hgd (by omega) (fun _ _ z => z) (fun h2 u tk k => ⟨.str d.shown, H, I.kept (t' := tk) k, ⟨_, rfl⟩, q⟩) sh.l

/-! ### rules: a text a few times, a tuple a few times -/
theorem op_repTK {X : Cx} {K : PySem.W.Frag} (h : X.K = K) : OpR X (binaryOp .Mult) (rRepT K) := h ▸ op_repT
def repS (k : Int) (z : Str) : Str := ⟨(List.replicate k.toNat z.cps).foldl (· ++ ·) #[]⟩
theorem op_repS {X : Cx} : OpR X (binaryOp .Mult) (fun x y H Q => ∃ (z : Str) (k : Int), x = .str z ∧ y = .int k ∧ 2 ≤ k ∧ k ≤ 1000 ∧ 1 ≤ z.length ∧ z.length ≤ 1000 ∧ (repS k z).length ≤ sizeLine ∧ Q (.str (repS k z)) H) := by
  intro pins s σ H x y v u Q I rx ry h
  obtain ⟨z, k, rfl, rfl, h1, h2, h3, h4, h5, q⟩ := h
  obtain ⟨t, rfl⟩ := rx
  obtain ⟨t', rfl⟩ := ry
  have c1 : ¬ k < 1 := by omega
  have c2 : (k == 1 || z.length == 0) = false := by
    rw [Bool.or_eq_false_iff]
    exact ⟨by simp; omega, by simp; omega⟩
  refine PySem.P.mul_str ?_ (fun _ _ => ?_) (fun _ _ => ?_) ?_
  · rw [Bool.or_eq_false_iff]
    exact ⟨decide_eq_false (by omega), decide_eq_false (by omega)⟩
  · have e : (1000 : Int) ≤ (2 ^ 63 - 1) / k := (Int.le_ediv_iff_mul_le (by omega)).mpr (by omega)
    omega
  · have e : z.length * k.toNat ≤ 1000 * 1000 := Nat.mul_le_mul h4 (by omega)
    have e2 : sizeLine = 16777216 := sizeLine_eq
    show decide (_ > sizeLine) = false
    refine decide_eq_false ?_
    omega
  · rw [if_neg c1, if_neg (by rw [c2]; exact Bool.false_ne_true)]
    exact ⟨h5, .str (repS k z), H, I.tok _, ⟨_, rfl⟩, q⟩
/-- a def whose promise can't be asked -/
theorem has_zero {P : Program} {w : World} {K : PySem.W.Frag} {mg : Str → Option Value} {base : Heap} {x : Str} {st : Stmt} {ps : List Str} {sp : Sp} (A : At K mg x st) (B : BindsAll x st ps) (no : ∀ vs H Q E, ¬ sp vs H Q E) : Has P w K mg base 0 x ps sp := by
  obtain ⟨f, fd, hm, F⟩ := A.ex
  exact ⟨f, fd, hm, F.kp, F.binds B, fun vs H Q E h => absurd h (no _ _ _ _), fun A out s H args us vs Q E _ _ _ _ h => absurd h (no _ _ _ _)⟩
/-! ### data made of tuples: they stay whatever becomes of lists -/
mutual
inductive Tp (H : Hp) : V → PyData → Prop
  | non : Tp H .non .none
  | bl (b : Bool) : Tp H (.bl b) (.bool b)
  | int (i : Int) : Tp H (.int i) (.int i)
  | str (x : Str) : Tp H (.str x) (.str x)
  | tup {a : Addr} {xs : List V} {ds : List PyData} : H a = some (.tup xs) → TpAll H xs ds → Tp H (.ref a) (.tuple ds)
inductive TpAll (H : Hp) : List V → List PyData → Prop
  | nil : TpAll H [] []
  | cons {v : V} {vs : List V} {d : PyData} {ds : List PyData} : Tp H v d → TpAll H vs ds → TpAll H (v :: vs) (d :: ds)
end
/-- tuples stay -/
def KT (H H' : Hp) : Prop := ∀ a xs, H a = some (.tup xs) → H' a = some (.tup xs)
theorem KT.refl {H : Hp} : KT H H := fun _ _ h => h
theorem KT.trans {H H1 H2 : Hp} (a : KT H H1) (b : KT H1 H2) : KT H H2 := fun c xs h => b c xs (a c xs h)
theorem KT.same {H H' : Hp} (s : Same H H') : KT H H' := fun a xs h => s a _ h
theorem KT.kp {H H' : Hp} {t c : Addr} {n : Nat} (tp : Tape H t c n) (k : Kp t H H') : KT H H' := fun a xs h => by
  obtain ⟨ns', sp', lf', tc, _⟩ := tp
  exact k _ _ h (ne_of h tc.d (by intro z; cases z))
theorem KT.lst {H : Hp} {D : Addr} {xs : List V} {o : HO} (h : H D = some (.lst xs)) : KT H (upd H D o) := fun a ys e => by
  rw [upd_ne (ne_of e h (by intro z; cases z))]
  exact e
theorem KT.new {H : Hp} {p : Addr} {o : HO} (h : H p = none) : KT H (upd H p o) := KT.same (same_new h)
mutual
theorem Tp.kt {H H' : Hp} (s : KT H H') : ∀ {v : V} {d : PyData}, Tp H v d → Tp H' v d
  | _, _, .non => .non
  | _, _, .bl b => .bl b
  | _, _, .int i => .int i
  | _, _, .str x => .str x
  | _, _, .tup h r => .tup (s _ _ h) (TpAll.kt s r)
theorem TpAll.kt {H H' : Hp} (s : KT H H') : ∀ {vs : List V} {ds : List PyData}, TpAll H vs ds → TpAll H' vs ds
  | _, _, .nil => .nil
  | _, _, .cons h r => .cons (Tp.kt s h) (TpAll.kt s r)
end
mutual
theorem Tp.dp {K : PySem.W.Frag} {H : Hp} : ∀ {v : V} {d : PyData}, Tp H v d → Dp K H v d
  | _, _, .non => .non
  | _, _, .bl b => .bl b
  | _, _, .int i => .int i
  | _, _, .str x => .str x
  | _, _, .tup h r => .tup (SqT.of h) (TpAll.dp r)
theorem TpAll.dp {K : PySem.W.Frag} {H : Hp} : ∀ {vs : List V} {ds : List PyData}, TpAll H vs ds → DpAll K H vs ds
  | _, _, .nil => .nil
  | _, _, .cons h r => .cons (Tp.dp h) (TpAll.dp r)
end
theorem TpAll.snoc {H : Hp} {v : V} {d : PyData} : ∀ {vs : List V} {ds : List PyData}, TpAll H vs ds → Tp H v d → TpAll H (vs ++ [v]) (ds ++ [d])
  | _, _, .nil, h => .cons h .nil
  | _, _, .cons a r, h => .cons a (r.snoc h)
theorem TpAll.app {H : Hp} {ws : List V} {es : List PyData} : ∀ {vs : List V} {ds : List PyData}, TpAll H vs ds → TpAll H ws es → TpAll H (vs ++ ws) (ds ++ es)
  | _, _, .nil, h => h
  | _, _, .cons a r, h => .cons a (r.app h)
theorem TpAll.len {H : Hp} : ∀ {vs : List V} {ds : List PyData}, TpAll H vs ds → vs.length = ds.length
  | _, _, .nil => rfl
  | _, _, .cons _ r => by rw [List.length_cons, List.length_cons, r.len]
theorem TpAll.get {H : Hp} : ∀ {vs : List V} {ds : List PyData} {i : Nat} {d : PyData}, TpAll H vs ds → ds[i]? = some d → ∃ v, vs[i]? = some v ∧ Tp H v d
  | _, _, _, _, .nil, e => by cases e
  | _, _, 0, _, .cons a _, e => ⟨_, rfl, by cases e; exact a⟩
  | _, _, i + 1, _, .cons _ r, e => r.get e
theorem tp_rep {H : Hp} {v : V} {d : PyData} (h : Tp H v d) : ∀ n, TpAll H (List.replicate n v) (List.replicate n d)
  | 0 => .nil
  | n + 1 => .cons h (tp_rep h n)
theorem Tp.new {H : Hp} {p : Addr} {xs : List V} {ds : List PyData} (n : H p = none) (r : TpAll H xs ds) : Tp (upd H p (.tup xs)) (.ref p) (.tuple ds) := .tup upd_same (r.kt (KT.new n))
theorem flat_one {v : V} : ∀ n : Nat, (List.replicate n [v]).flatten = List.replicate n v
  | 0 => rfl
  | n + 1 => by
    rw [List.replicate_succ, List.flatten_cons, flat_one n]
    rfl
/-! ### a comprehension over a range, whose items are new -/
section
variable {K : PySem.W.Frag} {tt : TT} {te : TE} {vs : List Nat} {σ : L2.St} {H : Hp} {D : Addr} {Qd : Hp → Prop} {j : Nat}
theorem lc_rangeC {lo c : Int} {n : Nat} {g : TG} (Pv : Nat → Hp → Prop) (h0 : Pv 0 (upd H D (.lst [])))
    (hs : ∀ i H, i < n → Pv i H → g (.int (lo + (i : Nat) * c)) (wipe σ vs) H fun σ2 H2 => wipe σ2 vs = wipe σ vs ∧ tt σ2 H2 fun b H3 =>
      if b = true then te σ2 H3 fun y H4 => ∃ acc, H4 D = some (.lst acc) ∧ acc.length < sizeLine ∧ Pv (i + 1) (upd H4 D (.lst (acc ++ [y]))) else Pv (i + 1) H3) (hd : ∀ H, Pv n H → Qd H) :
    ∃ W : Nat → Nat → Hp → Prop, (∃ m, W 0 m (upd H D (.lst []))) ∧ ∀ i m H, W i m H →
      ((Itc lo c n).stop i H ∧ Qd H) ∨ ((Itc lo c n).go i H ∧ ∃ Nx : Hp → Prop, (∀ H', Nx H' → ∃ m', m' < m ∧ W (i + 1) m' H') ∧ ∀ x H', (Itc lo c n).yld i H x H' → g x (wipe σ vs) H' fun σ2 H2 => wipe σ2 vs = wipe σ vs ∧ tt σ2 H2 fun b H3 =>
        if b = true then te σ2 H3 fun y H4 => ∃ acc, H4 D = some (.lst acc) ∧ acc.length < sizeLine ∧ Nx (upd H4 D (.lst (acc ++ [y]))) else Nx H3) := by
  refine ⟨fun i m H => m = n - i ∧ i ≤ n ∧ Pv i H, ⟨n, by simp, Nat.zero_le _, h0⟩, ?_⟩
  rintro i m H ⟨rfl, hi, p⟩
  by_cases hlt : i < n
  · refine .inr ⟨hlt, Pv (i + 1), fun H' p' => ⟨n - (i + 1), by omega, rfl, hlt, p'⟩, fun x H' y => ?_⟩
    obtain ⟨rfl, rfl⟩ := y
    exact hs i H' hlt p
  · have e : i = n := by omega
    subst e
    exact .inl ⟨Nat.le_refl _, hd H p⟩
/-- what stands at a turn: so many items that are data -/
structure TpT (H H' : Hp) (D : Addr) (ds : List PyData) : Prop where
  s : Same H H'
  ex : ∃ xs, H' D = some (.lst xs) ∧ TpAll H' xs ds
theorem TpT.new (hD : H D = none) : TpT H (upd H D (.lst [])) D [] := ⟨same_new hD, [], upd_same, .nil⟩
/-- an item more -/
theorem TpT.put {H1 H2 : Hp} {y : V} {d : PyData} {ds : List PyData} (hD : H D = none) (p : TpT H H1 D ds) (s : Same H1 H2) (small : ds.length < sizeLine) (hy : Tp H2 y d) :
    ∃ acc, H2 D = some (.lst acc) ∧ acc.length < sizeLine ∧ TpT H (upd H2 D (.lst (acc ++ [y]))) D (ds ++ [d]) := by
  obtain ⟨xs, e, r⟩ := p.ex
  have e2 := s _ _ e
  refine ⟨xs, e2, by rw [r.len]; exact small, same_mut (p.s.trans s) hD, _, upd_same, ?_⟩
  exact ((r.kt (KT.same s)).snoc hy).kt (KT.lst e2)
end

/-! ### how many choices of counts, as plain functions -/
def sm (f : Int → Int) : Nat → Int
  | 0 => 0
  | n + 1 => sm f n + f n
theorem sm_congr {f g : Int → Int} : ∀ n : Nat, (∀ i : Int, 0 ≤ i → i < n → f i = g i) → sm f n = sm g n
  | 0, _ => rfl
  | n + 1, h => by
    show sm f n + f n = sm g n + g n
    rw [sm_congr n fun i a b => h i a (by omega), h n (by omega) (by omega)]
theorem sm_nil : ∀ (n : Nat) (f : Int → Int), (∀ i : Int, 0 ≤ i → i < n → f i = 0) → sm f n = 0
  | 0, _, _ => rfl
  | n + 1, f, h => by
    show sm f n + f n = 0
    rw [sm_nil n f fun i a b => h i a (by omega), h n (by omega) (by omega)]
    rfl
theorem sm_add (f g : Int → Int) : ∀ n : Nat, sm (fun i => f i + g i) n = sm f n + sm g n
  | 0 => rfl
  | n + 1 => by
    show sm (fun i => f i + g i) n + (f n + g n) = (sm f n + f n) + (sm g n + g n)
    rw [sm_add f g n]
    omega
theorem sm_swap (G : Int → Int → Int) (m : Nat) : ∀ n : Nat, sm (fun i => sm (fun j => G i j) m) n = sm (fun j => sm (fun i => G i j) n) m
  | 0 => (sm_nil m _ fun _ _ _ => rfl).symm
  | n + 1 => by
    show sm (fun i => sm (fun j => G i j) m) n + sm (fun j => G n j) m = sm (fun j => sm (fun i => G i j) n + G n j) m
    rw [sm_swap G m n, sm_add]
theorem sm_first (f : Int → Int) : ∀ n : Nat, sm f (n + 1) = f 0 + sm (fun k => f (k + 1)) n
  | 0 => by
    show 0 + f (0 : Nat) = f 0 + 0
    rw [Int.zero_add, Int.add_zero]
    rfl
  | n + 1 => by
    show sm f (n + 1) + f ((n + 1 : Nat) : Int) = f 0 + (sm (fun k => f (k + 1)) n + f ((n : Int) + 1))
    rw [sm_first f n, show ((n + 1 : Nat) : Int) = (n : Int) + 1 from rfl]
    omega
theorem sm_split (f : Int → Int) (n : Nat) : ∀ m : Nat, sm f (n + m) = sm f n + sm (fun k => f (n + k)) m
  | 0 => by
    show sm f n = sm f n + 0
    omega
  | m + 1 => by
    show sm f (n + m) + f ((n + m : Nat) : Int) = sm f n + (sm (fun k => f (n + k)) m + f ((n : Int) + (m : Nat)))
    rw [sm_split f n m, show ((n + m : Nat) : Int) = (n : Int) + (m : Int) from Int.natCast_add n m]
    omega
theorem sm_back (f : Int → Int) : ∀ n : Nat, sm f n = sm (fun k => f (n - 1 - k)) n
  | 0 => rfl
  | n + 1 => by
    rw [sm_first (fun k => f (((n + 1 : Nat) : Int) - 1 - k)) n]
    show sm f n + f n = f (((n + 1 : Nat) : Int) - 1 - 0) + sm (fun k => f (((n + 1 : Nat) : Int) - 1 - (k + 1))) n
    rw [sm_back f n, show ((n + 1 : Nat) : Int) - 1 - 0 = n by omega, sm_congr n (f := fun k => f (((n + 1 : Nat) : Int) - 1 - (k + 1))) (g := fun k => f (n - 1 - k)) fun i _ _ => congrArg f (by omega)]
    omega
def wstep (l : Nat) (F : Int → Int) (t : Int) : Int := sm (fun k => F (t - k)) (l + 1)
def w0 (t : Int) : Int := if t = 0 then 1 else 0
def wFrom (F : Int → Int) (ls : List Int) : Int → Int := ls.foldl (fun F l => wstep l.toNat F) F
def wAll (ls : List Int) : Int → Int := wFrom w0 ls
theorem wAll_snoc (xs : List Int) (x : Int) : wAll (xs ++ [x]) = wstep x.toNat (wAll xs) := by
  unfold wAll wFrom
  rw [List.foldl_append]
  rfl
theorem wstep_comm (a b : Nat) (F : Int → Int) : wstep a (wstep b F) = wstep b (wstep a F) := by
  funext t
  show sm (fun i => sm (fun j => F (t - i - j)) (b + 1)) (a + 1) = sm (fun j => sm (fun i => F (t - j - i)) (a + 1)) (b + 1)
  rw [sm_swap]
  exact sm_congr _ fun j _ _ => sm_congr _ fun i _ _ => congrArg F (by omega)
theorem wFrom_in : ∀ (ls : List Int) (a : Nat) (F : Int → Int), wFrom (wstep a F) ls = wstep a (wFrom F ls)
  | [], _, _ => rfl
  | l :: r, a, F => by
    show wFrom (wstep l.toNat (wstep a F)) r = wstep a (wFrom (wstep l.toNat F) r)
    rw [wstep_comm, wFrom_in r a]
theorem wFrom_append (F : Int → Int) (a b : List Int) : wFrom F (a ++ b) = wFrom (wFrom F a) b := List.foldl_append
theorem wAll_reverse : ∀ ls : List Int, wAll ls.reverse = wAll ls
  | [] => rfl
  | l :: r => by
    rw [List.reverse_cons, wAll_snoc, wAll_reverse r]
    exact (wFrom_in r l.toNat w0).symm
/-- it is 0 below 0 and above S, and the same from both ends -/
structure Tall (F : Int → Int) (S : Int) : Prop where
  lo : ∀ t, t < 0 → F t = 0
  hi : ∀ t, S < t → F t = 0
  sy : ∀ t, F (S - t) = F t
theorem tall0 : Tall w0 0 := by
  refine ⟨fun t h => if_neg (by omega), fun t h => if_neg (by omega), fun t => ?_⟩
  unfold w0
  by_cases e : t = 0
  · rw [if_pos e, if_pos (by omega)]
  · rw [if_neg e, if_neg (by omega)]
theorem tall_step {F : Int → Int} {S : Int} (h : Tall F S) (l : Nat) : Tall (wstep l F) (S + l) := by
  refine ⟨fun t ht => sm_nil _ _ fun i a b => h.lo _ (by omega), fun t ht => sm_nil _ _ fun i a b => h.hi _ (by omega), fun t => ?_⟩
  show sm (fun k => F (S + l - t - k)) (l + 1) = sm (fun k => F (t - k)) (l + 1)
  rw [sm_back (fun k => F (t - k))]
  refine sm_congr _ fun i a b => ?_
  show F (S + l - t - i) = F (t - (((l + 1 : Nat) : Int) - 1 - i))
  rw [← h.sy]
  exact congrArg F (by omega)
theorem tall_from : ∀ (ls : List Int) (F : Int → Int) (S : Int), Tall F S → (∀ l ∈ ls, 0 ≤ l) → Tall (wFrom F ls) (S + ls.sum)
  | [], F, S, h, _ => by
    rw [List.sum_nil, Int.add_zero]
    exact h
  | l :: r, F, S, h, p => by
    rw [List.sum_cons]
    have hl := p l List.mem_cons_self
    have e : S + (l + r.sum) = S + (l.toNat : Int) + r.sum := by omega
    rw [e]
    exact tall_from r _ _ (tall_step h l.toNat) fun x hx => p x (List.mem_cons_of_mem _ hx)
theorem tall_all (ls : List Int) (p : ∀ l ∈ ls, 0 ≤ l) : Tall (wAll ls) ls.sum := by
  have h := tall_from ls w0 0 tall0 p
  rw [Int.zero_add] at h
  exact h
theorem wstep_next (l : Nat) (F : Int → Int) (t : Int) : wstep l F t = wstep l F (t - 1) + F t - F (t - 1 - l) := by
  have e : wstep l F t = F t + sm (fun k => F (t - 1 - k)) l := by
    show sm (fun k => F (t - k)) (l + 1) = _
    rw [sm_first (fun k => F (t - k)) l]
    show F (t - 0) + sm (fun k => F (t - (k + 1))) l = _
    rw [Int.sub_zero, sm_congr l (f := fun k => F (t - (k + 1))) (g := fun k => F (t - 1 - k)) fun i _ _ => congrArg F (by omega)]
  rw [e]
  show F t + sm (fun k => F (t - 1 - k)) l = (sm (fun k => F (t - 1 - k)) l + F (t - 1 - l)) + F t - F (t - 1 - l)
  omega
/-- the table of the first n -/
def tab (F : Int → Int) (n : Nat) : List Int := (List.range n).map fun i : Nat => F (i : Int)
theorem tab_len (F : Int → Int) (n : Nat) : (tab F n).length = n := by
  unfold tab
  rw [List.length_map, List.length_range]
theorem tab_at {F : Int → Int} {n i : Nat} (h : i < n) : (tab F n)[i]? = some (F (i : Int)) := by
  unfold tab
  rw [List.getElem?_map, List.getElem?_range h]
  rfl
theorem tab_snoc (F : Int → Int) (n : Nat) : tab F (n + 1) = tab F n ++ [F (n : Int)] := by
  unfold tab
  rw [List.range_succ, List.map_append]
  rfl
theorem tab_cut (F : Int → Int) (n a : Nat) : ∀ k : Nat, a + k ≤ n → (((tab F n).drop a).take k).sum = sm (fun j => F (a + j)) k
  | 0, _ => by
    rw [List.take_zero]
    rfl
  | k + 1, h => by
    rw [List.take_add_one, List.sum_append, tab_cut F n a k (by omega), List.getElem?_drop, tab_at (by omega)]
    show sm (fun j => F (a + j)) k + ([F ((a + k : Nat) : Int)] : List Int).sum = sm (fun j => F (a + j)) k + F (a + (k : Nat))
    rw [List.sum_cons, List.sum_nil, Int.add_zero, Int.natCast_add]
/-- a sum of a slice is a step -/
theorem cut_step {F : Int → Int} {S : Int} (h : Tall F S) {n t l : Nat} (ht : t < n) : (((tab F n).drop (t - l)).take (t + 1 - (t - l))).sum = wstep l F t := by
  rw [tab_cut F n _ _ (by omega)]
  show _ = sm (fun k => F ((t : Int) - k)) (l + 1)
  by_cases c : l ≤ t
  · rw [show t + 1 - (t - l) = l + 1 by omega, sm_back (fun k => F ((t : Int) - k))]
    exact sm_congr _ fun i a b => congrArg F (by omega)
  · rw [show t - l = 0 by omega, show l + 1 = (t + 1) + (l - t) by omega, sm_split, sm_nil (l - t) (fun k => F ((t : Int) - (((t + 1 : Nat) : Int) + k))) fun i a b => h.lo _ (by omega), Int.add_zero, sm_back (fun k => F ((t : Int) - k))]
    exact sm_congr _ fun i a b => congrArg F (by omega)
theorem tab_w0 (n : Nat) : tab w0 (n + 1) = 1 :: List.replicate n 0 := by
  induction n with
  | zero => rfl
  | succ n ih =>
    rw [tab_snoc, ih, List.replicate_succ', List.cons_append]
    have e : w0 ((n + 1 : Nat) : Int) = 0 := if_neg (by omega)
    rw [e]

/-! ### choices of counts, in order: plain functions -/
theorem rev_ind2 {α : Type} {P : List α → Prop} (h0 : P []) (hs : ∀ xs x, P xs → P (xs ++ [x])) (l : List α) : P l := by
  have h : ∀ n (l : List α), l.length = n → P l := by
    intro n
    induction n with
    | zero =>
      intro l e
      rw [List.length_eq_zero_iff.mp e]
      exact h0
    | succ n ih =>
      intro l e
      have ne : l ≠ [] := fun z => by
        rw [z] at e
        cases e
      rw [← List.dropLast_concat_getLast ne]
      exact hs _ _ (ih _ (by rw [List.length_dropLast]; omega))
  exact h _ l rfl
abbrev Pre := List Int × Int
def rgI (lo hi : Int) : List Int := (List.range (hi - lo).toNat).map fun (i : Nat) => lo + (i : Int)
def mx0 (x : Int) : Int := if 0 < x then x else 0
def mn2 (l x : Int) : Int := if x < l then x else l
def ext (p : Pre) (c : Int) : Pre := (p.1 ++ [c], p.2 - c)
def pItem (b l : Int) (p : Pre) : List Pre := (rgI (mx0 (p.2 - b)) (mn2 l p.2 + 1)).map (ext p)
def lItem (l : Int) (p : Pre) : List Pre := (rgI 0 (mn2 l p.2 + 1)).map (ext p)
def pStep (b l : Int) (bs : List Pre) : List Pre := (bs.map (pItem b l)).flatten
def lStep (l : Int) (bs : List Pre) : List Pre := (bs.map (lItem l)).flatten
def lAll (ls : List Int) (t : Int) : List Pre := ls.foldl (fun bs l => lStep l bs) [([], t)]
theorem lAll_snoc (ls : List Int) (l t : Int) : lAll (ls ++ [l]) t = lStep l (lAll ls t) := List.foldl_append
def due (ls : List Int) (t : Int) : List (List Int) := ((lAll ls t).filter fun p => decide (p.2 = 0)).map (·.1)
theorem mem_rg {lo hi c : Int} : c ∈ rgI lo hi ↔ lo ≤ c ∧ c < hi := by
  unfold rgI
  rw [List.mem_map]
  constructor
  · rintro ⟨i, hi', rfl⟩
    have := List.mem_range.mp hi'
    omega
  · rintro ⟨h1, h2⟩
    exact ⟨(c - lo).toNat, List.mem_range.mpr (by omega), by omega⟩
theorem rg_len (lo hi : Int) : (rgI lo hi).length = (hi - lo).toNat := by
  unfold rgI
  rw [List.length_map, List.length_range]
theorem rg_cons {lo hi : Int} (h : lo < hi) : rgI lo hi = lo :: rgI (lo + 1) hi := by
  unfold rgI
  rw [show (hi - lo).toNat = (hi - (lo + 1)).toNat + 1 by omega, List.range_succ_eq_map, List.map_cons, List.map_map]
  have e0 : lo + ((0 : Nat) : Int) = lo := by omega
  rw [e0]
  refine congrArg (List.cons lo) (List.map_congr_left fun i _ => ?_)
  show lo + ((i + 1 : Nat) : Int) = lo + 1 + (i : Int)
  omega
theorem rg_nil {lo hi : Int} (h : hi ≤ lo) : rgI lo hi = [] := by
  unfold rgI
  rw [show (hi - lo).toNat = 0 by omega]
  rfl
/-- those from d on -/
theorem rg_filter (d hi : Int) : ∀ (n : Nat) (lo : Int), (hi - lo).toNat = n → (rgI lo hi).filter (fun k => decide (d ≤ k)) = rgI (if lo < d then d else lo) hi
  | 0, lo, h => by
    rw [rg_nil (by omega), rg_nil (by split <;> omega)]
    rfl
  | n + 1, lo, h => by
    have h1 : lo < hi := by omega
    rw [rg_cons h1, List.filter_cons, rg_filter d hi n (lo + 1) (by omega)]
    by_cases c : d ≤ lo
    · rw [if_pos (decide_eq_true c), if_neg (by omega : ¬ lo + 1 < d), if_neg (by omega : ¬ lo < d), rg_cons h1]
    · rw [if_neg (by rw [decide_eq_false c]; exact Bool.false_ne_true), if_pos (by omega : lo < d)]
      by_cases c2 : lo + 1 < d
      · rw [if_pos c2]
      · rw [if_neg c2, show lo + 1 = d by omega]
/-- the program's step tells just those of the law's that can be led to an end -/
theorem item_filter {b l : Int} (hl : 0 ≤ l) (p : Pre) (hp : 0 ≤ p.2) : (lItem l p).filter (fun q => decide (q.2 ≤ b)) = if p.2 ≤ b + l then pItem b l p else [] := by
  unfold lItem pItem
  rw [List.filter_map]
  have e : ((fun q : Pre => decide (q.2 ≤ b)) ∘ ext p) = fun k => decide (p.2 - b ≤ k) := by
    funext k
    show decide (p.2 - k ≤ b) = decide (p.2 - b ≤ k)
    exact decide_eq_decide.mpr (by omega)
  rw [e, rg_filter _ _ _ 0 rfl]
  show (rgI (mx0 (p.2 - b)) (mn2 l p.2 + 1)).map (ext p) = _
  by_cases c : p.2 ≤ b + l
  · rw [if_pos c]
  · rw [if_neg c, rg_nil]
    · rfl
    · unfold mn2 mx0
      rw [if_pos (by omega : (0 : Int) < p.2 - b)]
      split <;> omega
theorem step_filter {b l : Int} (hl : 0 ≤ l) : ∀ bs : List Pre, (∀ p ∈ bs, 0 ≤ p.2) → (lStep l bs).filter (fun q => decide (q.2 ≤ b)) = pStep b l (bs.filter fun q => decide (q.2 ≤ b + l))
  | [], _ => rfl
  | p :: r, h => by
    have ih := step_filter (b := b) hl r fun q hq => h q (List.mem_cons_of_mem _ hq)
    unfold lStep pStep at ih ⊢
    rw [List.map_cons, List.flatten_cons, List.filter_append, item_filter hl p (h p List.mem_cons_self), ih, List.filter_cons]
    by_cases c : p.2 ≤ b + l
    · rw [if_pos c, if_pos (decide_eq_true c), List.map_cons, List.flatten_cons]
    · rw [if_neg c, if_neg (by rw [decide_eq_false c]; exact Bool.false_ne_true)]
      rfl
theorem all_left {t : Int} (ht : 0 ≤ t) : ∀ (ls : List Int), ∀ p ∈ lAll ls t, 0 ≤ p.2 := by
  intro ls
  refine rev_ind2 (P := fun ls => ∀ p ∈ lAll ls t, 0 ≤ p.2) (fun p hp => ?_) (fun xs x ih p hp => ?_) ls
  · have hp : p ∈ [(([], t) : Pre)] := hp
    rw [List.mem_singleton.mp hp]
    exact ht
  · rw [lAll_snoc] at hp
    unfold lStep at hp
    obtain ⟨q, hq, hpq⟩ := List.mem_flatten.mp hp
    obtain ⟨r, hr, rfl⟩ := List.mem_map.mp hq
    unfold lItem at hpq
    obtain ⟨c, hc, rfl⟩ := List.mem_map.mp hpq
    have hc := mem_rg.mp hc
    have hz := ih r hr
    show 0 ≤ r.2 - c
    unfold mn2 at hc
    split at hc <;> omega
theorem all_len (t : Int) : ∀ (ls : List Int), ∀ p ∈ lAll ls t, p.1.length = ls.length := by
  intro ls
  refine rev_ind2 (P := fun ls => ∀ p ∈ lAll ls t, p.1.length = ls.length) (fun p hp => ?_) (fun xs x ih p hp => ?_) ls
  · have hp : p ∈ [(([], t) : Pre)] := hp
    rw [List.mem_singleton.mp hp]
  · rw [lAll_snoc] at hp
    unfold lStep at hp
    obtain ⟨q, hq, hpq⟩ := List.mem_flatten.mp hp
    obtain ⟨r, hr, rfl⟩ := List.mem_map.mp hq
    unfold lItem at hpq
    obtain ⟨c, hc, rfl⟩ := List.mem_map.mp hpq
    have hz := ih r hr
    show (r.1 ++ [c]).length = (xs ++ [x]).length
    rw [List.length_append, List.length_append, hz]
    rfl
theorem mx0_b {x : Int} : 0 ≤ mx0 x ∧ (0 ≤ x → mx0 x ≤ x) ∧ (x ≤ 0 → mx0 x = 0) := by
  unfold mx0
  split <;> omega
theorem mn2_b {l x : Int} : mn2 l x ≤ l ∧ mn2 l x ≤ x ∧ (mn2 l x = l ∨ mn2 l x = x) := by
  unfold mn2
  split <;> omega
/-- the program's state behind so many rows -/
def pAt (ls : List Int) (t : Int) (i : Nat) : List Pre := (lAll (ls.take i) t).filter fun q => decide (q.2 ≤ (ls.drop i).sum)
theorem pAt_next {ls : List Int} {t : Int} {i : Nat} {l : Int} (ht : 0 ≤ t) (hl : 0 ≤ l) (h : ls[i]? = some l) : pAt ls t (i + 1) = pStep (ls.drop (i + 1)).sum l (pAt ls t i) := by
  obtain ⟨hi, e⟩ := List.getElem?_eq_some_iff.mp h
  unfold pAt
  rw [List.take_add_one, h]
  show (lAll (ls.take i ++ [l]) t).filter _ = _
  rw [lAll_snoc, step_filter hl _ (all_left ht _), List.drop_eq_getElem_cons hi, List.sum_cons, e, Int.add_comm l]
theorem pAt_end {ls : List Int} {t : Int} (ht : 0 ≤ t) : (pAt ls t ls.length).map (·.1) = due ls t := by
  unfold pAt due
  rw [List.take_length, List.drop_length]
  refine congrArg (List.map _) (List.filter_congr fun p hp => ?_)
  have := all_left ht ls p hp
  show decide (p.2 ≤ 0) = decide (p.2 = 0)
  exact decide_eq_decide.mpr (by omega)
theorem pAt_len (ls : List Int) (t : Int) (i : Nat) : (pAt ls t i).length ≤ (lAll (ls.take i) t).length := List.length_filter_le _ _
/-- there is a choice just where the total is no more than the sum -/
theorem sm_pos {f : Int → Int} : ∀ (n : Nat), (∀ i : Int, 0 ≤ i → i < n → 0 ≤ f i) → 0 ≤ sm f n ∧ ((∃ i : Int, 0 ≤ i ∧ i < n ∧ 0 < f i) → 0 < sm f n)
  | 0, _ => ⟨Int.le_refl _, fun ⟨i, a, b, _⟩ => absurd b (by omega)⟩
  | n + 1, h => by
    obtain ⟨a, b⟩ := sm_pos n fun i x y => h i x (by omega)
    have c := h n (by omega) (by omega)
    refine ⟨?_, fun ⟨i, x, y, z⟩ => ?_⟩
    · show 0 ≤ sm f n + f n
      omega
    · show 0 < sm f n + f n
      by_cases e : i = n
      · subst e
        omega
      · have := b ⟨i, x, by omega, z⟩
        omega
theorem wAll_pos : ∀ (ls : List Int), (∀ l ∈ ls, 0 ≤ l) → (∀ t, 0 ≤ wAll ls t) ∧ ∀ t, 0 ≤ t → t ≤ ls.sum → 0 < wAll ls t := by
  intro ls
  refine rev_ind2 (P := fun ls => (∀ l ∈ ls, 0 ≤ l) → (∀ t, 0 ≤ wAll ls t) ∧ ∀ t, 0 ≤ t → t ≤ ls.sum → 0 < wAll ls t) (fun _ => ⟨fun t => ?_, fun t h1 h2 => ?_⟩) (fun xs x ih h => ?_) ls
  · show 0 ≤ w0 t
    unfold w0
    split <;> decide
  · have h2 : t ≤ 0 := h2
    show 0 < w0 t
    unfold w0
    rw [if_pos (by omega)]
    decide
  · obtain ⟨a, b⟩ := ih fun l hl => h l (List.mem_append_left _ hl)
    have hx := h x (List.mem_append_right _ List.mem_cons_self)
    rw [wAll_snoc]
    have z := fun t => sm_pos (f := fun k => wAll xs (t - k)) (x.toNat + 1) fun i _ _ => a _
    refine ⟨fun t => (z t).1, fun t h1 h2 => (z t).2 ?_⟩
    rw [List.sum_append, List.sum_cons, List.sum_nil, Int.add_zero] at h2
    by_cases c : t ≤ xs.sum
    · exact ⟨0, Int.le_refl _, by omega, by rw [Int.sub_zero]; exact b t h1 c⟩
    · have sp : 0 ≤ xs.sum := by
        have hh : ∀ l ∈ xs, 0 ≤ l := fun l hl => h l (List.mem_append_left _ hl)
        clear z a b ih h h2 c
        induction xs with
        | nil => exact Int.le_refl _
        | cons y r ih =>
          rw [List.sum_cons]
          have := ih fun l hl => hh l (List.mem_cons_of_mem _ hl)
          have := hh y List.mem_cons_self
          omega
      exact ⟨t - xs.sum, by omega, by omega, by rw [show t - (t - xs.sum) = xs.sum by omega]; exact b _ sp (Int.le_refl _)⟩
theorem pAt_zero {ls : List Int} {t : Int} (h0 : ∀ l ∈ ls, 0 ≤ l) (ht : 0 ≤ t) : pAt ls t 0 = if 0 < wAll ls t then [([], t)] else [] := by
  unfold pAt
  rw [List.take_zero, List.drop_zero]
  show [(([], t) : Pre)].filter _ = _
  by_cases c : t ≤ ls.sum
  · rw [if_pos ((wAll_pos ls h0).2 t ht c), List.filter_cons, if_pos (decide_eq_true c)]
    rfl
  · have e := (tall_all ls h0).hi t (by omega)
    rw [if_neg (by omega), List.filter_cons, if_neg (by rw [decide_eq_false c]; exact Bool.false_ne_true)]
    rfl

theorem sum_le : ∀ xs : List Int, (∀ l ∈ xs, 0 ≤ l ∧ l ≤ 60) → 0 ≤ xs.sum ∧ xs.sum ≤ 60 * (xs.length : Int)
  | [], _ => ⟨Int.le_refl _, Int.le_refl _⟩
  | x :: r, h => by
    have a := h x List.mem_cons_self
    have b := sum_le r fun l hl => h l (List.mem_cons_of_mem _ hl)
    rw [List.sum_cons, List.length_cons]
    omega
theorem tab_ix {F : Int → Int} {n i : Nat} (h : i < n) : ((tab F n).map V.int)[i]? = some (.int (F (i : Int))) := by
  rw [List.getElem?_map, tab_at h]
  rfl
structure Lens (xs : List Int) : Prop where
  b : ∀ l ∈ xs, 0 ≤ l ∧ l ≤ 60
  n : xs.length ≤ 60
theorem Lens.take {xs : List Int} (h : Lens xs) (i : Nat) : Lens (xs.take i) := ⟨fun l hl => h.b l (List.mem_of_mem_take hl), Nat.le_trans (List.length_take_le' i xs) h.n⟩
theorem Lens.sum {xs : List Int} (h : Lens xs) : 0 ≤ xs.sum ∧ xs.sum ≤ 3600 := by
  have a := sum_le xs h.b
  have b := h.n
  omega
theorem Lens.tall {xs : List Int} (h : Lens xs) : Tall (wAll xs) xs.sum := tall_all xs fun l hl => (h.b l hl).1
def spOne (K : PySem.W.Frag) : Sp := fun vs H Q _ => ∃ (a : Addr) (F : Int → Int) (n : Nat) (l : Int), vs = [.ref a, .int l] ∧ SqL K H a ((tab F n).map V.int) ∧ (∀ t, t < 0 → F t = 0) ∧ (∀ t : Int, (n : Int) ≤ t → F t = 0) ∧ 0 < n ∧ n ≤ 100000 ∧ 0 ≤ l ∧ l ≤ 1000 ∧
  ∀ (H' : Hp) (q : Addr), Same H H' → H' q = some (.lst ((tab (wstep l.toNat F) (n + l.toNat)).map V.int)) → Q (.ref q) H'
def spWays (K : PySem.W.Frag) : Sp := fun vs H Q _ => ∃ (a : Addr) (xs : List Int), vs = [.ref a] ∧ SqL K H a (xs.map V.int) ∧ Lens xs ∧
  ∀ (H' : Hp) (q : Addr), Same H H' → H' q = some (.lst ((tab (wAll xs) (xs.sum.toNat + 1)).map V.int)) → Q (.ref q) H'
def spHow (K : PySem.W.Frag) : Sp := fun vs H Q _ => ∃ (a : Addr) (xs : List Int) (t : Int), vs = [.ref a, .int t] ∧ SqL K H a (xs.map V.int) ∧ Lens xs ∧
  ∀ (H' : Hp), Same H H' → Q (.int (wAll xs t)) H'
theorem cut_tab {F : Int → Int} {n t l : Nat} (ht : t < n) (lo : Int) (hlo : lo = ((t - l : Nat) : Int)) (hi : Int) (hhi : hi = ((t + 1 : Nat) : Int)) :
    cutV ((tab F n).map V.int) (some lo) (some hi) = (((tab F n).drop (t - l)).take (t + 1 - (t - l))).map V.int := by
  subst hlo hhi
  unfold cutV
  rw [HT.sIx_nat, HT.sIx_nat, List.length_map, tab_len, show min (t - l) n = t - l by omega, show min (t + 1) n = t + 1 by omega, List.map_take, List.map_drop]
theorem flat_zeros : ∀ k : Nat, (List.replicate k [V.int 0]).flatten = (List.replicate k (0 : Int)).map V.int
  | 0 => rfl
  | k + 1 => by
    rw [List.replicate_succ, List.flatten_cons, flat_zeros k, List.replicate_succ]
    rfl
theorem start_tab (k : Nat) : [V.int 1] ++ (List.replicate k [V.int 0]).flatten = (tab w0 (k + 1)).map V.int := by
  rw [flat_zeros, tab_w0]
  rfl
theorem flat_same (x : V) : ∀ k : Nat, (List.replicate k [x]).flatten = List.replicate k x
  | 0 => rfl
  | k + 1 => by
    rw [List.replicate_succ, List.flatten_cons, flat_same x k, List.replicate_succ]
    rfl
section
variable {P : Program} {w : World} {K : PySem.W.Frag} {mg : Str → Option Value} {base : Heap}
theorem has_one {cs : Nat → Addr} (T : Top K mg cs) : Has P w K mg base 1 "_with_one_more" ["many", "length"] (spOne K) := by
  refine has_of T.d__with_one_more sc__with_one_more bd__with_one_more (fun vs H Q E h => ?_) (fun f cdv A outer s H vs Q E hr h => ?_)
  · obtain ⟨a, F, n, l, rfl, _⟩ := h
    rfl
  · have hu := hu_of hr
    have nd := sc__with_one_more.nd
    obtain ⟨a, F, n, l, rfl, hS, f0, f1, n0, n1, l0, l1, k⟩ := h
    refine ⟨_, (pss_cons (ps_set (i := 2) nd rfl (.inl rfl) (pe_lst pa_nil))
    (pss_cons (ps_set (i := 3) nd rfl (.inl rfl) pe_int)
    (pss_cons (ps_for PassesOwn.never rfl (pi_range1 (by rfl) T.b_range (pa_cons (pe_op op_add (pe_callB call_len_seq (by rfl) T.b_len (by decide +kernel) (pa_cons (pv 0) pa_nil)) (pv 1)) pa_nil)) (pg_name (i := 4) nd rfl (.inl rfl))
      (C8.pss_cut (ps_if (pt_cmpR op_lt (pv 4) (pe_callB call_len_seq (by rfl) T.b_len (by decide +kernel) (pa_cons (pv 0) pa_nil)) (nomark _)) (pss_one (ps_aug (i := 3) nd rfl (.inl rfl) (pe_ix ix_list (pv 0) (pv 4) (fun _ _ => rfl)) ip_add)) pss_nil)
    (C8.pss_cut (ps_if (pt_cmpR op_gt (pv 4) (pv 1) (nomark _)) (pss_one (ps_aug (i := 3) nd rfl (.inl rfl) (pe_ix ix_list (pv 0) (pe_op op_sub (pe_op op_sub (pv 4) (pv 1)) pe_int) (fun _ _ => rfl)) ip_sub)) pss_nil)
    (pss_one (ps_expr (pe_bm PySem.F.plainAttrs_list PySem.F.slot_list_append PySem.F.type_list_append mt_append (pv 2) (pa_cons (pv 3) pa_nil)))))))
    (pss_one (ps_ret (pv 2)))))), ?_⟩
    have line : 1000000 < sizeLine := by decide
    refine ⟨by show 0 ≤ sizeLine; decide, fun D hD => ?_⟩
    have hS1 : SqL K (upd H D (.lst [])) a ((tab F n).map V.int) := (same_new hD).seq hS
    have lm : ((tab F n).map V.int).length = n := by rw [List.length_map, tab_len]
    refine ⟨_, rfl, a, _, rfl, .inl hS1, _, rfl, _, _, rfl, rfl, _, rfl, ?_, ?_, for_range (lo := 0) (fun i σ H' => ∃ v4, σ = [some (.ref a), some (.int l), some (.ref D), some (.int (wstep l.toNat F ((i : Int) - 1))), v4] ∧ Same H H' ∧
      H' D = some (.lst ((tab (wstep l.toNat F) i).map V.int))) ⟨none, ?_, same_new hD, upd_same⟩ ?_ ?_⟩
    · rw [lm]
      omega
    · rw [lm]
      omega
    · have e : wstep l.toNat F (((0 : Nat) : Int) - 1) = 0 := sm_nil _ _ fun j a b => f0 _ (by omega)
      rw [e]
      rfl
    · rintro i σ H1 hi ⟨v4, rfl, s1, h1⟩
      rw [lm] at hi
      have hi2 : i < n + l.toNat := by omega
      have hS2 := s1.seq hS
      refine ⟨fun σ' H' => H' = H1 ∧ σ' = [some (.ref a), some (.int l), some (.ref D), some (.int (wstep l.toNat F ((i : Int) - 1) + F i)), some (.int (0 + i))], ?_, ?_⟩
      · refine ⟨_, rfl, _, rfl, a, _, rfl, .inl hS2, _, _, rfl, rfl, _, rfl, ite2 (fun c => ?_) (fun c => ?_)⟩
        · have c' : (0 : Int) + i < (((tab F n).map V.int).length : Int) := of_decide_eq_true c
          rw [lm] at c'
          refine ⟨_, rfl, _, rfl, _, rfl, a, _, _, _, rfl, rfl, hS2, at_of (j := i) (by omega) (tab_ix (by omega)), _, _, rfl, rfl, rfl, rfl⟩
        · have c' : ¬ (0 : Int) + i < (((tab F n).map V.int).length : Int) := fun z => c (decide_eq_true z)
          rw [lm] at c'
          refine ⟨rfl, ?_⟩
          rw [f1 i (by omega), Int.add_zero]
          rfl
      · rintro σ' H' ⟨rfl, rfl⟩
        refine ⟨fun σ' H'' => H'' = H' ∧ σ' = [some (.ref a), some (.int l), some (.ref D), some (.int (wstep l.toNat F (i : Int))), some (.int (0 + i))], ?_, ?_⟩
        · refine ⟨_, rfl, _, rfl, _, _, rfl, rfl, _, rfl, ite2 (fun c => ?_) (fun c => ?_)⟩
          · have c' : l < (0 : Int) + i := of_decide_eq_true c
            refine ⟨_, rfl, _, rfl, _, rfl, _, rfl, _, _, rfl, rfl, _, _, rfl, rfl, a, _, _, _, rfl, rfl, hS2, at_of (j := i - l.toNat - 1) (by omega) (tab_ix (by omega)), _, _, rfl, rfl, rfl, ?_⟩
            rw [wstep_next l.toNat F i, show ((i - l.toNat - 1 : Nat) : Int) = (i : Int) - 1 - (l.toNat : Int) by omega]
            rfl
          · have c' : ¬ l < (0 : Int) + i := fun z => c (decide_eq_true z)
            refine ⟨rfl, ?_⟩
            rw [wstep_next l.toNat F i, f0 ((i : Int) - 1 - (l.toNat : Int)) (by omega), Int.sub_zero]
        · rintro σ' H'' ⟨rfl, rfl⟩
          refine ⟨_, rfl, .inl ⟨rfl, _, SqL.of h1⟩, _, rfl, D, _, _, rfl, rfl, h1, ?_, some (.int (0 + i)), ?_, same_mut s1 hD, ?_⟩
          · rw [List.length_map, tab_len]
            omega
          · rw [show ((i + 1 : Nat) : Int) - 1 = i by omega]
          · rw [upd_same, tab_snoc, List.map_append]
            rfl
    · rintro σ H1 ⟨v4, rfl, s1, h1⟩
      rw [lm, show ((n : Int) + l).toNat = n + l.toNat by omega] at h1
      exact ⟨_, rfl, k H1 D s1 h1⟩
theorem has_ways {cs : Nat → Addr} (T : Top K mg cs) (h__with_one_more : Has P w K mg base 1 "_with_one_more" ["many", "length"] (spOne K)) : Has P w K mg base 2 "ways" ["lens"] (spWays K) := by
  refine has_of T.d_ways sc_ways bd_ways (fun vs H Q E h => ?_) (fun f cdv A outer s H vs Q E hr h => ?_)
  · obtain ⟨a, xs, rfl, _⟩ := h
    rfl
  · have hu := hu_of hr
    have nd := sc_ways.nd
    obtain ⟨a, xs, rfl, hS, hl, k⟩ := h
    refine ⟨_, (pss_cons (ps_set (i := 1) nd rfl (.inl rfl) (pe_lst (pa_cons pe_int pa_nil)))
    (pss_cons (ps_for PassesOwn.never rfl (pi_list (pv 0)) (pg_name (i := 2) nd rfl (.inl rfl))
      (pss_one (ps_set (i := 1) nd rfl (.inl rfl) (pe_has h__with_one_more (hr.mono (by omega)) (by rfl) (pa_cons (pv 1) (pa_cons (pv 2) pa_nil))))))
    (pss_one (ps_ret (pv 1))))), ?_⟩
    refine ⟨by show 1 ≤ sizeLine; decide, fun D hD => ?_⟩
    refine ⟨_, rfl, a, rfl, ⟨_, (same_new hD).seq hS⟩, for_list (K := K) (a := a) (xs := xs.map V.int) (fun i σ H' => ∃ q v2, σ = [some (.ref a), some (.ref q), v2] ∧ Same H H' ∧ H' q = some (.lst ((tab (wAll (xs.take i)) ((xs.take i).sum.toNat + 1)).map V.int)))
      ⟨D, none, rfl, same_new hD, upd_same⟩ ?_ ?_ ?_⟩
    · rintro i σ H1 _ ⟨q, v2, _, s1, _⟩
      exact s1.seq hS
    · rintro i x σ H1 hi ⟨q, v2, rfl, s1, h1⟩
      obtain ⟨z, rfl, hz⟩ := int_at hi
      have tl := (hl.take i).tall
      have ts := (hl.take i).sum
      have bz := hl.b z (List.mem_of_getElem? hz)
      refine ⟨_, rfl, _, rfl, q, wAll (xs.take i), (xs.take i).sum.toNat + 1, z, rfl, SqL.of h1, tl.lo, fun t ht => tl.hi t (by omega), by omega, by omega, by omega, by omega, fun H2 q2 s2 h2 => ⟨q2, _, rfl, s1.trans s2, ?_⟩⟩
      rw [take_snoc hz, wAll_snoc, List.sum_append, List.sum_cons, List.sum_nil, show ((xs.take i).sum + (z + 0)).toNat + 1 = (xs.take i).sum.toNat + 1 + z.toNat by omega]
      exact h2
    · rintro σ H1 ⟨q, v2, rfl, s1, h1⟩
      rw [List.length_map, List.take_length] at h1
      exact ⟨_, rfl, k H1 q s1 h1⟩
theorem has_how {cs : Nat → Addr} (T : Top K mg cs) (h_ways : Has P w K mg base 2 "ways" ["lens"] (spWays K)) : Has P w K mg base 3 "how_many" ["lens", "total"] (spHow K) := by
  refine has_of T.d_how_many sc_how_many bd_how_many (fun vs H Q E h => ?_) (fun f cdv A outer s H vs Q E hr h => ?_)
  · obtain ⟨a, xs, t, rfl, _⟩ := h
    rfl
  · have hu := hu_of hr
    have nd := sc_how_many.nd
    obtain ⟨a, xs, t, rfl, hS, hl, k⟩ := h
    refine ⟨_, (pss_cons (ps_set (i := 2) nd rfl (.inl rfl) (pe_has h_ways (hr.mono (by omega)) (by rfl) (pa_cons (pv 0) pa_nil)))
    (pss_cons (ps_if (pt_chain op_le op_lt pe_int (pv 1) (pe_callB call_len_seq (by rfl) T.b_len (by decide +kernel) (pa_cons (pv 2) pa_nil))) (pss_one (ps_ret (pe_ix ix_list (pv 2) (pv 1) (fun _ _ => rfl)))) pss_nil)
    (pss_one (ps_ret pe_int)))), ?_⟩
    have tl := hl.tall
    have ts := hl.sum
    refine ⟨_, rfl, a, xs, rfl, hS, hl, fun H1 q s1 h1 => ?_⟩
    have lm : ((tab (wAll xs) (xs.sum.toNat + 1)).map V.int).length = xs.sum.toNat + 1 := by rw [List.length_map, tab_len]
    refine ⟨_, rfl, _, _, rfl, rfl, _, rfl, ite2 (fun c1 => ?_) (fun c1 => ?_)⟩
    · have c1' : 0 ≤ t := of_decide_eq_true c1
      refine ⟨_, rfl, q, _, rfl, .inl (SqL.of h1), _, _, rfl, rfl, _, rfl, ?_⟩
      rw [lm]
      refine ite2 (fun c2 => ?_) (fun c2 => ?_)
      · have c2' : t < ((xs.sum.toNat + 1 : Nat) : Int) := of_decide_eq_true c2
        refine ⟨_, rfl, _, rfl, q, _, _, _, rfl, rfl, SqL.of h1, at_of (j := t.toNat) (by omega) (tab_ix (by omega)), ?_⟩
        rw [show ((t.toNat : Nat) : Int) = t by omega]
        exact k H1 s1
      · have c2' : ¬ t < ((xs.sum.toNat + 1 : Nat) : Int) := fun z => c2 (decide_eq_true z)
        have e := tl.hi t (by omega)
        rw [e] at k
        exact k H1 s1
    · have c1' : ¬ 0 ≤ t := fun z => c1 (decide_eq_true z)
      have e := tl.lo t (by omega)
      rw [e] at k
      exact ⟨_, rfl, iteF (k H1 s1)⟩
end

/-! ### pieces of tuples -/
theorem cut_nat (xs : List V) (i j : Nat) : cutV xs (some (i : Int)) (some (j : Int)) = (xs.drop i).take (j - i) := by
  unfold cutV
  rw [HT.sIx_nat, HT.sIx_nat]
  by_cases h : i ≤ xs.length
  · rw [Nat.min_eq_left h]
    by_cases h2 : j ≤ xs.length
    · rw [Nat.min_eq_left h2]
    · rw [Nat.min_eq_right (by omega), List.take_of_length_le (by rw [List.length_drop]; omega), List.take_of_length_le (by rw [List.length_drop]; omega)]
  · rw [List.drop_eq_nil_of_le (by omega : xs.length ≤ min i xs.length), List.drop_eq_nil_of_le (by omega : xs.length ≤ i), List.take_nil, List.take_nil]
theorem cut_nat0 (xs : List V) (j : Nat) : cutV xs none (some (j : Int)) = xs.take j := by
  unfold cutV
  rw [HT.sIx_none, HT.sIx_nat, List.drop_zero, Nat.sub_zero]
  by_cases h2 : j ≤ xs.length
  · rw [Nat.min_eq_left h2]
  · rw [Nat.min_eq_right (by omega), List.take_of_length_le (Nat.le_refl _), List.take_of_length_le (by omega)]
section
variable {K : PySem.W.Frag} {H : Hp} {a b : Addr} {xs ys : List V} {Q : VK}
theorem tup_take {m : Nat} (ha : H a = some (.tup xs)) (k : ∀ H' r, Same H H' → H' r = some (.tup (xs.take m)) → Q (.ref r) H') : rSlA K (.ref a) none (some (m : Int)) H Q := by
  refine ⟨a, xs, rfl, SqT.of ha, fun h => ?_, fun _ p hp => ?_⟩
  · rw [HT.sIx_nat] at h
    refine k H a (Same.refl _) ?_
    rw [List.take_of_length_le (by omega)]
    exact ha
  · rw [cut_nat0]
    exact k _ p (same_new hp) upd_same
theorem tup_mid {i j : Nat} (ha : H a = some (.tup xs)) (k : ∀ H' r, Same H H' → H' r = some (.tup ((xs.drop i).take (j - i))) → Q (.ref r) H') : rSlA K (.ref a) (some (i : Int)) (some (j : Int)) H Q := by
  refine ⟨a, xs, rfl, SqT.of ha, fun h => ?_, fun _ p hp => ?_⟩
  · rw [HT.sIx_nat, HT.sIx_nat] at h
    refine k H a (Same.refl _) ?_
    have e : (xs.drop i).take (j - i) = xs := by
      rw [← cut_nat]
      unfold cutV
      rw [HT.sIx_nat, HT.sIx_nat, h.1, h.2, Nat.sub_zero, List.drop_zero, List.take_length]
    rw [e]
    exact ha
  · rw [cut_nat]
    exact k _ p (same_new hp) upd_same
theorem tup_cat (ha : H a = some (.tup xs)) (hb : H b = some (.tup ys)) (small : xs.length + ys.length ≤ sizeLine) (k : ∀ H' r, Same H H' → H' r = some (.tup (xs ++ ys)) → Q (.ref r) H') : rCatA K (.ref a) (.ref b) H Q := by
  refine ⟨a, b, xs, ys, rfl, rfl, SqT.of ha, SqT.of hb, small, fun e => ?_, fun _ e => ?_, fun _ _ p hp => k _ p (same_new hp) upd_same⟩
  · subst e
    exact k H b (Same.refl _) hb
  · subst e
    refine k H a (Same.refl _) ?_
    rw [List.append_nil]
    exact ha
end
section
variable {X : Cx}
theorem sl_tupAK {K : PySem.W.Frag} (h : X.K = K) : SlR X (rSlA K) := h ▸ sl_tupA
theorem op_catAK {K : PySem.W.Frag} (h : X.K = K) : OpR X (binaryOp .Add) (rCatA K) := h ▸ op_catA
end
theorem pg_tupK {X : Cx} {K : PySem.W.Frag} {pos : Pos} {es : List Expr} {k : Nat} {t : TGs} {n : Nat} (hK : X.K = K) (hc : X.calm = true) (h : PGs X es t)
    (hn : (assignEach es X.env).length = n := by rfl) (hst : (assignEach es X.env).findIdx? (·.1) = none := by rfl) : PG X (.Tuple es k pos) (gTup K n t) := hK ▸ pg_tup hc h hn hst
theorem iteFd {p : Prop} [Decidable p] {A B : Prop} (h : ¬ p) (b : B) : if decide p = true then A else B := by
  rw [if_neg fun z => h (of_decide_eq_true z)]
  exact b
theorem iteTd {p : Prop} [Decidable p] {A B : Prop} (h : p) (a : A) : if decide p = true then A else B := by
  rw [if_pos (decide_eq_true h)]
  exact a

/-! ### a comprehension of two fors: a list, then a range -/
section
variable {K : PySem.W.Frag} {a : Addr} {xs : List V} {g g1 : TG} {tt tt1 : TT} {te : TE} {wi1 : TI} {vs vs1 : List Nat} {σ σ2 : L2.St} {H1 H4 : Hp} {D : Addr} {Qd Nx : Hp → Prop}
theorem lc2_in {lo : Int} {n : Nat} (Pw : Nat → Hp → Prop) (h0 : Pw 0 H4)
    (hs : ∀ j H, j < n → Pw j H → g1 (.int (lo + (j : Nat))) (wipe σ2 vs1) H fun σ3 H5 => wipe σ3 vs1 = wipe σ2 vs1 ∧ tt1 σ3 H5 fun b H6 =>
      if b = true then te σ3 H6 fun y H7 => ∃ acc, H7 D = some (.lst acc) ∧ acc.length < sizeLine ∧ Pw (j + 1) (upd H7 D (.lst (acc ++ [y]))) else Pw (j + 1) H6) (hd : ∀ H, Pw n H → Nx H) :
    ∃ W1 : Nat → Nat → Hp → Prop, (∃ m, W1 0 m H4) ∧ ∀ j k H, W1 j k H → ((Itr lo n).stop j H ∧ Nx H) ∨ ((Itr lo n).go j H ∧ ∃ Nx1 : Hp → Prop, (∀ H', Nx1 H' → ∃ k', k' < k ∧ W1 (j + 1) k' H') ∧ ∀ x H', (Itr lo n).yld j H x H' → g1 x (wipe σ2 vs1) H' fun σ3 H5 => wipe σ3 vs1 = wipe σ2 vs1 ∧ tt1 σ3 H5 fun b H6 =>
      if b = true then te σ3 H6 fun y H7 => ∃ acc, H7 D = some (.lst acc) ∧ acc.length < sizeLine ∧ Nx1 (upd H7 D (.lst (acc ++ [y]))) else Nx1 H6) := by
  refine ⟨fun j m H => m = n - j ∧ j ≤ n ∧ Pw j H, ⟨n, by simp, Nat.zero_le _, h0⟩, ?_⟩
  rintro j m H ⟨rfl, hj, p⟩
  by_cases hlt : j < n
  · refine .inr ⟨hlt, Pw (j + 1), fun H' p' => ⟨n - (j + 1), by omega, rfl, hlt, p'⟩, fun x H' y => ?_⟩
    obtain ⟨e, y⟩ := y
    subst e y
    exact hs j _ hlt p
  · have e : j = n := by omega
    subst e
    exact .inl ⟨Nat.le_refl _, hd H p⟩
theorem lc2_list (Pv : Nat → Hp → Prop) (h0 : Pv 0 (upd H1 D (.lst []))) (hl : ∀ i H, i ≤ xs.length → Pv i H → SqL K H a xs)
    (hs : ∀ i x H, xs[i]? = some x → Pv i H → g x (wipe σ vs) H fun σ2 H2 => wipe σ2 vs = wipe σ vs ∧ tt σ2 H2 fun b H3 =>
      if b = true then wi1 σ2 H3 fun J1 H4 => ∃ W1 : Nat → Nat → Hp → Prop, (∃ m, W1 0 m H4) ∧ ∀ j k H, W1 j k H →
        (J1.stop j H ∧ Pv (i + 1) H) ∨ (J1.go j H ∧ ∃ Nx1 : Hp → Prop, (∀ H', Nx1 H' → ∃ k', k' < k ∧ W1 (j + 1) k' H') ∧ ∀ x H', J1.yld j H x H' → g1 x (wipe σ2 vs1) H' fun σ3 H5 => wipe σ3 vs1 = wipe σ2 vs1 ∧ tt1 σ3 H5 fun b H6 =>
          if b = true then te σ3 H6 fun y H7 => ∃ acc, H7 D = some (.lst acc) ∧ acc.length < sizeLine ∧ Nx1 (upd H7 D (.lst (acc ++ [y]))) else Nx1 H6)
      else Pv (i + 1) H3) (hd : ∀ H, Pv xs.length H → Qd H) :
    ∃ W : Nat → Nat → Hp → Prop, (∃ m, W 0 m (upd H1 D (.lst []))) ∧ ∀ i m H, W i m H →
      ((Itl K a).stop i H ∧ Qd H) ∨ ((Itl K a).go i H ∧ ∃ Nx : Hp → Prop, (∀ H', Nx H' → ∃ m', m' < m ∧ W (i + 1) m' H') ∧ ∀ x H', (Itl K a).yld i H x H' → g x (wipe σ vs) H' fun σ2 H2 => wipe σ2 vs = wipe σ vs ∧ tt σ2 H2 fun b H3 =>
        if b = true then wi1 σ2 H3 fun J1 H4 => ∃ W1 : Nat → Nat → Hp → Prop, (∃ m, W1 0 m H4) ∧ ∀ j k H, W1 j k H →
          (J1.stop j H ∧ Nx H) ∨ (J1.go j H ∧ ∃ Nx1 : Hp → Prop, (∀ H', Nx1 H' → ∃ k', k' < k ∧ W1 (j + 1) k' H') ∧ ∀ x H', J1.yld j H x H' → g1 x (wipe σ2 vs1) H' fun σ3 H5 => wipe σ3 vs1 = wipe σ2 vs1 ∧ tt1 σ3 H5 fun b H6 =>
            if b = true then te σ3 H6 fun y H7 => ∃ acc, H7 D = some (.lst acc) ∧ acc.length < sizeLine ∧ Nx1 (upd H7 D (.lst (acc ++ [y]))) else Nx1 H6)
        else Nx H3) := by
  refine ⟨fun i m H => m = xs.length - i ∧ i ≤ xs.length ∧ Pv i H, ⟨xs.length, by simp, Nat.zero_le _, h0⟩, ?_⟩
  rintro i m H ⟨rfl, hi, p⟩
  have q := hl i H hi p
  by_cases hlt : i < xs.length
  · refine .inr ⟨⟨xs, xs[i], q, by simp [hlt]⟩, Pv (i + 1), fun H' p' => ⟨xs.length - (i + 1), by omega, rfl, hlt, p'⟩, fun x H' y => ?_⟩
    obtain ⟨e, y⟩ := y
    subst e
    exact hs i x _ (y xs q) p
  · have e : i = xs.length := by omega
    subst e
    exact .inl ⟨⟨xs, q, Nat.le_refl _⟩, hd H p⟩
end
/-! ### the program's choices -/
def tI (l : List Int) : PyData := .tuple (l.map PyData.int)
def dPre (p : Pre) : PyData := .tuple [tI p.1, .int p.2]
theorem tpall_ints {H : Hp} : ∀ l : List Int, TpAll H (l.map V.int) (l.map PyData.int)
  | [] => .nil
  | x :: r => .cons (.int x) (tpall_ints r)
theorem tp_ints {H : Hp} {p : Addr} {l : List Int} (h : H p = some (.tup (l.map V.int))) : Tp H (.ref p) (tI l) := .tup h (tpall_ints l)
theorem tpall_inv {H : Hp} : ∀ {l : List Int} {xs : List V}, TpAll H xs (l.map PyData.int) → xs = l.map V.int
  | [], _, h => by
    cases h
    rfl
  | x :: r, _, h => by
    cases h with
    | cons a b =>
      cases a
      rw [tpall_inv b]
      rfl
theorem tp_pre {H : Hp} {v : V} {p : Pre} (h : Tp H v (dPre p)) : ∃ a b, v = .ref a ∧ H a = some (.tup [.ref b, .int p.2]) ∧ H b = some (.tup (p.1.map V.int)) := by
  unfold dPre at h
  cases h with
  | tup ha r =>
    cases r with
    | cons h1 r =>
      cases r with
      | cons h2 r =>
        cases r
        cases h2
        unfold tI at h1
        cases h1 with
        | tup hb rb => exact ⟨_, _, rfl, ha, by rw [hb, tpall_inv rb]⟩
def Fine (xs : List Int) (t : Int) : Prop := ∀ i, (lAll (xs.take i) t).length ≤ 1000000
theorem same_freeX {H H' : Hp} {p : Addr} (s : Same H H') (h : H' p = none) : H p = none := by
  cases e : H p with
  | none => rfl
  | some o =>
    rw [s _ _ e] at h
    cases h
def spChs (C : Addr) (K : PySem.W.Frag) : Sp := fun vs H Q E => ∃ (a : Addr) (xs : List Int) (t : Int), vs = [.ref a, .int t] ∧ SqL K H a (xs.map V.int) ∧ Lens xs ∧ 0 ≤ t ∧ t ≤ 4000 ∧
  ((wAll xs t ≤ 3003 ∧ Fine xs t ∧ ∀ (H' : Hp) (q : Addr) (ys : List V), Same H H' → H q = none → H' q = some (.lst ys) → TpAll H' ys ((due xs t).map tI) → Q (.ref q) H') ∨
   (3003 < wAll xs t ∧ wAll xs t < 10 ^ 18 ∧ ∀ (H' : Hp) (d : Addr), Same H H' → H d = none → H' d = some (.xd [("many", .int (wAll xs t))]) → E (.ref C) (some d) H'))
section
variable {P : Program} {w : World} {K : PySem.W.Frag} {mg : Str → Option Value} {base : Heap}
theorem has_choices {C : Addr} {cs : Nat → Addr} (T : Top K mg cs) (h_TooMany : HasC P w K mg base C "TooMany" ["self", "many"] (spI1 C "many")) (h_how_many : Has P w K mg base 3 "how_many" ["lens", "total"] (spHow K)) : HasX P w K mg base 5 "choices" ["lens", "total"] (spChs C K) := by
  refine has_ofX T.d_choices sc_choices bd_choices (fun vs H Q E h => ?_) (fun f cdv A outer s H vs Q E hr h => ?_)
  · obtain ⟨a, xs, t, rfl, _⟩ := h
    rfl
  · have hu := hu_of hr
    have nd := sc_choices.nd
    obtain ⟨a, xs, t, rfl, ha, L, t0, t1, hcase⟩ := h
    refine ⟨_, (pss_cons (ps_set (i := 2) nd rfl (.inl rfl) (pe_has h_how_many (hr.mono (by omega)) (by rfl) (pa_cons (pv 0) (pa_cons (pv 1) pa_nil))))
    (pss_cons (ps_if (pt_cmpR op_gt (pv 2) (pe_const T.c_MOST_CHOICES (by rfl)) (nomark _)) (pss_one (ps_raise rfl (takes_of rfl rfl rfl rfl) (pmk_hasC h_TooMany (hr.mono (by omega)) (by rfl) (pa_cons (pv 2) pa_nil)))) pss_nil)
    (pss_cons (ps_set (i := 3) nd rfl (.inl rfl) (pe_lst pa_nil))
    (C8.pss_cut (ps_if (pt_cmpR op_gt (pv 2) pe_int (nomark _)) (pss_one (ps_set (i := 3) nd rfl (.inl rfl) (pe_lst (pa_cons (pe_tup (pa_cons (pe_tup pa_nil) (pa_cons (pv 1) pa_nil))) pa_nil)))) pss_nil)
    (pss_cons (ps_set (i := 4) nd rfl (.inr rfl) (pe_callB (cr_sum rfl) (by rfl) T.b_sum (by decide +kernel) (pa_cons (pv 0) pa_nil)))
    (pss_cons (ps_for (passes_of rfl) rfl (pi_list (pv 0)) (pg_name (i := 5) nd rfl (.inr rfl))
      (pss_cons (ps_aug (i := 4) nd rfl (.inr rfl) (pv 5) ip_sub)
    (pss_one (ps_setLc2 (i := 3) (own := [("counts", 6), ("left", 7), ("count", 8)]) (vs1 := [8]) (by rfl) nd rfl rfl (sw_true rfl rfl rfl (by decide +kernel)) (pi_list (pv 3)) (blkOk_by (own := [("counts", 6), ("left", 7), ("count", 8)]) (N := nm_choices) (sc := defScope s_choices) (by decide +kernel)) (by decide) (fun _ _ _ _ _ => pg_tupK (K := K) (n := 2) rfl (by rfl) (pgs_cons (pg_name (i := 6) nd rfl (.inl rfl)) (pgs_cons (pg_name (i := 7) nd rfl (.inl rfl)) pgs_nil))) (fun _ _ _ _ _ => pts_nil) (fun _ _ _ _ _ => (pi_range2 (by rfl) T.b_range (pa_cons (pe_callB (call_max2 rfl) (by rfl) T.b_max (by decide +kernel) (pa_cons pe_int (pa_cons (pe_op op_sub (pv 7) (pv 4)) pa_nil))) (pa_cons (pe_op op_add (pe_callB (call_min2 rfl) (by rfl) T.b_min (by decide +kernel) (pa_cons (pv 5) (pa_cons (pv 7) pa_nil))) pe_int) pa_nil)))) (fun _ _ _ _ _ => pg_name (i := 8) nd rfl (.inl rfl)) (fun _ _ _ _ _ => pts_nil) (fun _ _ _ _ _ => (pe_tup (pa_cons (pe_op (op_catAK (K := K) rfl) (pv 6) (pe_tup (pa_cons (pv 8) pa_nil))) (pa_cons (pe_op op_sub (pv 7) (pv 8)) pa_nil))))))))
    (pss_one (ps_ret (pe_lc (own := [("counts", 6), ("left", 7)]) (by rfl) nd (pi_list (pv 3)) (blkOk_by (own := [("counts", 6), ("left", 7)]) (N := nm_choices) (sc := defScope s_choices) (by decide +kernel)) (fun _ _ _ _ _ => pg_tupK (K := K) (n := 2) rfl (by rfl) (pgs_cons (pg_name (i := 6) nd rfl (.inl rfl)) (pgs_cons (pg_name (i := 7) nd rfl (.inl rfl)) pgs_nil))) (fun _ _ _ _ _ => pts_nil) (fun _ _ _ _ _ => (pv 6))))))))))), ?_⟩
    have line : (5000000 : Nat) < sizeLine := by decide
    have nn : ∀ l ∈ xs, 0 ≤ l := fun l hl => (L.b l hl).1
    refine ⟨_, rfl, _, rfl, a, xs, t, rfl, ha, L, fun H1 s1 => ?_⟩
    have ha1 := s1.seq ha
    rcases hcase with ⟨few, fine, k⟩ | ⟨many, m18, kE⟩
    rotate_left
    · refine ⟨_, rfl, _, _, rfl, rfl, _, rfl, iteTd (by show (3003 : Int) < wAll xs t; exact many) ⟨_, rfl, by show 1 ≤ 1000; decide, fun b nb => ⟨b, _, rfl, ?_, upd_same, fun dx ndx ne => ⟨rfl, .inr ⟨dx, [("many", .int (wAll xs t))], upd_same, ?_, ?_, ?_⟩⟩⟩⟩⟩
      · exact .int _ (by omega)
      · rw [upd_ne ne, upd_same]
      · rwa [upd_ne ne] at ndx
      · rw [upd_ne ne] at ndx
        have nH : ∀ {c : Addr}, H1 c = none → H c = none := fun {c} e => by
          cases z : H c with
          | none => rfl
          | some o =>
            rw [s1 _ _ z] at e
            cases e
        refine kE _ dx (fun c o e => ?_) (nH ndx) upd_same
        have cd : c ≠ dx := ne_of_none e (nH ndx)
        have cb : c ≠ b := ne_of_none e (nH nb)
        rw [upd_ne cd, del_ne cb, upd_ne cb, upd_ne cd, upd_ne cb]
        exact s1 _ _ e
    refine ⟨_, rfl, _, _, rfl, rfl, _, rfl, iteFd (by show ¬ (3003 : Int) < wAll xs t; omega) ?_⟩
    refine ⟨by show 0 ≤ sizeLine; decide, fun l1 n1 => ?_⟩
    have s2 := s1.trans (same_new (o := .lst []) n1)
    have hl1 : (upd H1 l1 (.lst [])) l1 = some (.lst []) := upd_same
    generalize upd H1 l1 (.lst []) = H2 at s2 hl1
    refine ⟨fun σ' H' => ∃ (B : Addr) (vs : List V), σ' = [some (.ref a), some (.int t), some (.int (wAll xs t)), some (.ref B), none, none, none, none, none] ∧ Same H H' ∧ H' B = some (.lst vs) ∧ TpAll H' vs ((pAt xs t 0).map dPre), ?_, ?_⟩
    · rw [pAt_zero nn t0]
      refine ⟨_, rfl, _, _, rfl, rfl, _, rfl, ite2 (fun c => ?_) (fun c => ?_)⟩
      · have c := of_decide_eq_true c
        rw [if_pos c]
        refine ⟨by show 0 ≤ sizeLine; decide, fun p1 m1 => ⟨_, rfl, by show 2 ≤ sizeLine; decide, fun p2 m2 => ⟨by show 1 ≤ sizeLine; decide, fun p3 m3 => ⟨p3, [.ref p2], rfl, ((s2.trans (same_new m1)).trans (same_new m2)).trans (same_new m3), upd_same, ?_⟩⟩⟩⟩
        refine TpAll.kt (KT.new m3) (.cons ?_ .nil)
        exact .new m2 (.cons (.new m1 .nil) (.cons (.int t) .nil))
      · rw [if_neg (fun z => c (decide_eq_true z))]
        exact ⟨l1, [], rfl, s2, hl1, .nil⟩
    · rintro σ' H3 ⟨B, vs, rfl, s3, hB, tB⟩
      refine ⟨_, rfl, a, _, rfl, s3.seq ha, ?_⟩
      refine ⟨_, rfl, a, rfl, ⟨_, s3.seq ha⟩, for_list (K := K) (a := a) (xs := xs.map V.int) (fun i σ H' => ∃ (B : Addr) (vs : List V) (v5 : Option V), σ = [some (.ref a), some (.int t), some (.int (wAll xs t)), some (.ref B), some (.int (xs.drop i).sum), v5, none, none, none] ∧ Same H H' ∧ H' B = some (.lst vs) ∧ TpAll H' vs ((pAt xs t i).map dPre))
        ⟨B, vs, none, by rw [List.drop_zero]; rfl, s3, hB, tB⟩ ?_ ?_ ?_⟩
      · rintro i σ H' _ ⟨_, _, _, _, s', _⟩
        exact s'.seq ha
      · rintro i x σ H4 hi ⟨B, vs, v5, rfl, s4, hB, tB⟩
        obtain ⟨l, rfl, hl⟩ := int_at hi
        obtain ⟨li, el⟩ := List.getElem?_eq_some_iff.mp hl
        have lm := L.b l (List.mem_of_getElem? hl)
        have ed : (xs.drop i).sum - l = (xs.drop (i + 1)).sum := by
          rw [List.drop_eq_getElem_cons li, List.sum_cons, el]
          omega
        have bd : 0 ≤ (xs.drop (i + 1)).sum ∧ (xs.drop (i + 1)).sum ≤ 3600 := by
          have z := sum_le (xs.drop (i + 1)) fun y hy => L.b y (List.mem_of_mem_drop hy)
          have := L.n
          rw [List.length_drop] at z
          omega
        have full := pAt_next t0 lm.1 hl
        have lfull := pAt_len xs t (i + 1)
        have fin1 := fine (i + 1)
        rw [full] at lfull
        have left : ∀ p ∈ pAt xs t i, 0 ≤ p.2 ∧ p.2 ≤ 3660 ∧ p.1.length ≤ 60 := fun p hp => by
          unfold pAt at hp
          obtain ⟨h1, h2⟩ := List.mem_filter.mp hp
          have h2 := of_decide_eq_true h2
          refine ⟨all_left t0 _ p h1, by omega, ?_⟩
          rw [all_len t _ p h1, List.length_take]
          have := L.n
          omega
        generalize pAt xs t i = bs at tB full lfull left
        rw [← ed] at full lfull bd
        have lv := tB.len
        rw [List.length_map] at lv
        refine ⟨_, rfl, _, rfl, _, _, rfl, rfl, ?_⟩
        refine ⟨_, rfl, B, rfl, ⟨_, SqL.of hB⟩, fun D hD => lc2_list (xs := vs) (fun ii H5 => TpT H4 H5 D ((pStep ((xs.drop i).sum - l) l (bs.take ii)).map dPre)) (TpT.new hD) (fun ii H5 _ p => SqL.of (p.s _ _ hB)) (fun ii x H5 hx p => ?_) (fun H5 p => ?_)⟩
        · have hii : ii < bs.length := by
            rw [← lv]
            exact (List.getElem?_eq_some_iff.mp hx).1
          have hp0 : bs[ii]? = some bs[ii] := List.getElem?_eq_getElem hii
          have lp := left _ (List.getElem_mem hii)
          generalize bs[ii] = p0 at hp0 lp
          obtain ⟨v, hv, tv⟩ := tB.get (show (bs.map dPre)[ii]? = some (dPre p0) by rw [List.getElem?_map, hp0]; rfl)
          rw [hx] at hv
          cases hv
          obtain ⟨c, cb, rfl, hc4, hcb4⟩ := tp_pre tv
          have hc := p.s _ _ hc4
          have est : pStep ((xs.drop i).sum - l) l (bs.take (ii + 1)) = pStep ((xs.drop i).sum - l) l (bs.take ii) ++ pItem ((xs.drop i).sum - l) l p0 := by
            unfold pStep
            rw [List.take_add_one, hp0, List.map_append, List.flatten_append]
            show _ ++ ([p0].map (pItem ((xs.drop i).sum - l) l)).flatten = _
            rw [List.map_cons, List.map_nil, List.flatten_cons, List.flatten_nil, List.append_nil]
          have lst : (pStep ((xs.drop i).sum - l) l (bs.take ii)).length + (pItem ((xs.drop i).sum - l) l p0).length ≤ 1000000 := by
            have e : pStep ((xs.drop i).sum - l) l bs = pStep ((xs.drop i).sum - l) l (bs.take (ii + 1)) ++ pStep ((xs.drop i).sum - l) l (bs.drop (ii + 1)) := by
              unfold pStep
              rw [← List.flatten_append, ← List.map_append, List.take_append_drop]
            rw [e, est, List.length_append, List.length_append] at lfull
            omega
          have li : (pItem ((xs.drop i).sum - l) l p0).length = (mn2 l p0.2 + 1 - mx0 (p0.2 - ((xs.drop i).sum - l))).toNat := by
            unfold pItem
            rw [List.length_map, rg_len]
          refine ⟨c, _, rfl, SqT.of hc, rfl, _, _, rfl, _, _, rfl, rfl, rfl, yes_go ⟨_, rfl, _, rfl, _, _, rfl, rfl, _, _, rfl, _, rfl, _, rfl, _, _, rfl, _, _, rfl, rfl, _, _, rfl, ?_, ?_⟩⟩
          · show -(2 ^ 62) ≤ mx0 (p0.2 - ((xs.drop i).sum - l)) ∧ mx0 (p0.2 - ((xs.drop i).sum - l)) < 2 ^ 62 ∧ -(2 ^ 62) ≤ mn2 l p0.2 + 1 ∧ mn2 l p0.2 + 1 < 2 ^ 62
            obtain ⟨z1, z2, z3⟩ := mx0_b (x := p0.2 - ((xs.drop i).sum - l))
            obtain ⟨y1, y2, y3⟩ := mn2_b (l := l) (x := p0.2)
            have e62 : (2 : Int) ^ 62 = 4611686018427387904 := by decide
            rw [e62]
            by_cases c0 : 0 ≤ p0.2 - ((xs.drop i).sum - l)
            · have := z2 c0
              omega
            · have := z3 (by omega)
              omega
          · refine lc2_in (lo := mx0 (p0.2 - ((xs.drop i).sum - l))) (n := (mn2 l p0.2 + 1 - mx0 (p0.2 - ((xs.drop i).sum - l))).toNat) (fun j H6 => TpT H4 H6 D ((pStep ((xs.drop i).sum - l) l (bs.take ii) ++ (pItem ((xs.drop i).sum - l) l p0).take j).map dPre)) ?_ (fun j H6 hj p6 => ?_) (fun H6 p6 => ?_)
            · rw [List.take_zero, List.append_nil]
              exact p
            · have gj : (pItem ((xs.drop i).sum - l) l p0)[j]? = some (ext p0 (mx0 (p0.2 - ((xs.drop i).sum - l)) + ((j : Nat) : Int))) := by
                unfold pItem rgI
                rw [List.getElem?_map, List.getElem?_map, List.getElem?_range hj]
                rfl
              generalize mx0 (p0.2 - ((xs.drop i).sum - l)) + ((j : Nat) : Int) = ct at gj
              refine ⟨rfl, yes_go ⟨_, rfl, _, rfl, by show 1 ≤ sizeLine; decide, fun q1 m1 => tup_cat (same_new m1 _ _ (p6.s _ _ hcb4)) upd_same (by rw [List.length_map]; show p0.1.length + 1 ≤ _; omega) fun H7 r s7 h7 => ⟨_, rfl, _, rfl, _, _, rfl, rfl, by show 2 ≤ sizeLine; decide, fun q2 m2 => ?_⟩⟩⟩
              have h7' : H7 r = some (.tup ((p0.1 ++ [ct]).map V.int)) := by
                rw [h7, List.map_append]
                rfl
              rw [List.take_add_one, gj, ← List.append_assoc, List.map_append]
              refine p6.put hD (((same_new m1).trans s7).trans (same_new m2)) ?_ (.new m2 (.cons (tp_ints h7') (.cons (.int _) .nil)))
              have := List.length_take_le j (pItem ((xs.drop i).sum - l) l p0)
              rw [List.length_map, List.length_append]
              omega
            · rw [← li, List.take_length, ← est] at p6
              exact p6
        · rw [lv, List.take_length, ← full] at p
          obtain ⟨ys, hD5, tD⟩ := p.ex
          exact ⟨D, ys, some (.int l), by rw [← ed]; rfl, s4.trans p.s, hD5, tD⟩
      · rintro σ H4 ⟨B, vs, v5, rfl, s4, hB, tB⟩
        rw [List.length_map] at tB
        have lv := tB.len
        rw [List.length_map] at lv
        have e := pAt_end (ls := xs) t0
        have fn := pAt_len xs t xs.length
        have fi := fine xs.length
        generalize pAt xs t xs.length = bs at tB e lv fn
        refine ⟨_, rfl, B, rfl, ⟨_, SqL.of hB⟩, fun D hD => lc_list (xs := vs) (fun ii H5 => TpT H4 H5 D ((bs.take ii).map fun p => tI p.1)) (TpT.new hD) (fun ii H5 _ p => SqL.of (p.s _ _ hB)) (fun ii x H5 hx p => ?_) (fun H5 p => ?_)⟩
        · have hii : ii < bs.length := by
            rw [← lv]
            exact (List.getElem?_eq_some_iff.mp hx).1
          have hp0 : bs[ii]? = some bs[ii] := List.getElem?_eq_getElem hii
          generalize bs[ii] = p0 at hp0
          obtain ⟨v, hv, tv⟩ := tB.get (show (bs.map dPre)[ii]? = some (dPre p0) by rw [List.getElem?_map, hp0]; rfl)
          rw [hx] at hv
          cases hv
          obtain ⟨c, cb, rfl, hc, hcb⟩ := tp_pre (tv.kt (KT.same p.s))
          refine ⟨c, _, rfl, SqT.of hc, rfl, _, _, rfl, _, _, rfl, rfl, rfl, yes_go ⟨_, rfl, ?_⟩⟩
          rw [List.take_add_one, hp0, List.map_append]
          exact p.put hD (Same.refl _) (by rw [List.length_map]; have := List.length_take_le ii bs; omega) (tp_ints hcb)
        · rw [lv, List.take_length] at p
          obtain ⟨ys, hD5, tD⟩ := p.ex
          refine k H5 D ys (s4.trans p.s) (same_freeX s4 hD) hD5 ?_
          rw [← e, List.map_map]
          exact tD
end

/-! ### the law's choices -/
def spLChs (K : PySem.W.Frag) : Sp := fun vs H Q _ => ∃ (a : Addr) (xs : List Int) (t : Int), vs = [.ref a, .int t] ∧ SqL K H a (xs.map V.int) ∧ Lens xs ∧ 0 ≤ t ∧ t ≤ 4000 ∧ Fine xs t ∧
  ∀ (H' : Hp) (q : Addr) (ys : List V), Same H H' → H' q = some (.lst ys) → TpAll H' ys ((due xs t).map tI) → Q (.ref q) H'
theorem all_top {t : Int} (ht : 0 ≤ t) : ∀ (ls : List Int), ∀ p ∈ lAll ls t, p.2 ≤ t := by
  intro ls
  refine rev_ind2 (P := fun ls => ∀ p ∈ lAll ls t, p.2 ≤ t) (fun p hp => ?_) (fun xs x ih p hp => ?_) ls
  · have hp : p ∈ [(([], t) : Pre)] := hp
    rw [List.mem_singleton.mp hp]
    exact Int.le_refl _
  · rw [lAll_snoc] at hp
    unfold lStep at hp
    obtain ⟨q, hq, hpq⟩ := List.mem_flatten.mp hp
    obtain ⟨r, hr, rfl⟩ := List.mem_map.mp hq
    unfold lItem at hpq
    obtain ⟨c, hc, rfl⟩ := List.mem_map.mp hpq
    have hc := mem_rg.mp hc
    have hz := ih r hr
    show r.2 - c ≤ t
    omega
section
variable {P : Program} {w : World} {K : PySem.W.Frag} {mg : Str → Option Value} {base : Heap}
theorem has_lchs {cs : Nat → Addr} (T : Top K mg cs) : Has P w K mg base 1 "_law_choices" ["_law_lens", "_law_total"] (spLChs K) := by
  refine has_of T.d__law_choices sc__law_choices bd__law_choices (fun vs H Q E h => ?_) (fun f cdv A outer s H vs Q E hr h => ?_)
  · obtain ⟨a, xs, t, rfl, _⟩ := h
    rfl
  · have hu := hu_of hr
    have nd := sc__law_choices.nd
    obtain ⟨a, xs, t, rfl, ha, L, t0, t1, fine, k⟩ := h
    refine ⟨_, (pss_cons (ps_set (i := 2) nd rfl (.inl rfl) (pe_lst (pa_cons (pe_tup (pa_cons (pe_tup pa_nil) (pa_cons (pv 1) pa_nil))) pa_nil)))
    (pss_cons (ps_for PassesOwn.never rfl (pi_list (pv 0)) (pg_name (i := 3) nd rfl (.inl rfl))
      (pss_cons (ps_set (i := 4) nd rfl (.inl rfl) (pe_lst pa_nil))
    (pss_cons (ps_for PassesOwn.never rfl (pi_list (pv 2)) (pg_tup (by rfl) (pgs_cons (pg_name (i := 5) nd rfl (.inr rfl)) (pgs_cons (pg_name (i := 6) nd rfl (.inr rfl)) pgs_nil)))
      (pss_one (ps_expr (pe_bm PySem.F.plainAttrs_list PySem.F.slot_list_extend PySem.F.type_list_extend mt_extend (pv 4) (pa_cons (pe_lc (own := [("_law_k", 7)]) (by rfl) nd (pi_range1 (by rfl) T.b_range (pa_cons (pe_op op_add (pe_callB (call_min2 rfl) (by rfl) T.b_min (by decide +kernel) (pa_cons (pv 3) (pa_cons (pv 6) pa_nil))) pe_int) pa_nil)) (blkOk_by (own := [("_law_k", 7)]) (N := nm__law_choices) (sc := defScope s__law_choices) (by decide +kernel)) (fun _ _ _ _ _ => pg_name (i := 7) nd rfl (.inl rfl)) (fun _ _ _ _ _ => pts_nil) (fun _ _ _ _ _ => (pe_tup (pa_cons (pe_op (op_catAK (K := K) rfl) (pv 5) (pe_tup (pa_cons (pv 7) pa_nil))) (pa_cons (pe_op op_sub (pv 6) (pv 7)) pa_nil))))) pa_nil)))))
    (pss_one (ps_set (i := 2) nd rfl (.inl rfl) (pv 4))))))
    (pss_one (ps_ret (pe_lc (own := [("_law_some", 5), ("_law_left", 6)]) (by rfl) nd (pi_list (pv 2)) (blkOk_by (own := [("_law_some", 5), ("_law_left", 6)]) (N := nm__law_choices) (sc := defScope s__law_choices) (by decide +kernel)) (fun _ _ _ _ _ => pg_tupK (K := K) (n := 2) rfl (by rfl) (pgs_cons (pg_name (i := 5) nd rfl (.inl rfl)) (pgs_cons (pg_name (i := 6) nd rfl (.inl rfl)) pgs_nil))) (fun _ _ _ _ _ => pts_one (pt_cmpR op_eq (pv 6) pe_int (nomark _))) (fun _ _ _ _ _ => (pv 5))))))), ?_⟩
    have line : (5000000 : Nat) < sizeLine := by decide
    refine ⟨by show 0 ≤ sizeLine; decide, fun p1 m1 => ⟨_, rfl, by show 2 ≤ sizeLine; decide, fun p2 m2 => ⟨by show 1 ≤ sizeLine; decide, fun p3 m3 => ?_⟩⟩⟩
    have s3 := ((same_new (o := .tup []) m1).trans (same_new (o := .tup [V.ref p1, .int t]) m2)).trans (same_new (o := .lst [V.ref p2]) m3)
    have h3 : (upd (upd (upd H p1 (.tup [])) p2 (.tup [V.ref p1, .int t])) p3 (.lst [V.ref p2])) p3 = some (.lst [V.ref p2]) := upd_same
    have t3 : TpAll (upd (upd (upd H p1 (.tup [])) p2 (.tup [V.ref p1, .int t])) p3 (.lst [V.ref p2])) [V.ref p2] (([([], t)] : List Pre).map dPre) := by
      refine TpAll.kt (KT.new m3) (.cons ?_ .nil)
      exact .new m2 (.cons (.new m1 .nil) (.cons (.int t) .nil))
    generalize upd (upd (upd H p1 (.tup [])) p2 (.tup [V.ref p1, .int t])) p3 (.lst [V.ref p2]) = H3 at s3 h3 t3
    refine ⟨_, rfl, a, rfl, ⟨_, s3.seq ha⟩, for_list (K := K) (a := a) (xs := xs.map V.int) (fun i σ H' => ∃ (B : Addr) (vs : List V) (v3 v4 v5 v6 : Option V), σ = [some (.ref a), some (.int t), some (.ref B), v3, v4, v5, v6, none] ∧ Same H H' ∧ H' B = some (.lst vs) ∧ TpAll H' vs ((lAll (xs.take i) t).map dPre))
      ⟨p3, _, none, none, none, none, rfl, s3, h3, t3⟩ ?_ ?_ ?_⟩
    · rintro i σ H' _ ⟨_, _, _, _, _, _, _, s', _⟩
      exact s'.seq ha
    · rintro i x σ H4 hi ⟨B, vs, v3, v4, v5, v6, rfl, s4, hB, tB⟩
      obtain ⟨l, rfl, hl⟩ := int_at hi
      have lm := L.b l (List.mem_of_getElem? hl)
      have full : lAll (xs.take (i + 1)) t = lStep l (lAll (xs.take i) t) := by
        rw [List.take_add_one, hl]
        exact lAll_snoc _ _ _
      have fin1 := fine (i + 1)
      have left : ∀ p ∈ lAll (xs.take i) t, 0 ≤ p.2 ∧ p.2 ≤ 4000 ∧ p.1.length ≤ 60 := fun p hp => by
        refine ⟨all_left t0 _ p hp, by have := all_top t0 _ p hp; omega, ?_⟩
        rw [all_len t _ p hp, List.length_take]
        have := L.n
        omega
      rw [full] at fin1
      rw [full]
      generalize lAll (xs.take i) t = bs at tB fin1 left ⊢
      have lv := tB.len
      rw [List.length_map] at lv
      refine ⟨by show 0 ≤ sizeLine; decide, fun G nG => ?_⟩
      have s5 := same_new (o := .lst []) nG
      have hG5 : (upd H4 G (.lst [])) G = some (.lst []) := upd_same
      generalize upd H4 G (.lst []) = H5 at s5 hG5
      refine ⟨_, rfl, B, rfl, ⟨_, SqL.of (s5 _ _ hB)⟩, for_list (K := K) (a := B) (xs := vs) (fun ii σ H' => ∃ (gs : List V) (v5 v6 : Option V), σ = [some (.ref a), some (.int t), some (.ref B), some (.int l), some (.ref G), v5, v6, none] ∧ Same H4 H' ∧ H' G = some (.lst gs) ∧ TpAll H' gs ((lStep l (bs.take ii)).map dPre))
        ⟨[], v5, v6, rfl, s5, hG5, .nil⟩ ?_ ?_ ?_⟩
      · rintro ii σ H' _ ⟨_, _, _, _, s', _⟩
        exact SqL.of (s' _ _ hB)
      · rintro ii x σ H6 hx ⟨gs, v5, v6, rfl, s6, hG, tG⟩
        have hii : ii < bs.length := by
          rw [← lv]
          exact (List.getElem?_eq_some_iff.mp hx).1
        have hp0 : bs[ii]? = some bs[ii] := List.getElem?_eq_getElem hii
        have lp := left _ (List.getElem_mem hii)
        generalize bs[ii] = p0 at hp0 lp
        obtain ⟨v, hv, tv⟩ := tB.get (show (bs.map dPre)[ii]? = some (dPre p0) by rw [List.getElem?_map, hp0]; rfl)
        rw [hx] at hv
        cases hv
        obtain ⟨c, cb, rfl, hc4, hcb4⟩ := tp_pre tv
        have est : lStep l (bs.take (ii + 1)) = lStep l (bs.take ii) ++ lItem l p0 := by
          unfold lStep
          rw [List.take_add_one, hp0, List.map_append, List.flatten_append]
          show _ ++ ([p0].map (lItem l)).flatten = _
          rw [List.map_cons, List.map_nil, List.flatten_cons, List.flatten_nil, List.append_nil]
        have lst : (lStep l (bs.take ii)).length + (lItem l p0).length ≤ 1000000 := by
          have e : lStep l bs = lStep l (bs.take (ii + 1)) ++ lStep l (bs.drop (ii + 1)) := by
            unfold lStep
            rw [← List.flatten_append, ← List.map_append, List.take_append_drop]
          rw [e, est, List.length_append, List.length_append] at fin1
          omega
        have li : (lItem l p0).length = (mn2 l p0.2 + 1).toNat := by
          unfold lItem
          rw [List.length_map, rg_len, Int.sub_zero]
        have lgs := tG.len
        rw [List.length_map] at lgs
        obtain ⟨y1, y2, y3⟩ := mn2_b (l := l) (x := p0.2)
        refine ⟨c, _, rfl, SqT.of (s6 _ _ hc4), rfl, _, _, rfl, _, _, rfl, rfl, ?_⟩
        refine ⟨_, rfl, .inl ⟨rfl, _, SqL.of hG⟩, _, rfl, _, rfl, _, _, rfl, _, _, rfl, rfl, mn2 l p0.2 + 1, rfl, by omega, by omega, fun D hD => lc_range (lo := 0) (n := (mn2 l p0.2 + 1).toNat) (fun j H7 => TpT H6 H7 D (((lItem l p0).take j).map dPre)) ?_ (fun j H7 hj p7 => ?_) (fun H7 p7 => ?_)⟩
        · rw [List.take_zero]
          exact TpT.new hD
        · have gj : (lItem l p0)[j]? = some (ext p0 (0 + ((j : Nat) : Int))) := by
            unfold lItem rgI
            rw [List.getElem?_map, List.getElem?_map, List.getElem?_range (by rw [Int.sub_zero]; exact hj)]
            rfl
          generalize (0 : Int) + ((j : Nat) : Int) = ct at gj
          refine ⟨rfl, yes_go ⟨_, rfl, _, rfl, by show 1 ≤ sizeLine; decide, fun q1 m1 => tup_cat (same_new m1 _ _ (p7.s _ _ (s6 _ _ hcb4))) upd_same (by rw [List.length_map]; show p0.1.length + 1 ≤ _; omega) fun H8 r s8 h8 => ⟨_, rfl, _, rfl, _, _, rfl, rfl, by show 2 ≤ sizeLine; decide, fun q2 m2 => ?_⟩⟩⟩
          have h8' : H8 r = some (.tup ((p0.1 ++ [ct]).map V.int)) := by
            rw [h8, List.map_append]
            rfl
          rw [List.take_add_one, gj, List.map_append]
          refine p7.put hD (((same_new m1).trans s8).trans (same_new m2)) ?_ (.new m2 (.cons (tp_ints h8') (.cons (.int _) .nil)))
          have := List.length_take_le j (lItem l p0)
          rw [List.length_map]
          omega
        · rw [← li, List.take_length] at p7
          obtain ⟨ds, hD7, tD⟩ := p7.ex
          have ld := tD.len
          rw [List.length_map] at ld
          have hG7 := p7.s _ _ hG
          refine ⟨G, D, gs, ds, rfl, rfl, hG7, hD7, by omega, gs ++ ds, _, _, rfl, same_mut (s6.trans p7.s) nG, upd_same, ?_⟩
          rw [est, List.map_append]
          exact ((tG.kt (KT.same p7.s)).app tD).kt (KT.lst hG7)
      · rintro σ H6 ⟨gs, v5, v6, rfl, s6, hG, tG⟩
        rw [lv, List.take_length] at tG
        exact ⟨_, rfl, G, gs, _, _, _, _, rfl, s4.trans s6, hG, tG⟩
    · rintro σ H4 ⟨B, vs, v3, v4, v5, v6, rfl, s4, hB, tB⟩
      rw [List.length_map, List.take_length] at tB
      have lv := tB.len
      rw [List.length_map] at lv
      have fi := fine xs.length
      rw [List.take_length] at fi
      have e : due xs t = ((lAll xs t).filter fun p => decide (p.2 = 0)).map (·.1) := rfl
      generalize lAll xs t = bs at tB e lv fi
      refine ⟨_, rfl, B, rfl, ⟨_, SqL.of hB⟩, fun D hD => lc_list (xs := vs) (fun ii H5 => TpT H4 H5 D (((bs.take ii).filter fun p => decide (p.2 = 0)).map fun p => tI p.1)) (TpT.new hD) (fun ii H5 _ p => SqL.of (p.s _ _ hB)) (fun ii x H5 hx p => ?_) (fun H5 p => ?_)⟩
      · have hii : ii < bs.length := by
          rw [← lv]
          exact (List.getElem?_eq_some_iff.mp hx).1
        have hp0 : bs[ii]? = some bs[ii] := List.getElem?_eq_getElem hii
        generalize bs[ii] = p0 at hp0
        obtain ⟨v, hv, tv⟩ := tB.get (show (bs.map dPre)[ii]? = some (dPre p0) by rw [List.getElem?_map, hp0]; rfl)
        rw [hx] at hv
        cases hv
        obtain ⟨c, cb, rfl, hc, hcb⟩ := tp_pre (tv.kt (KT.same p.s))
        refine ⟨c, _, rfl, SqT.of hc, rfl, _, _, rfl, _, _, rfl, rfl, rfl, _, rfl, rfl, _, rfl, ?_⟩
        have small : ((bs.take ii).filter fun p => decide (p.2 = 0)).length ≤ 1000000 := by
          have a1 := List.length_filter_le (fun p : Pre => decide (p.2 = 0)) (bs.take ii)
          have := List.length_take_le ii bs
          omega
        rw [List.take_add_one, hp0, List.filter_append, List.map_append]
        show (if decide (V.int p0.2 = V.int 0) = true then _ else _)
        by_cases c0 : p0.2 = 0
        · rw [decide_eq_true (congrArg V.int c0)]
          refine iteT ⟨_, rfl, ?_⟩
          have e1 : ((some p0).toList.filter fun p => decide (p.2 = 0)) = [p0] := by
            show [p0].filter _ = _
            rw [List.filter_cons, if_pos (decide_eq_true c0)]
            rfl
          rw [e1]
          exact p.put hD (Same.refl _) (by rw [List.length_map]; omega) (tp_ints hcb)
        · rw [decide_eq_false (fun z => c0 (V.int.inj z))]
          have e1 : ((some p0).toList.filter fun p => decide (p.2 = 0)) = [] := by
            show [p0].filter _ = _
            rw [List.filter_cons, if_neg (by rw [decide_eq_false c0]; exact Bool.false_ne_true)]
            rfl
          rw [e1, List.map_nil, List.append_nil]
          exact iteF p
      · rw [lv, List.take_length] at p
        obtain ⟨ys, hD5, tD⟩ := p.ex
        refine k H5 D ys (s4.trans p.s) hD5 ?_
        rw [e, List.map_map]
        exact tD
end

/-! ### clauses of a count -/
def negL (l : List Int) : List Int := l.map fun x => 0 - x
theorem negL_len (l : List Int) : (negL l).length = l.length := List.length_map _
def spNegs : Sp := fun vs H Q _ => ∃ (p : Addr) (l : List Int), vs = [.ref p] ∧ H p = some (.tup (l.map V.int)) ∧ l.length ≤ 1000 ∧ ∀ H' r, Same H H' → H' r = some (.tup ((negL l).map V.int)) → Q (.ref r) H'
def spClsOf : Sp := fun vs H Q _ => ∃ (m : Addr) (ms : List V) (rows : List (List Int)) (n : Int), vs = [.ref m, .int n] ∧ H m = some (.tup ms) ∧ TpAll H ms (rows.map tI) ∧ rows.length ≤ 1000000 ∧ (∀ r ∈ rows, r.length ≤ 900) ∧
  ∀ H' q ys, Same H H' → H' q = some (.lst ys) → TpAll H' ys (rows.map fun r => tI (negL r ++ [n])) → H q = none → Q (.ref q) H'
section
variable {P : Program} {w : World} {K : PySem.W.Frag} {mg : Str → Option Value} {base : Heap}
theorem has_others {cs : Nat → Addr} (T : Top K mg cs) : Has P w K mg base 1 "others" ["marks"] spNegs := by
  refine has_of T.d_others sc_others bd_others (fun vs H Q E h => ?_) (fun f cdv A outer s H vs Q E hr h => ?_)
  · obtain ⟨p, l, rfl, _⟩ := h
    rfl
  · have hu := hu_of hr
    have nd := sc_others.nd
    obtain ⟨p, l, rfl, hp, few, k⟩ := h
    refine ⟨_, (pss_one (ps_ret (pe_callTy call_tuple_of (by rfl) T.b_tuple (by decide +kernel) (pa_cons (pe_lc (own := [("mark", 1)]) (by rfl) nd (pi_tup (pv 0)) (blkOk_by (own := [("mark", 1)]) (N := nm_others) (sc := defScope s_others) (by decide +kernel)) (fun _ _ _ _ _ => pg_name (i := 1) nd rfl (.inl rfl)) (fun _ _ _ _ _ => pts_nil) (fun _ _ _ _ _ => (pe_un un_neg (pv 1)))) pa_nil)))), ?_⟩
    have line : (5000000 : Nat) < sizeLine := by decide
    refine ⟨_, rfl, p, rfl, ⟨_, SqT.of hp⟩, fun D hD => lc_tup (xs := l.map V.int) (fun i H' => TpT H H' D ((negL (l.take i)).map PyData.int)) (TpT.new hD) (fun i H' _ z => SqT.of (z.s _ _ hp)) (fun i x H' hx z => ?_) (fun H' z => ?_)⟩
    · obtain ⟨y, rfl, hy⟩ := int_at hx
      refine ⟨rfl, yes_go ⟨_, rfl, _, rfl, ?_⟩⟩
      have e : (negL (l.take (i + 1))).map PyData.int = (negL (l.take i)).map PyData.int ++ [.int (-y)] := by
        unfold negL
        rw [List.take_add_one, hy, List.map_append, List.map_append, ← Int.zero_sub y]
        rfl
      rw [e]
      refine z.put hD (Same.refl _) ?_ (.int _)
      have := List.length_take_le' i l
      rw [List.length_map, negL_len]
      omega
    · rw [List.length_map, List.take_length] at z
      obtain ⟨ys, hD', tD⟩ := z.ex
      rw [tpall_inv tD] at hD'
      exact ⟨D, _, rfl, .inl ⟨SqL.of hD', fun r nr => k _ r (z.s.trans (same_new nr)) upd_same⟩⟩
theorem has_turned {cs : Nat → Addr} (T : Top K mg cs) : Has P w K mg base 1 "_law_turned" ["_law_marks_here"] spNegs := by
  refine has_of T.d__law_turned sc__law_turned bd__law_turned (fun vs H Q E h => ?_) (fun f cdv A outer s H vs Q E hr h => ?_)
  · obtain ⟨p, l, rfl, _⟩ := h
    rfl
  · have hu := hu_of hr
    have nd := sc__law_turned.nd
    obtain ⟨p, l, rfl, hp, few, k⟩ := h
    refine ⟨_, (pss_one (ps_ret (pe_callTy call_tuple_of (by rfl) T.b_tuple (by decide +kernel) (pa_cons (pe_lc (own := [("_law_mark", 1)]) (by rfl) nd (pi_tup (pv 0)) (blkOk_by (own := [("_law_mark", 1)]) (N := nm__law_turned) (sc := defScope s__law_turned) (by decide +kernel)) (fun _ _ _ _ _ => pg_name (i := 1) nd rfl (.inl rfl)) (fun _ _ _ _ _ => pts_nil) (fun _ _ _ _ _ => (pe_op op_sub pe_int (pv 1)))) pa_nil)))), ?_⟩
    have line : (5000000 : Nat) < sizeLine := by decide
    refine ⟨_, rfl, p, rfl, ⟨_, SqT.of hp⟩, fun D hD => lc_tup (xs := l.map V.int) (fun i H' => TpT H H' D ((negL (l.take i)).map PyData.int)) (TpT.new hD) (fun i H' _ z => SqT.of (z.s _ _ hp)) (fun i x H' hx z => ?_) (fun H' z => ?_)⟩
    · obtain ⟨y, rfl, hy⟩ := int_at hx
      refine ⟨rfl, yes_go ⟨_, rfl, _, _, rfl, rfl, ?_⟩⟩
      have e : (negL (l.take (i + 1))).map PyData.int = (negL (l.take i)).map PyData.int ++ [.int (0 - y)] := by
        unfold negL
        rw [List.take_add_one, hy, List.map_append, List.map_append]
        rfl
      rw [e]
      refine z.put hD (Same.refl _) ?_ (.int _)
      have := List.length_take_le' i l
      rw [List.length_map, negL_len]
      omega
    · rw [List.length_map, List.take_length] at z
      obtain ⟨ys, hD', tD⟩ := z.ex
      rw [tpall_inv tD] at hD'
      exact ⟨D, _, rfl, .inl ⟨SqL.of hD', fun r nr => k _ r (z.s.trans (same_new nr)) upd_same⟩⟩
theorem tp_row {H : Hp} {v : V} {l : List Int} (h : Tp H v (tI l)) : ∃ a, v = .ref a ∧ H a = some (.tup (l.map V.int)) := by
  unfold tI at h
  cases h with
  | tup ha r => exact ⟨_, rfl, by rw [ha, tpall_inv r]⟩
theorem has_clsOf {cs : Nat → Addr} (T : Top K mg cs) (h_others : Has P w K mg base 1 "others" ["marks"] spNegs) : Has P w K mg base 2 "clauses_of_count" ["meaning", "name"] spClsOf := by
  refine has_of T.d_clauses_of_count sc_clauses_of_count bd_clauses_of_count (fun vs H Q E h => ?_) (fun f cdv A outer s H vs Q E hr h => ?_)
  · obtain ⟨m, ms, rows, n, rfl, _⟩ := h
    rfl
  · have hu := hu_of hr
    have nd := sc_clauses_of_count.nd
    obtain ⟨m, ms, rows, n, rfl, hm, tm, few, wide, k⟩ := h
    refine ⟨_, (pss_one (ps_ret (pe_lc (own := [("marks", 2)]) (by rfl) nd (pi_tup (pv 0)) (blkOk_by (own := [("marks", 2)]) (N := nm_clauses_of_count) (sc := defScope s_clauses_of_count) (by decide +kernel)) (fun _ _ _ _ _ => pg_name (i := 2) nd rfl (.inl rfl)) (fun _ _ _ _ _ => pts_nil) (fun _ _ _ _ _ => (pe_op (op_catAK (K := K) rfl) (pe_has h_others (hr.mono (by omega)) (by rfl) (pa_cons (pv 2) pa_nil)) (pe_tup (pa_cons (pv 1) pa_nil))))))), ?_⟩
    have line : (5000000 : Nat) < sizeLine := by decide
    have lm := tm.len
    rw [List.length_map] at lm
    refine ⟨_, rfl, m, rfl, ⟨_, SqT.of hm⟩, fun D hD => lc_tup (xs := ms) (fun i H' => TpT H H' D ((rows.take i).map fun r => tI (negL r ++ [n]))) (TpT.new hD) (fun i H' _ z => SqT.of (z.s _ _ hm)) (fun i x H' hx z => ?_) (fun H' z => ?_)⟩
    · have hi : i < rows.length := by
        rw [← lm]
        exact (List.getElem?_eq_some_iff.mp hx).1
      have hr0 : rows[i]? = some rows[i] := List.getElem?_eq_getElem hi
      have wr := wide _ (List.getElem_mem hi)
      generalize rows[i] = r0 at hr0 wr
      obtain ⟨v, hv, tv⟩ := tm.get (show (rows.map tI)[i]? = some (tI r0) by rw [List.getElem?_map, hr0]; rfl)
      rw [hx] at hv
      cases hv
      obtain ⟨a, rfl, ha⟩ := tp_row (tv.kt (KT.same z.s))
      refine ⟨rfl, yes_go ⟨_, rfl, a, r0, rfl, ha, by omega, fun H1 b s1 hb => ⟨_, rfl, by show 1 ≤ sizeLine; decide, fun q nq => tup_cat (same_new nq _ _ hb) upd_same (by rw [List.length_map, negL_len]; show r0.length + 1 ≤ _; omega) fun H2 c s2 hc => ?_⟩⟩⟩
      have hc' : H2 c = some (.tup ((negL r0 ++ [n]).map V.int)) := by
        rw [hc, List.map_append]
        rfl
      rw [List.take_add_one, hr0, List.map_append]
      exact z.put hD ((s1.trans (same_new nq)).trans s2) (by rw [List.length_map]; have := List.length_take_le i rows; omega) (tp_ints hc')
    · rw [lm, List.take_length] at z
      obtain ⟨ys, hD', tD⟩ := z.ex
      exact k H' D ys z.s hD' tD hD
end

/-! ### marks of unlike names, up to the ninth power -/
def nas (l : List Int) : List Nat := l.map Int.natAbs
structure Un (ms : List Int) : Prop where
  nd : (nas ms).Nodup
  nz : ∀ x ∈ ms, x ≠ 0
  lim : ∀ x ∈ ms, x.natAbs ≤ 10 ^ 12
theorem Un.nodup {ms : List Int} (h : Un ms) : ms.Nodup := by
  have := h.nd
  unfold nas at this
  exact (List.pairwise_map.mp this).imp fun h e => h (by rw [e])
theorem nas_one : ∀ {l : List Int}, (nas l).Nodup → ∀ x ∈ l, ∀ y ∈ l, x.natAbs = y.natAbs → x = y
  | a :: r, h, x, hx, y, hy, e => by
    have h' := List.nodup_cons.mp (show (a.natAbs :: nas r).Nodup from h)
    rcases List.mem_cons.mp hx with rfl | hx'
    · rcases List.mem_cons.mp hy with rfl | hy'
      · rfl
      · exact absurd (show x.natAbs ∈ nas r from List.mem_map.mpr ⟨y, hy', e.symm⟩) h'.1
    · rcases List.mem_cons.mp hy with rfl | hy'
      · exact absurd (show y.natAbs ∈ nas r from List.mem_map.mpr ⟨x, hx', e⟩) h'.1
      · exact nas_one h'.2 x hx' y hy' e
theorem Un.con {ms : List Int} (h : Un ms) {x : Int} (hx : x ∈ ms) : -x ∉ ms := fun z => by
  have e := nas_one h.nd x hx (-x) z (by omega)
  have := h.nz x hx
  omega
theorem Un.of_perm {ms ys : List Int} (h : Un ms) (p : (nas ys).Perm (nas ms)) : Un ys := by
  refine ⟨(p.nodup_iff).mpr h.nd, fun x hx z => ?_, fun x hx => ?_⟩
  · subst z
    have := p.mem_iff.mp (List.mem_map.mpr ⟨0, hx, rfl⟩)
    obtain ⟨y, hy, e⟩ := List.mem_map.mp this
    have := h.nz y hy
    omega
  · obtain ⟨y, hy, e⟩ := List.mem_map.mp (p.mem_iff.mp (List.mem_map.mpr ⟨x, hx, rfl⟩))
    have := h.lim y hy
    omega
/-- a clause of marks of these names -/
structure ClM (ms c : List Int) : Prop where
  nd : (nas c).Nodup
  sub : ∀ x ∈ c, ∃ y ∈ ms, x.natAbs = y.natAbs
theorem ClM.nodup {ms c : List Int} (h : ClM ms c) : c.Nodup := by
  have := h.nd
  unfold nas at this
  exact (List.pairwise_map.mp this).imp fun h e => h (by rw [e])
theorem ClM.nz {ms c : List Int} (h : ClM ms c) (u : Un ms) {x : Int} (hx : x ∈ c) : x ≠ 0 := by
  obtain ⟨y, hy, e⟩ := h.sub x hx
  have := u.nz y hy
  omega
theorem ClM.nil (ms : List Int) : ClM ms [] := ⟨List.nodup_nil, fun x hx => by cases hx⟩
theorem ClM.of_perm {ms ys ss : List Int} (h : Un ms) (p : (nas ys ++ nas ss).Perm (nas ms)) : ClM ms ys := by
  have n := (p.nodup_iff).mpr h.nd
  refine ⟨n.sublist (List.sublist_append_left _ _), fun x hx => ?_⟩
  obtain ⟨y, hy, e⟩ := List.mem_map.mp (p.mem_iff.mp (List.mem_append_left _ (List.mem_map.mpr ⟨x, hx, rfl⟩)))
  exact ⟨y, hy, e.symm⟩
theorem ClM.of_nas {ms c d : List Int} (h : ClM ms c) (e : nas d = nas c) : ClM ms d := by
  refine ⟨by rw [e]; exact h.nd, fun x hx => ?_⟩
  have : x.natAbs ∈ nas d := List.mem_map.mpr ⟨x, hx, rfl⟩
  rw [e] at this
  obtain ⟨y, hy, ey⟩ := List.mem_map.mp this
  obtain ⟨z, hz, ez⟩ := h.sub y hy
  exact ⟨z, hz, by omega⟩
theorem nas_snoc (l : List Int) (y : Int) : nas (l ++ [y]) = nas l ++ [y.natAbs] := by
  unfold nas
  rw [List.map_append]
  rfl
theorem erase_perm : ∀ (l : List Int) (r : Nat) (h : r < l.length), (l[r] :: l.eraseIdx r).Perm l
  | a :: t, 0, _ => List.Perm.refl _
  | a :: t, r + 1, h => (List.Perm.swap a _ _).trans ((List.perm_cons a).mpr (erase_perm t r (by simpa using h)))
theorem perm_move {ys ss : List Int} {r : Nat} (hr : r < ss.length) {y : Int} (e : y.natAbs = ss[r].natAbs) : (nas (ys ++ [y]) ++ nas (ss.eraseIdx r)).Perm (nas ys ++ nas ss) := by
  rw [nas_snoc, e, List.append_assoc]
  refine List.Perm.append_left _ ?_
  have p := (erase_perm ss r hr).map Int.natAbs
  exact p
theorem dec61 : ∀ b : Fin 61, ∀ d : Fin 61, 0 < b.val → 0 < d.val → b.val * d.val % 61 ≠ 0 := by decide +kernel
theorem inj61 {B : Int} {i j : Nat} (h0 : 1 ≤ B) (h1 : B ≤ 60) (hi : i < 61) (hij : j < i) : B * (i : Int) % 61 ≠ B * (j : Int) % 61 := fun e => by
  have d := dec61 ⟨B.toNat, by omega⟩ ⟨i - j, by omega⟩ (by show 0 < B.toNat; omega) (by show 0 < i - j; omega)
  have s : B * (i : Int) = B * (j : Int) + B * ((i - j : Nat) : Int) := by
    rw [← Int.mul_add]
    congr 1
    omega
  have eB : ((B.toNat : Nat) : Int) = B := by omega
  have m : B * ((i - j : Nat) : Int) % 61 = 0 := by
    rw [s] at e
    generalize B * (j : Int) = x at e
    generalize B * ((i - j : Nat) : Int) = y at e ⊢
    omega
  apply d
  have : ((B.toNat * (i - j) % 61 : Nat) : Int) = 0 := by
    rw [Int.natCast_emod, Int.natCast_mul, eB]
    exact m
  exact Int.ofNat.inj this
theorem names_nd {z4 z2 B : Int} {n : Nat} (hz4 : 1 ≤ z4) (hz2 : 1 ≤ z2) (h0 : 1 ≤ B) (h1 : B ≤ 60) (hn : n ≤ 61) : (nas ((List.range n).map fun (i : Nat) => z4 + z2 * (B * (0 + (i : Int)) % 61))).Nodup ∧
    ∀ x ∈ (List.range n).map (fun (i : Nat) => z4 + z2 * (B * (0 + (i : Int)) % 61)), x ≠ 0 := by
  have pos : ∀ i : Nat, 0 ≤ z2 * (B * (0 + (i : Int)) % 61) := fun i => Int.mul_nonneg (by omega) (Int.emod_nonneg _ (by decide))
  refine ⟨?_, fun x hx => ?_⟩
  · unfold nas
    rw [List.map_map]
    refine List.pairwise_map.mpr ((List.pairwise_lt_range (n := n)).imp_of_mem fun {a b} ha hb hab e => ?_)
    have hb' := List.mem_range.mp hb
    have e' : z4 + z2 * (B * (0 + (a : Int)) % 61) = z4 + z2 * (B * (0 + (b : Int)) % 61) := by
      have e : (z4 + z2 * (B * (0 + (a : Int)) % 61)).natAbs = (z4 + z2 * (B * (0 + (b : Int)) % 61)).natAbs := e
      have p1 := pos a
      have p2 := pos b
      omega
    have e2 : B * (0 + (a : Int)) % 61 = B * (0 + (b : Int)) % 61 := by
      have e3 : z2 * (B * (0 + (a : Int)) % 61) = z2 * (B * (0 + (b : Int)) % 61) := by omega
      exact Int.eq_of_mul_eq_mul_left (by omega) e3
    rw [Int.zero_add, Int.zero_add] at e2
    exact inj61 h0 h1 (by omega) hab e2.symm
  · obtain ⟨i, _, rfl⟩ := List.mem_map.mp hx
    have := pos i
    omega
theorem names_lim {z4 z2 B : Int} {n : Nat} (h4 : z4 + z2 * 60 ≤ 10 ^ 12) (hz4 : 1 ≤ z4) (hz2 : 1 ≤ z2) : ∀ x ∈ (List.range n).map (fun (i : Nat) => z4 + z2 * (B * (0 + (i : Int)) % 61)), x.natAbs ≤ 10 ^ 12 := fun x hx => by
  obtain ⟨i, _, rfl⟩ := List.mem_map.mp hx
  have a : 0 ≤ z2 * (B * (0 + (i : Int)) % 61) := Int.mul_nonneg (by omega) (Int.emod_nonneg _ (by decide))
  have b : z2 * (B * (0 + (i : Int)) % 61) ≤ z2 * 60 := Int.mul_le_mul_of_nonneg_left (Int.le_of_lt_add_one (Int.emod_lt_of_pos _ (by decide))) (by omega)
  generalize z2 * (B * (0 + (i : Int)) % 61) = y at a b
  omega
theorem Tape.cs {H H' : Hp} {t c a : Addr} {n : Nat} {qs : List Addr} {cs : List (List Int)} (h : Tape H t c n) (e : Cs H a qs cs) (k : Kp t H H') : Cs H' a qs cs := by
  obtain ⟨ns, spot, left, tc, _⟩ := h
  exact e.kp tc.d k
theorem Cs.snoc {H : Hp} {a q : Addr} {qs : List Addr} {cs : List (List Int)} {c : List Int} (h : Cs H a qs cs) (hq : H q = some (.tup (c.map V.int))) : Cs (upd H a (.lst (qs.map V.ref ++ [.ref q]))) a (qs ++ [q]) (cs ++ [c]) := by
  have hn := h.n
  refine ⟨by rw [upd_same, List.map_append]; rfl, by rw [List.length_append, List.length_append, hn]; rfl, fun i p d hp hd => ?_⟩
  have g : H p = some (.tup (d.map V.int)) := by
    rcases getElem_snoc hp with ⟨_, e⟩ | ⟨e1, rfl⟩
    · rcases getElem_snoc hd with ⟨_, e2⟩ | ⟨e2, _⟩
      · exact h.t i p d e e2
      · omega
    · rcases getElem_snoc hd with ⟨e2, _⟩ | ⟨_, rfl⟩
      · omega
      · exact hq
  rw [upd_ne (ne_of g h.l (by intro z; cases z))]
  exact g
theorem ins_at {α : Type} {xs : List α} {x y : α} {j i : Nat} (hj : j ≤ xs.length) (h : (xs.take j ++ [x] ++ xs.drop j)[i]? = some y) : (i < j ∧ xs[i]? = some y) ∨ (i = j ∧ x = y) ∨ (j < i ∧ xs[i - 1]? = some y) := by
  have lt : (xs.take j).length = j := by
    rw [List.length_take]
    omega
  rcases Nat.lt_trichotomy i j with c | c | c
  · rw [List.append_assoc, List.getElem?_append_left (by omega), List.getElem?_take, if_pos c] at h
    exact .inl ⟨c, h⟩
  · subst c
    rw [List.append_assoc, List.getElem?_append_right (by omega), lt, Nat.sub_self] at h
    exact .inr (.inl ⟨rfl, Option.some.inj h⟩)
  · rw [List.getElem?_append_right (by rw [List.length_append, lt]; exact c), List.length_append, lt, List.getElem?_drop] at h
    refine .inr (.inr ⟨c, ?_⟩)
    rw [← h]
    congr 1
    show i - 1 = j + (i - (j + 1))
    omega
theorem Cs.insert {H : Hp} {a q : Addr} {qs : List Addr} {cs : List (List Int)} {c : List Int} {j : Nat} (h : Cs H a qs cs) (hj : j ≤ cs.length) (hq : H q = some (.tup (c.map V.int))) :
    Cs (upd H a (.lst ((qs.map V.ref).take j ++ [.ref q] ++ (qs.map V.ref).drop j))) a (qs.take j ++ [q] ++ qs.drop j) (cs.take j ++ [c] ++ cs.drop j) := by
  have hn := h.n
  refine ⟨by rw [upd_same, List.map_append, List.map_append, List.map_take, List.map_drop]; rfl, by simp only [List.length_append, List.length_take, List.length_drop, hn]; rfl, fun i p d hp hd => ?_⟩
  have g : H p = some (.tup (d.map V.int)) := by
    rcases ins_at (by omega) hp with ⟨c1, e⟩ | ⟨c1, rfl⟩ | ⟨c1, e⟩
    · rcases ins_at hj hd with ⟨_, e2⟩ | ⟨e2, _⟩ | ⟨e2, _⟩
      · exact h.t i p d e e2
      · omega
      · omega
    · rcases ins_at hj hd with ⟨e2, _⟩ | ⟨_, rfl⟩ | ⟨e2, _⟩
      · omega
      · exact hq
      · omega
    · rcases ins_at hj hd with ⟨e2, _⟩ | ⟨e2, _⟩ | ⟨_, e2⟩
      · omega
      · omega
      · exact h.t (i - 1) p d e e2
  rw [upd_ne (ne_of g h.l (by intro z; cases z))]
  exact g
def spFar : Sp := fun vs H Q _ => ∃ (t c : Addr) (m : Int) (n : Nat), vs = [.ref t, .int m] ∧ Tape H t c n ∧ n < 1000000 ∧ 0 ≤ m ∧ m ≤ 61 ∧
  ∀ (H' : Hp) (p : Addr) (ms : List Int), H p = none → H' p = some (.lst (ms.map V.int)) → ms.length = m.toNat → Un ms → Tape H' t c (n + 110) → Kp t H H' → Q (.ref p) H'
section
variable {P : Program} {w : World} {K : PySem.W.Frag} {mg : Str → Option Value} {base : Heap}
theorem has_far {cs : Nat → Addr} (T : Top K mg cs) (h__law_draw : Has P w K mg base 1 "_law_draw" ["_law_tape", "_law_many"] spDraw) (h__law_pick : Has P w K mg base 2 "_law_pick" ["_law_tape", "_law_some"] (spPick K)) :
    Has P w K mg base 3 "_law_marks" ["_law_tape", "_law_many"] spFar := by
  refine has_of T.d__law_marks sc__law_marks bd__law_marks (fun vs H Q E h => ?_) (fun f cdv A outer s H vs Q E hr h => ?_)
  · obtain ⟨t, c, m, n, rfl, _⟩ := h
    rfl
  · have hu := hu_of hr
    have nd := sc__law_marks.nd
    obtain ⟨t, c, m, n, rfl, tp, hn, hm0, hm1, k⟩ := h
    refine ⟨_, (pss_cons (ps_asg (pe_tup (pa_cons (pe_op op_add pe_int (pe_has h__law_draw (hr.mono (by omega)) (by rfl) (pa_cons (pv 0) (pa_cons pe_int pa_nil)))) (pa_cons (pe_has h__law_pick (hr.mono (by omega)) (by rfl) (pa_cons (pv 0) (pa_cons (pe_lst (pa_cons pe_int (pa_cons pe_int (pa_cons pe_int (pa_cons pe_int pa_nil))))) pa_nil))) pa_nil))) (pg_tup (by rfl) (pgs_cons (pg_name (i := 2) nd rfl (.inr rfl)) (pgs_cons (pg_name (i := 3) nd rfl (.inr rfl)) pgs_nil))))
    (pss_cons (ps_set (i := 4) nd rfl (.inr rfl) (pe_has h__law_pick (hr.mono (by omega)) (by rfl) (pa_cons (pv 0) (pa_cons (pe_lst (pa_cons pe_int (pa_cons pe_int (pa_cons pe_int (pa_cons (pe_op op_add pe_int (pe_has h__law_draw (hr.mono (by omega)) (by rfl) (pa_cons (pv 0) (pa_cons pe_int pa_nil)))) (pa_cons (pe_op op_sub (pe_op op_pow pe_int pe_int) (pe_op op_mul pe_int (pv 3))) pa_nil)))))) pa_nil))))
    (pss_cons (ps_asg (pe_tup (pa_cons (pe_lc (own := [("_law_k", 8)]) (by rfl) nd (pi_range1 (by rfl) T.b_range (pa_cons (pv 1) pa_nil)) (blkOk_by (own := [("_law_k", 8)]) (N := nm__law_marks) (sc := defScope s__law_marks) (by decide +kernel)) (fun _ _ _ _ _ => pg_name (i := 8) nd rfl (.inl rfl)) (fun _ _ _ _ _ => pts_nil) (fun _ _ _ _ _ => (pe_op op_add (pv 4) (pe_op op_mul (pv 3) (pe_op op_mod (pe_op op_mul (pv 2) (pv 8)) pe_int))))) (pa_cons (pe_has h__law_pick (hr.mono (by omega)) (by rfl) (pa_cons (pv 0) (pa_cons (pe_lst (pa_cons pe_int (pa_cons pe_int (pa_cons pe_int (pa_cons pe_int pa_nil))))) pa_nil))) pa_nil))) (pg_tup (by rfl) (pgs_cons (pg_name (i := 5) nd rfl (.inl rfl)) (pgs_cons (pg_name (i := 6) nd rfl (.inr rfl)) pgs_nil))))
    (pss_one (ps_ret (pe_lc (own := [("_law_name", 7)]) (by rfl) nd (pi_list (pv 5)) (blkOk_by (own := [("_law_name", 7)]) (N := nm__law_marks) (sc := defScope s__law_marks) (by decide +kernel)) (fun _ _ _ _ _ => pg_name (i := 7) nd rfl (.inl rfl)) (fun _ _ _ _ _ => pts_nil) (fun _ _ _ _ _ => (pe_ifExp (pt_cmpR op_lt (pe_has h__law_draw (hr.mono (by omega)) (by rfl) (pa_cons (pv 0) (pa_cons (pv 6) pa_nil))) (pe_op op_sub pe_int (pe_op op_fdivW (pv 6) pe_int)) (nomark _)) (pv 7) (pe_op op_sub pe_int (pv 7)))))))))), ?_⟩
    have cp : ∀ z : Int, 0 ≤ z → z ≤ 1000000 → CPow 10 z := fun z h0 h1 => ⟨h0, h1, by decide⟩
    refine ⟨_, rfl, t, c, _, n, rfl, tp, by omega, by decide, by decide +kernel, fun H1 r1 a1 b1 tp1 kp1 => ⟨_, _, rfl, rfl, _, rfl, by show 4 ≤ sizeLine; decide, fun d1 h1 => ?_⟩⟩
    refine ⟨t, c, d1, _, n + 1, rfl, tp1.new h1, by omega, fun H' kp => .inl (SqL.of (kp d1 _ upd_same (tp1.fresh h1))), by show 0 < 4; decide, by show 4 ≤ 1000000; decide, fun H2 i2 v2 g2 tp2 kp2 => ?_⟩
    obtain ⟨z2, rfl, m2⟩ := pick_int (zs := [1, 1, 7, 16000000]) g2
    have z2b : 1 ≤ z2 ∧ z2 ≤ 16000000 := by
      simp only [List.mem_cons, List.not_mem_nil, or_false] at m2
      omega
    refine ⟨by show 2 ≤ sizeLine; decide, fun q2 hq2 => ⟨q2, _, rfl, SqT.of upd_same, rfl, _, _, rfl, _, _, rfl, rfl, ?_⟩⟩
    have t2 := tp2.new (o := .tup [V.int (1 + r1), V.int z2]) hq2
    -- first
    refine ⟨_, rfl, _, rfl, t, c, _, n + 2, rfl, t2, by omega, by decide, by decide +kernel, fun H3 r3 a3 b3 tp3 kp3 => ⟨_, _, rfl, rfl, _, _, rfl, rfl, cp _ (by decide) (by decide), _, rfl, _, _, rfl, rfl, .inl ⟨by decide, by decide⟩, _, _, rfl, rfl, by show 5 ≤ sizeLine; decide, fun d3 h3 => ?_⟩⟩
    refine ⟨t, c, d3, _, n + 3, rfl, tp3.new h3, by omega, fun H' kp => .inl (SqL.of (kp d3 _ upd_same (tp3.fresh h3))), by show 0 < 5; decide, by show 5 ≤ 1000000; decide, fun H4 i4 v4 g4 tp4 kp4 => ?_⟩
    obtain ⟨z4, rfl, m4⟩ := pick_int (zs := [1, 5, 95, 1 + r3, 10 ^ (9 : Int).toNat - 60 * z2]) g4
    -- names
    refine ⟨_, rfl, m, rfl, by omega, by omega, fun D hD => lc_sel_range (lo := 0) (fun _ => true) (fun i => .int (z4 + z2 * ((1 + r1) * (0 + (i : Int)) % 61))) hD (by omega) (fun i hi => ?_) fun H5 s5 h5 => ?_⟩
    · exact ⟨rfl, fun H' s' R g => g H' (Same.refl _), fun _ H' s' R g => ⟨_, rfl, _, rfl, _, rfl, _, rfl, _, _, rfl, rfl, .inl ⟨by omega, by omega⟩, _, _, rfl, rfl, by show (0 : Int) < 61; decide, _, _, rfl, rfl, .inl ⟨by omega, by omega⟩, _, _, rfl, rfl, g H' (Same.refl _)⟩⟩
    rw [filter_all] at h5
    have h5 : H5 D = some (.lst (((List.range m.toNat).map fun (i : Nat) => z4 + z2 * ((1 + r1) * (0 + (i : Int)) % 61)).map V.int)) := by
      rw [h5, List.map_map]
      rfl
    have l5 : ((List.range m.toNat).map fun (i : Nat) => z4 + z2 * ((1 + r1) * (0 + (i : Int)) % 61)).length = m.toNat := by rw [List.length_map, List.length_range]
    have z4b : 1 ≤ z4 := by
      simp only [List.mem_cons, List.not_mem_nil, or_false] at m4
      have p12 : (10 : Int) ^ (9 : Int).toNat = 1000000000 := by decide
      omega
    have z4c : z4 + z2 * 60 ≤ 10 ^ 12 := by
      simp only [List.mem_cons, List.not_mem_nil, or_false] at m4
      have p12 : (10 : Int) ^ (9 : Int).toNat = 1000000000 := by decide
      omega
    have nnm := names_nd (z4 := z4) (z2 := z2) (B := 1 + r1) (n := m.toNat) z4b (by omega) (by omega) (by omega) (by omega)
    have nnl := names_lim (z4 := z4) (z2 := z2) (B := 1 + r1) (n := m.toNat) z4c z4b (by omega)
    generalize ((List.range m.toNat).map fun (i : Nat) => z4 + z2 * ((1 + r1) * (0 + (i : Int)) % 61)) = nm at h5 l5 nnm nnl
    have t5 := tp4.same s5
    refine ⟨_, rfl, by show 4 ≤ sizeLine; decide, fun d6 h6 => ?_⟩
    refine ⟨t, c, d6, _, n + 4, rfl, t5.new h6, by omega, fun H' kp => .inl (SqL.of (kp d6 _ upd_same (t5.fresh h6))), by show 0 < 4; decide, by show 4 ≤ 1000000; decide, fun H6 i6 v6 g6 tp6 kp6 => ?_⟩
    obtain ⟨z6, rfl, m6⟩ := pick_int (zs := [1, 2, 2, 3]) g6
    have z6b : 1 ≤ z6 ∧ z6 ≤ 3 := by
      simp only [List.mem_cons, List.not_mem_nil, or_false] at m6
      omega
    have k56 : Kp t H5 H6 := (Kp.new h6).trans kp6
    refine ⟨by show 2 ≤ sizeLine; decide, fun q7 hq7 => ⟨q7, _, rfl, SqT.of upd_same, rfl, _, _, rfl, _, _, rfl, rfl, ?_⟩⟩
    have t7 := tp6.new (o := .tup [V.ref D, V.int z6]) hq7
    have h7 := same_new (o := .tup [V.ref D, V.int z6]) hq7 _ _ (t5.sq h5 k56)
    have k07 : Kp t H (upd H6 q7 (.tup [V.ref D, V.int z6])) := kp1.trans ((Kp.new h1).trans (kp2.trans ((Kp.new hq2).trans (kp3.trans ((Kp.new h3).trans (kp4.trans ((Kp.same s5).trans (k56.trans (Kp.new hq7)))))))))
    generalize upd H6 q7 (.tup [V.ref D, V.int z6]) = H7 at t7 h7 k07
    -- signs
    refine ⟨_, rfl, D, rfl, ⟨_, SqL.of h7⟩, fun Z hZ => lc_list (xs := nm.map V.int) (fun i H' => Kp t H7 H' ∧ Tape H' t c (n + 5 + i) ∧ ∃ is : List Int, is.length = i ∧ nas is = nas (nm.take i) ∧ H' Z = some (.lst (is.map V.int))) ⟨Kp.new hZ, t7.new hZ, [], rfl, rfl, upd_same⟩ ?_ ?_ ?_⟩
    · rintro i H' _ ⟨kp, _, _⟩
      exact SqL.of (t7.sq h7 kp)
    · rintro i x H8 hi ⟨k8, t8, is, el, en, h8⟩
      obtain ⟨y, rfl, hy⟩ := int_at hi
      have li : i < nm.length := (List.getElem?_eq_some_iff.mp hy).1
      have nZt : Z ≠ t := t7.fresh hZ
      have nZc : Z ≠ c := t7.fresh_c hZ
      refine ⟨rfl, yes_go ⟨_, rfl, _, rfl, t, c, z6, n + 5 + i, rfl, t8, by omega, by omega, pow8000 (by omega), fun H9 r9 a9 b9 tp9 kp9 => ⟨_, rfl, _, _, rfl, rfl, ⟨by decide, by decide⟩, _, _, rfl, rfl, _, _, rfl, rfl, _, rfl, ?_⟩⟩⟩
      have h9 := kp9 Z _ h8 nZt
      have fin : ∀ y' : Int, y'.natAbs = y.natAbs → ∃ acc, H9 Z = some (.lst acc) ∧ acc.length < sizeLine ∧ Kp t H7 (upd H9 Z (.lst (acc ++ [V.int y']))) ∧ Tape (upd H9 Z (.lst (acc ++ [V.int y']))) t c (n + 5 + (i + 1)) ∧ ∃ is : List Int, is.length = i + 1 ∧ nas is = nas (nm.take (i + 1)) ∧ (upd H9 Z (.lst (acc ++ [V.int y']))) Z = some (.lst (is.map V.int)) := fun y' ey => by
        refine ⟨is.map V.int, h9, ?_, (k8.trans kp9).mut hZ, tp9.mut nZt nZc, is ++ [y'], by rw [List.length_append, el]; rfl, by rw [nas_snoc, en, take_snoc hy, nas_snoc, ey], ?_⟩
        · have line : 1000000 < sizeLine := by decide
          rw [List.length_map, el]
          omega
        · rw [upd_same, List.map_append]
          rfl
      refine ite2 (fun _ => ?_) (fun _ => ?_)
      · exact ⟨_, rfl, fin y rfl⟩
      · exact ⟨_, rfl, _, _, rfl, rfl, fin (0 - y) (by omega)⟩
    · rintro H8 ⟨k8, t8, is, el, en, h8⟩
      rw [List.length_map] at el t8
      rw [List.length_map, List.take_length] at en
      have un : Un is := Un.of_perm (ms := nm) ⟨nnm.1, nnm.2, nnl⟩ (by rw [en])
      exact k H8 Z is (k07.free hZ (t7.fresh hZ)) h8 (by omega) un (t8.le (by omega)) (k07.trans k8)
end

/-! ### a list's rest -/
theorem cut_natE (xs : List V) (i : Nat) : cutV xs (some (i : Int)) none = xs.drop i := by
  unfold cutV
  rw [HT.sIx_none, HT.sIx_nat]
  by_cases h : i ≤ xs.length
  · rw [Nat.min_eq_left h, List.take_of_length_le (by rw [List.length_drop]; omega)]
  · rw [List.drop_eq_nil_of_le (by omega : xs.length ≤ min i xs.length), List.drop_eq_nil_of_le (by omega : xs.length ≤ i), List.take_nil]
/-! ### drawn rows of marks -/
def spRows : Sp := fun vs H Q _ => ∃ (t c : Addr) (many M : Nat) (longest : Int) (n : Nat), vs = [.ref t, .int many, .int longest, .int M] ∧ Tape H t c n ∧ n < 900000 ∧ 1 ≤ many ∧ many ≤ M ∧ M ≤ 60 ∧ 1 ≤ longest ∧ longest ≤ 5 ∧
  ∀ (H' : Hp) (q : Addr) (ys : List V) (rows : List (List Int)), H q = none → H' q = some (.lst ys) → TpAll H' ys (rows.map tI) → rows.length = many → (∀ r ∈ rows, 1 ≤ r.length ∧ (r.length : Int) ≤ longest) → (∀ r ∈ rows, ∀ x ∈ r, x.natAbs < 10 ^ 13) → Tape H' t c (n + 180) → Kp t H H' → Q (.ref q) H'
section
variable {P : Program} {w : World} {K : PySem.W.Frag} {mg : Str → Option Value} {base : Heap}
theorem has_rows {cs : Nat → Addr} (T : Top K mg cs) (h__law_draw : Has P w K mg base 1 "_law_draw" ["_law_tape", "_law_many"] spDraw) (h__law_marks : Has P w K mg base 3 "_law_marks" ["_law_tape", "_law_many"] spFar) :
    Has P w K mg base 4 "_law_rows" ["_law_tape", "_law_many", "_law_longest", "_law_most"] spRows := by
  refine has_of T.d__law_rows sc__law_rows bd__law_rows (fun vs H Q E h => ?_) (fun f cdv A outer s H vs Q E hr h => ?_)
  · obtain ⟨t, c, many, M, longest, n, rfl, _⟩ := h
    rfl
  · have hu := hu_of hr
    have nd := sc__law_rows.nd
    obtain ⟨t, c, many, M, longest, n, rfl, tp, hn, m1, m2, m3, g1, g2, k⟩ := h
    refine ⟨_, (pss_cons (ps_par (i := 4) (j := 5) (by rfl) nd rfl rfl (by decide) rfl rfl (pa_cons (pe_has h__law_marks (hr.mono (by omega)) (by rfl) (pa_cons (pv 0) (pa_cons (pv 3) pa_nil))) (pa_cons (pe_lst pa_nil) pa_nil)) (by rfl))
    (pss_cons (ps_for PassesOwn.never rfl (pi_range1 (by rfl) T.b_range (pa_cons (pv 1) pa_nil)) (pg_name (i := 6) nd rfl (.inl rfl))
      (pss_cons (ps_set (i := 7) nd rfl (.inl rfl) (pe_op op_add (pe_op op_add (pe_op op_sub (pe_callB call_len_seq (by rfl) T.b_len (by decide +kernel) (pa_cons (pv 4) pa_nil)) (pv 1)) (pv 6)) pe_int))
    (pss_cons (ps_set (i := 8) nd rfl (.inl rfl) (pe_callB (call_min2 rfl) (by rfl) T.b_min (by decide +kernel) (pa_cons (pv 7) (pa_cons (pe_op op_add pe_int (pe_has h__law_draw (hr.mono (by omega)) (by rfl) (pa_cons (pv 0) (pa_cons (pv 2) pa_nil)))) pa_nil))))
    (pss_cons (ps_expr (pe_bm PySem.F.plainAttrs_list PySem.F.slot_list_append PySem.F.type_list_append mt_append (pv 5) (pa_cons (pe_callTy call_tuple_of (by rfl) T.b_tuple (by decide +kernel) (pa_cons (pe_slice sl_list (pv 4) po_none (po_some (pv 8))) pa_nil)) pa_nil)))
    (pss_one (ps_set (i := 4) nd rfl (.inl rfl) (pe_slice sl_list (pv 4) (po_some (pv 8)) po_none)))))))
    (pss_one (ps_ret (pv 5))))), ?_⟩
    have line : (5000000 : Nat) < sizeLine := by decide
    refine ⟨_, rfl, _, rfl, t, c, M, n, rfl, tp, by omega, by omega, by omega, fun H1 p ms np hp lm un tp1 kp1 => ⟨by show 0 ≤ sizeLine; decide, fun R nR => ⟨_, _, rfl, ?_⟩⟩⟩
    have lm : ms.length = M := by simpa using lm
    have tp2 := tp1.new (o := .lst []) nR
    have hp2 := same_new (o := .lst []) nR _ _ hp
    have hR2 : (upd H1 R (.lst [])) R = some (.lst []) := upd_same
    have k2 : Kp t H (upd H1 R (.lst [])) := kp1.trans (Kp.new nR)
    have nR0 : H R = none := by
      cases e : H R with
      | none => rfl
      | some o =>
        by_cases z : R = t
        · exact absurd z (tp1.fresh nR)
        · rw [kp1 R o e z] at nR
          cases nR
    have fit : ∀ x ∈ ms, x.natAbs < 10 ^ 13 := fun x hx => Nat.lt_of_le_of_lt (un.lim x hx) (by decide)
    generalize upd H1 R (.lst []) = H2 at tp2 hp2 hR2 k2
    have Rt : R ≠ t := tp1.fresh nR
    have Rc : R ≠ c := tp1.fresh_c nR
    refine ⟨_, rfl, many, rfl, by omega, by omega, for_range (lo := 0) (fun i σ H' => ∃ (p : Addr) (ms : List Int) (ys : List V) (rows : List (List Int)) (v6 v7 v8 : Option V), σ = [some (.ref t), some (.int many), some (.int longest), some (.int M), some (.ref p), some (.ref R), v6, v7, v8] ∧ p ≠ R ∧
      H' p = some (.lst (ms.map V.int)) ∧ (∀ x ∈ ms, x.natAbs < 10 ^ 13) ∧ many ≤ ms.length + i ∧ ms.length ≤ M ∧ H' R = some (.lst ys) ∧ TpAll H' ys (rows.map tI) ∧ rows.length = i ∧ (∀ r ∈ rows, 1 ≤ r.length ∧ (r.length : Int) ≤ longest) ∧ (∀ r ∈ rows, ∀ x ∈ r, x.natAbs < 10 ^ 13) ∧ Tape H' t c (n + 110 + i) ∧ Kp t H H')
      ⟨p, ms, [], [], none, none, none, rfl, (ne_of_none hp nR), hp2, fit, by omega, by omega, hR2, .nil, rfl, fun _ h => (by cases h), fun _ h => (by cases h), tp2, k2⟩ ?_ ?_⟩
    · rintro i σ H3 hi ⟨p, ms, ys, rows, v6, v7, v8, rfl, pR, hp, fit, l1, l2, hR, tR, lr, wide, fr, tp3, k3⟩
      have hi2 : i < many := by omega
      have ly := tR.len
      rw [List.length_map] at ly
      refine ⟨_, rfl, p, _, rfl, .inl (SqL.of hp), _, rfl, _, _, rfl, rfl, _, rfl, _, _, rfl, rfl, _, _, rfl, rfl, ?_⟩
      refine ⟨_, rfl, _, rfl, _, rfl, t, c, longest, _, rfl, tp3, by omega, by omega, pow8000 (by omega), fun H4 r a0 b0 tp4 kp4 => ⟨_, _, rfl, rfl, _, _, rfl, ?_⟩⟩
      have hp4 := tp3.sq hp kp4
      have hR4 := tp3.sq hR kp4
      have tR4 := tR.kt (KT.kp tp3 kp4)
      obtain ⟨s, es, s1, s2, s3⟩ : ∃ s : Nat, (if 1 + r < (((ms.map V.int).length : Nat) : Int) - (many : Int) + (0 + (i : Int)) + 1 then 1 + r else (((ms.map V.int).length : Nat) : Int) - (many : Int) + (0 + (i : Int)) + 1) = (s : Int) ∧ 1 ≤ s ∧ (s : Int) ≤ longest ∧ (s : Int) ≤ (ms.length : Int) - many + i + 1 := by
        rw [List.length_map]
        split
        · exact ⟨(1 + r).toNat, by omega, by omega, by omega, by omega⟩
        · exact ⟨((ms.length : Int) - (many : Int) + (0 + (i : Int)) + 1).toNat, by omega, by omega, by omega, by omega⟩
      rw [es]
      refine ⟨_, rfl, .inl ⟨rfl, _, SqL.of hR4⟩, _, rfl, _, rfl, _, rfl, p, _, rfl, SqL.of hp4, fun q1 nq1 => ?_⟩
      have e1 : cutV (ms.map V.int) none (some (s : Int)) = (ms.take s).map V.int := by
        rw [cut_nat0, List.map_take]
      rw [e1]
      have w1 := same_new (o := .lst ((ms.take s).map V.int)) nq1
      have hq1 : (upd H4 q1 (.lst ((ms.take s).map V.int))) q1 = some (.lst ((ms.take s).map V.int)) := upd_same
      generalize upd H4 q1 (.lst ((ms.take s).map V.int)) = H5 at w1 hq1
      refine ⟨q1, _, rfl, .inl ⟨SqL.of hq1, fun q2 nq2 => ?_⟩⟩
      have w2 := same_new (o := .tup ((ms.take s).map V.int)) nq2
      have t2 : Tp (upd H5 q2 (.tup ((ms.take s).map V.int))) (.ref q2) (tI (ms.take s)) := tp_ints upd_same
      generalize upd H5 q2 (.tup ((ms.take s).map V.int)) = H6 at w2 t2
      have w12 := w1.trans w2
      have hR6 := w12 _ _ hR4
      refine ⟨R, ys, .ref q2, rfl, rfl, hR6, by omega, ?_⟩
      have hp7 : (upd H6 R (.lst (ys ++ [.ref q2]))) p = some (.lst (ms.map V.int)) := by
        rw [upd_ne pR]
        exact w12 _ _ hp4
      have tp7 := (tp4.same w12).mut (o := .lst (ys ++ [.ref q2])) Rt Rc
      have k7 : Kp t H (upd H6 R (.lst (ys ++ [.ref q2]))) := ((k3.trans kp4).trans (Kp.same w12)).mut nR0
      have hR7 : (upd H6 R (.lst (ys ++ [.ref q2]))) R = some (.lst (ys ++ [.ref q2])) := upd_same
      have tR7 : TpAll (upd H6 R (.lst (ys ++ [.ref q2]))) (ys ++ [.ref q2]) ((rows ++ [ms.take s]).map tI) := by
        rw [List.map_append]
        exact ((tR4.kt (KT.same w12)).snoc t2).kt (KT.lst hR6)
      generalize upd H6 R (.lst (ys ++ [.ref q2])) = H7 at hp7 tp7 k7 hR7 tR7
      refine ⟨_, rfl, _, rfl, _, rfl, p, _, rfl, SqL.of hp7, fun q3 nq3 => ?_⟩
      have e2 : cutV (ms.map V.int) (some (s : Int)) none = (ms.drop s).map V.int := by
        rw [cut_natE, List.map_drop]
      rw [e2]
      have ls : (ms.take s).length = s := by
        rw [List.length_take]
        omega
      have ld := List.length_drop (i := s) (l := ms)
      have inR : ∀ r ∈ rows ++ [ms.take s], (1 ≤ r.length ∧ (r.length : Int) ≤ longest) ∧ ∀ x ∈ r, x.natAbs < 10 ^ 13 := fun r hr => by
        rcases List.mem_append.mp hr with z | z
        · exact ⟨wide r z, fr r z⟩
        · rw [List.mem_singleton.mp z]
          exact ⟨by omega, fun x hx => fit x (List.mem_of_mem_take hx)⟩
      refine ⟨q3, ms.drop s, _, rows ++ [ms.take s], _, _, _, rfl, (ne_of_none hR7 nq3).symm, upd_same, fun x hx => fit x (List.mem_of_mem_drop hx), by omega, by omega, same_new nq3 _ _ hR7, tR7.kt (KT.new nq3), by rw [List.length_append, lr]; rfl, fun r hr => (inR r hr).1, fun r hr => (inR r hr).2, (tp7.new nq3).le (by omega), k7.trans (Kp.new nq3)⟩
    · rintro σ H3 ⟨p, ms, ys, rows, v6, v7, v8, rfl, pR, hp, fit, l1, l2, hR, tR, lr, wide, fr, tp3, k3⟩
      exact ⟨_, rfl, k H3 R ys rows nR0 hR tR (by omega) wide fr (tp3.le (by omega)) k3⟩
end

/-! ### how many choices there are at most -/
structure Bnd (F : Int → Int) (T : Int) : Prop where
  b : ∀ (a : Int) (n : Nat), sm (fun k => F (a - k)) n ≤ T
theorem sm_mul (c : Int) (f : Int → Int) : ∀ n : Nat, (∀ i : Int, 0 ≤ i → i < n → f i ≤ c) → sm f n ≤ (n : Int) * c
  | 0, _ => by
    show (0 : Int) ≤ 0 * c
    omega
  | n + 1, h => by
    have a := sm_mul c f n fun i x y => h i x (by omega)
    have b := h n (by omega) (by omega)
    show sm f n + f n ≤ ((n + 1 : Nat) : Int) * c
    rw [show ((n + 1 : Nat) : Int) = (n : Int) + 1 from rfl, Int.add_mul, Int.one_mul]
    omega
theorem bnd0 : Bnd w0 1 := by
  refine ⟨fun a n => ?_⟩
  have z : ∀ n : Nat, sm (fun k => w0 (a - k)) n = if 0 ≤ a ∧ a < (n : Int) then 1 else 0 := by
    intro n
    induction n with
    | zero => exact (if_neg (by omega)).symm
    | succ n ih =>
      show sm (fun k => w0 (a - k)) n + w0 (a - n) = _
      rw [ih]
      unfold w0
      by_cases c : a = n
      · rw [if_neg (by omega), if_pos (by omega), if_pos (by omega)]
        rfl
      · rw [if_neg (by omega : ¬ a - (n : Int) = 0), Int.add_zero]
        by_cases c2 : 0 ≤ a ∧ a < (n : Int)
        · rw [if_pos c2, if_pos (by omega)]
        · rw [if_neg c2, if_neg (by omega)]
  rw [z]
  split <;> decide
theorem bnd_step {F : Int → Int} {T : Int} (h : Bnd F T) (l : Nat) : Bnd (wstep l F) (((l + 1 : Nat) : Int) * T) := by
  refine ⟨fun a n => ?_⟩
  have e : sm (fun k => wstep l F (a - k)) n = sm (fun j => sm (fun k => F (a - j - k)) n) (l + 1) := by
    show sm (fun k => sm (fun j => F (a - k - j)) (l + 1)) n = _
    rw [sm_swap]
    exact sm_congr _ fun j _ _ => sm_congr _ fun k _ _ => congrArg F (by omega)
  rw [e]
  exact sm_mul T _ _ fun j _ _ => h.b (a - j) n
theorem bnd_all {b : Nat} : ∀ ls : List Int, (∀ l ∈ ls, 0 ≤ l ∧ l + 1 ≤ (b : Int)) → ∃ T : Int, Bnd (wAll ls) T ∧ 0 ≤ T ∧ T ≤ ((b ^ ls.length : Nat) : Int) := by
  intro ls
  refine rev_ind2 (P := fun ls => (∀ l ∈ ls, 0 ≤ l ∧ l + 1 ≤ (b : Int)) → ∃ T : Int, Bnd (wAll ls) T ∧ 0 ≤ T ∧ T ≤ ((b ^ ls.length : Nat) : Int)) (fun _ => ⟨1, bnd0, by decide, Int.le_refl _⟩) (fun xs x ih h => ?_) ls
  obtain ⟨T, h1, h0, h2⟩ := ih fun l hl => h l (List.mem_append_left _ hl)
  have hx := h x (List.mem_append_right _ List.mem_cons_self)
  refine ⟨((x.toNat + 1 : Nat) : Int) * T, ?_, Int.mul_nonneg (by omega) h0, ?_⟩
  · rw [wAll_snoc]
    exact bnd_step h1 _
  · rw [List.length_append, List.length_singleton, Nat.pow_succ, Nat.mul_comm, Int.natCast_mul]
    exact Int.mul_le_mul (by omega) h2 h0 (by omega)
/-- one row less in the power -/
theorem wAll_le {b : Nat} (xs : List Int) (x t : Int) (h : ∀ l ∈ xs ++ [x], 0 ≤ l ∧ l + 1 ≤ (b : Int)) : wAll (xs ++ [x]) t ≤ ((b ^ xs.length : Nat) : Int) := by
  obtain ⟨T, h1, _, h2⟩ := bnd_all xs fun l hl => h l (List.mem_append_left _ hl)
  rw [wAll_snoc]
  exact Int.le_trans (h1.b t _) h2
/-! begun choices -/
theorem item_len (l : Int) (p : Pre) (h : 0 ≤ l) : ((lItem l p).length : Int) ≤ l + 1 := by
  unfold lItem
  rw [List.length_map, rg_len]
  have := (mn2_b (l := l) (x := p.2)).1
  omega
theorem step_len {b : Nat} (l : Int) (h : 0 ≤ l ∧ l + 1 ≤ (b : Int)) : ∀ bs : List Pre, (lStep l bs).length ≤ b * bs.length
  | [] => Nat.zero_le _
  | p :: r => by
    have ih := step_len l h r
    have a := item_len l p h.1
    unfold lStep at ih ⊢
    rw [List.map_cons, List.flatten_cons, List.length_append, List.length_cons, Nat.mul_succ]
    omega
theorem all_few {b : Nat} (t : Int) : ∀ ls : List Int, (∀ l ∈ ls, 0 ≤ l ∧ l + 1 ≤ (b : Int)) → (lAll ls t).length ≤ b ^ ls.length := by
  intro ls
  refine rev_ind2 (P := fun ls => (∀ l ∈ ls, 0 ≤ l ∧ l + 1 ≤ (b : Int)) → (lAll ls t).length ≤ b ^ ls.length) (fun _ => Nat.le_refl _) (fun xs x ih h => ?_) ls
  have a := ih fun l hl => h l (List.mem_append_left _ hl)
  have hx := h x (List.mem_append_right _ List.mem_cons_self)
  rw [lAll_snoc, List.length_append, List.length_singleton, Nat.pow_succ, Nat.mul_comm]
  exact Nat.le_trans (step_len x hx _) (Nat.mul_le_mul_left _ a)
theorem fine_few {b m : Nat} {ls : List Int} {t : Int} (hb : 1 ≤ b) (h : ∀ l ∈ ls, 0 ≤ l ∧ l + 1 ≤ (b : Int)) (hm : ls.length ≤ m) (small : b ^ m ≤ 1000000) : Fine ls t := fun i => by
  refine Nat.le_trans (all_few t (ls.take i) fun l hl => h l (List.mem_of_mem_take hl)) (Nat.le_trans (Nat.pow_le_pow_right hb ?_) small)
  rw [List.length_take]
  omega
/-! rows of one each -/
def wgt (m : Nat) (bs : List Pre) : Nat := (bs.map fun p => (m + 1) ^ p.2.toNat).sum
theorem wgt_app (m : Nat) (a b : List Pre) : wgt m (a ++ b) = wgt m a + wgt m b := by
  unfold wgt
  rw [List.map_append, List.sum_append]
theorem wgt_zero : ∀ bs : List Pre, wgt 0 bs = bs.length
  | [] => rfl
  | p :: r => by
    have ih := wgt_zero r
    unfold wgt at ih ⊢
    rw [List.map_cons, List.sum_cons, ih, List.length_cons, Nat.zero_add, Nat.one_pow]
    omega
theorem pow_two (m : Nat) : ∀ r : Nat, (m + 1) ^ (r + 1) + (m + 1) ^ r ≤ (m + 2) ^ (r + 1) := by
  intro r
  have h : (m + 1) ^ r ≤ (m + 2) ^ r := Nat.pow_le_pow_left (by omega) r
  rw [Nat.pow_succ, Nat.pow_succ, Nat.mul_succ]
  have e : (m + 1) ^ r * m + (m + 1) ^ r + (m + 1) ^ r = (m + 1) ^ r * (m + 2) := by
    rw [Nat.mul_add, Nat.mul_comm _ 2]
    omega
  rw [e]
  exact Nat.mul_le_mul_right _ h
theorem wgt_item (m : Nat) (p : Pre) (h : 0 ≤ p.2) : wgt m (lItem 1 p) ≤ (m + 2) ^ p.2.toNat := by
  unfold lItem mn2
  by_cases c : p.2 < 1
  · have e : p.2 = 0 := by omega
    rw [if_pos c, e, rg_cons (by decide), rg_nil (by decide)]
    show (m + 1) ^ (p.2 - 0).toNat + 0 ≤ _
    rw [e]
    show (m + 1) ^ 0 + 0 ≤ (m + 2) ^ 0
    rw [Nat.pow_zero, Nat.pow_zero]
    omega
  · rw [if_neg c, rg_cons (by decide), rg_cons (by decide), rg_nil (by decide)]
    show (m + 1) ^ (p.2 - 0).toNat + ((m + 1) ^ (p.2 - (0 + 1)).toNat + 0) ≤ _
    obtain ⟨r, er⟩ : ∃ r : Nat, p.2.toNat = r + 1 := ⟨p.2.toNat - 1, by omega⟩
    rw [show (p.2 - 0).toNat = r + 1 by omega, show (p.2 - (0 + 1)).toNat = r by omega, er, Nat.add_zero]
    exact pow_two m r
theorem wgt_step (m : Nat) : ∀ bs : List Pre, (∀ p ∈ bs, 0 ≤ p.2) → wgt m (lStep 1 bs) ≤ wgt (m + 1) bs
  | [], _ => Nat.le_refl _
  | p :: r, h => by
    have ih := wgt_step m r fun q hq => h q (List.mem_cons_of_mem _ hq)
    have a := wgt_item m p (h p List.mem_cons_self)
    unfold lStep at ih ⊢
    rw [List.map_cons, List.flatten_cons, wgt_app]
    have e : wgt (m + 1) (p :: r) = (m + 2) ^ p.2.toNat + wgt (m + 1) r := by
      unfold wgt
      rw [List.map_cons, List.sum_cons]
    rw [e]
    omega
theorem ones_len {t : Int} (ht : 0 ≤ t) (n : Nat) : (lAll (List.replicate n 1) t).length ≤ (n + 1) ^ t.toNat := by
  have z : ∀ k m : Nat, wgt m (lAll (List.replicate k 1) t) ≤ (m + k + 1) ^ t.toNat := by
    intro k
    induction k with
    | zero =>
      intro m
      show (m + 1) ^ t.toNat + 0 ≤ _
      exact Nat.le_refl _
    | succ k ih =>
      intro m
      rw [List.replicate_succ', lAll_snoc]
      refine Nat.le_trans (wgt_step m _ (all_left ht _)) ?_
      have := ih (m + 1)
      rwa [show m + 1 + k + 1 = m + (k + 1) + 1 by omega] at this
  have a := z n 0
  rw [wgt_zero] at a
  rwa [Nat.zero_add] at a
theorem fine_ones {n : Nat} {t : Int} (ht : 0 ≤ t) (h2 : t ≤ 2) (hn : n ≤ 60) : Fine (List.replicate n 1) t := fun i => by
  rw [List.take_replicate]
  refine Nat.le_trans (ones_len ht _) ?_
  have h : min i n + 1 ≤ 61 := by omega
  exact Nat.le_trans (Nat.pow_le_pow_left h _) (Nat.le_trans (Nat.pow_le_pow_right (by decide) (by omega : t.toNat ≤ 2)) (by decide))
theorem wones : ∀ n : Nat, wAll (List.replicate n 1) 0 ≤ 1 ∧ wAll (List.replicate n 1) 1 ≤ (n : Int) ∧ wAll (List.replicate n 1) 2 ≤ (n : Int) * n
  | 0 => ⟨by decide, by decide, by decide⟩
  | n + 1 => by
    obtain ⟨a, b, c⟩ := wones n
    have nn : ∀ l ∈ List.replicate n (1 : Int), 0 ≤ l := fun l hl => by
      rw [List.eq_of_mem_replicate hl]
      decide
    have z := (tall_all (List.replicate n 1) nn).lo (-1) (by decide)
    have st : ∀ t, wAll (List.replicate (n + 1) 1) t = wAll (List.replicate n 1) t + wAll (List.replicate n 1) (t - 1) := fun t => by
      rw [List.replicate_succ', wAll_snoc]
      show 0 + wAll (List.replicate n 1) (t - ((0 : Nat) : Int)) + wAll (List.replicate n 1) (t - ((1 : Nat) : Int)) = _
      rw [Int.zero_add, show t - ((0 : Nat) : Int) = t by omega]
      rfl
    rw [st 0, st 1, st 2]
    rw [show (0 : Int) - 1 = -1 from rfl, z, show (1 : Int) - 1 = 0 from rfl, show (2 : Int) - 1 = 1 from rfl]
    refine ⟨by omega, by omega, ?_⟩
    rw [show ((n + 1 : Nat) : Int) = (n : Int) + 1 from rfl, Int.add_mul, Int.mul_add]
    omega

/-! ### zip of two lists or tuples, in any mix -/
/-- what a side of it is -/
inductive Wy where
  | ls
  | tp
def Wy.sq : Wy → Heap → Addr → Array Value → Prop
  | .ls, h, a, xs => h.IsList a xs
  | .tp, h, a, xs => h.IsTuple a xs
def Wy.it : Wy → Heap → Addr → Addr → Nat → Prop
  | .ls, h, a, l, i => h.IsListIter a l i
  | .tp, h, a, l, i => h.IsTupleIter a l i
def Wy.of (K : PySem.W.Frag) : Wy → Hp → Addr → List V → Prop
  | .ls, H, a, xs => SqL K H a xs
  | .tp, H, a, xs => SqT K H a xs
def Wy.ob (k : Wy) (l : Addr) : Obj := { cls := .type (match k with | .ls => "list_iterator" | .tp => "tuple_iterator"), data := .fields #[.ref l, .int 0 0] }
theorem Wy.sq_at {k : Wy} {h h' : Heap} {a : Addr} {xs : Array Value} (x : k.sq h a xs) (e : ∀ o, h.get? a = some o → h'.get? a = some o) : k.sq h' a xs := by
  cases k <;> exact (let ⟨o, ho, r⟩ := x; ⟨o, e _ ho, r⟩)
theorem Wy.it_at {k : Wy} {h h' : Heap} {a l : Addr} {i : Nat} (x : k.it h a l i) (e : ∀ o, h.get? a = some o → h'.get? a = some o) : k.it h' a l i := by
  cases k <;> exact (let ⟨o, ho, r⟩ := x; ⟨o, e _ ho, r⟩)
theorem Wy.it_ob {k : Wy} {h : Heap} {a l : Addr} {i : Nat} (x : k.it h a l i) : ∃ o, h.get? a = some o ∧ o.data = .fields #[.ref l, .int i 0] := by
  cases k <;> exact (let ⟨o, ho, _, d⟩ := x; ⟨o, ho, d⟩)
theorem Wy.it_of {k : Wy} {h : Heap} {a l : Addr} (e : h.get? a = some (k.ob l)) : k.it h a l 0 := by
  cases k <;> exact ⟨_, e, rfl, rfl⟩
theorem Wy.same {k : Wy} {K : PySem.W.Frag} {H H' : Hp} {a : Addr} {xs : List V} (s : Same H H') (x : k.of K H a xs) : k.of K H' a xs := by
  cases k
  · exact Same.seq s x
  · exact Same.seqT s x
section
variable {prog : Program} {w : World} {A : Around} {E : Value → Shared → Prop} {s : Shared}
theorem Wy.iter {k : Wy} {l : Addr} {xs : Array Value} {Q : Value → Shared → Prop} (hl : k.sq s.heap l xs) (q : Q (.ref s.heap.objs.size) { s with heap := s.heap.push (k.ob l) }) : wpAny (model prog w) A (pyIter (.ref l)) Q E s := by
  cases k
  · exact wpAny_pyIter_list hl q
  · exact wpAny_pyIter_tuple hl q
theorem Wy.next {k : Wy} {b l : Addr} {i : Nat} {xs : Array Value} {x : Value} {Q : Value → Shared → Prop} (hit : k.it s.heap b l i) (hl : k.sq s.heap l xs) (hx : xs[i]? = some x)
    (q : ∀ h', k.it h' b l (i + 1) → Heap.SameBut b s.heap h' → Q x { s with heap := h' }) : wpAny (model prog w) A (Builtin.SmallTypes.nextOf (.ref b)) Q E s := by
  cases k
  · exact wpAny_nextOf_list_item hit hl hx q
  · exact RZ.nextOf_tuple_item hit hl hx q
theorem Wy.stop {k : Wy} {b l : Addr} {i : Nat} {xs : Array Value} {Q : Value → Shared → Prop} (hh : A.handled = none) (hit : k.it s.heap b l i) (hl : k.sq s.heap l xs) (hx : xs[i]? = none)
    (q : ∀ h' e, Heap.ExtBut b s.heap h' → (∃ o, h'.get? e = some o ∧ o.cls = .type "StopIteration") → E (.ref e) { s with heap := h' }) : wpAny (model prog w) A (Builtin.SmallTypes.nextOf (.ref b)) Q E s := by
  cases k
  · exact wpAny_nextOf_list_end hh hit hl hx q
  · exact RZ.nextOf_tuple_end hh hit hl hx q
/-- what stays where four objects change -/
def But4 (z t i j : Addr) (h h' : Heap) : Prop := ∀ c o, c ≠ z → c ≠ t → c ≠ i → c ≠ j → h.get? c = some o → h'.get? c = some o
variable {k k' : Wy} {z ti tu i j a b : Addr} {m n : Nat} {xs ys : Array Value} {x y p q : Value}
theorem zipw_item {Q : Value → Shared → Prop} (D : ZipApart z ti tu i j a b) (hz : IsZip s.heap z ti tu .none) (hti : IsPair s.heap ti (.ref i) (.ref j)) (htu : IsPair s.heap tu p q)
    (hi : k.it s.heap i a m) (hj : k'.it s.heap j b n) (ha : k.sq s.heap a xs) (hb : k'.sq s.heap b ys) (hx : xs[m]? = some x) (hy : ys[n]? = some y)
    (go : ∀ h', IsZip h' z ti tu (rawInt s.heap.objs.size) → IsPair h' tu x y → k.it h' i a (m + 1) → k'.it h' j b (n + 1) → IsPair h' s.heap.objs.size x y → h'.objs.size = s.heap.objs.size + 1 → But4 z tu i j s.heap h' → Q (.ref s.heap.objs.size) { s with heap := h' }) :
    wpAny (model prog w) A (Builtin.«zip.__next__» ⟨[.ref z], []⟩) (fun fin s' => ∃ v, fin = .done (.ret v) ∧ Q v s') E s := by
  show wpAny _ _ (field (.ref z) 2 >>= _) _ _ _
  refine wpAny_bind (wpAny_field hz rfl (x := .bool false) rfl ?_); show wpAny _ _ (field (.ref z) 3 >>= _) _ _ _
  refine wpAny_bind (wpAny_field hz rfl (x := .ref ti) rfl (wpAny_bind (wpAny_seqItems hti rfl ?_)))
  show wpAny _ _ (Builtin.SmallTypes.ownedTupleIsFree (.ref z) >>= _) _ _ _; refine wpAny_bind ?_
  unfold Builtin.SmallTypes.ownedTupleIsFree
  refine wpAny_bind (wpAny_field hz rfl (x := .none) rfl (wpAny_pure ?_)); simp only [if_true]
  refine wpAny_bind (wpAny_rule (wpAny_bind (wpAny_field hz rfl (x := .ref tu) rfl (wpAny_bind (wpAny_setField_rec hz (by simp) fun g1 z1 e1 => ?_)))))
  replace z1 : IsZip g1 z ti tu .ellipsis := z1
  refine wpAny_bind ?_; simp only [List.zipIdx_cons, List.zipIdx_nil, List.forIn_cons, List.forIn_nil]
  refine wpAny_bind (wpAny_bind (wpAny_onRaise ?_)); show wpAny _ _ (Builtin.SmallTypes.nextOf (.ref i) >>= _) _ _ _
  refine wpAny_bind (Wy.next (Wy.it_at hi fun o => e1.extBut _ _ D.i1z) (Wy.sq_at ha fun o => e1.extBut _ _ D.l1z) hx fun g2 i2 e2 => wpAny_pure ?_)
  have t2 : IsPair g2 tu p q := e2.extBut _ _ D.TOi1 (e1.extBut _ _ D.TOz htu)
  refine wpAny_bind (wpAny_seqItems t2 rfl (wpAny_bind (wpAny_updateSeq_pair t2 fun g3 t3 e3 => ?_)))
  replace t3 : IsPair g3 tu x q := t3
  refine wpAny_bind (wpAny_letGo (wpAny_pure (wpAny_bind (wpAny_bind (wpAny_onRaise ?_)))))
  show wpAny _ _ (Builtin.SmallTypes.nextOf (.ref j) >>= _) _ _ _
  refine wpAny_bind (Wy.next (Wy.it_at hj fun o g => e3.extBut _ _ D.TOi2.symm (e2.extBut _ _ D.i12.symm (e1.extBut _ _ D.i2z g)))
    (Wy.sq_at hb fun o g => e3.extBut _ _ D.l2TO (e2.extBut _ _ D.l2i1 (e1.extBut _ _ D.l2z g))) hy fun g4 j4 e4 => wpAny_pure ?_)
  have t4 : IsPair g4 tu x q := e4.extBut _ _ D.TOi2 t3
  refine wpAny_bind (wpAny_seqItems t4 rfl (wpAny_bind (wpAny_updateSeq_pair t4 fun g5 t5 e5 => ?_)))
  replace t5 : IsPair g5 tu x y := t5
  refine wpAny_bind (wpAny_letGo (wpAny_pure (wpAny_pure (wpAny_bind (wpAny_seqItems t5 rfl (wpAny_bind (wpAny_newTuple ?_)))))))
  have sz : g5.objs.size = s.heap.objs.size := by rw [e5.1, e4.1, e3.1, e2.1, e1.1]
  have z5 : IsZip g5 z ti tu .ellipsis := e5.extBut _ _ D.TOz.symm (e4.extBut _ _ D.i2z.symm (e3.extBut _ _ D.TOz.symm (e2.extBut _ _ D.i1z.symm z1)))
  have all5 : But4 z tu i j s.heap g5 := fun c o c1 c2 c3 c4 g => e5.extBut _ _ c2 (e4.extBut _ _ c4 (e3.extBut _ _ c2 (e2.extBut _ _ c3 (e1.extBut _ _ c1 g))))
  have i5 : k.it g5 i a (m + 1) := Wy.it_at i2 fun o g => e5.extBut _ _ D.TOi1.symm (e4.extBut _ _ D.i12 (e3.extBut _ _ D.TOi1.symm g))
  have j5 : k'.it g5 j b (n + 1) := Wy.it_at j4 fun o g => e5.extBut _ _ D.TOi2.symm g
  have zlt : z < g5.objs.size := Heap.lt_size z5
  show wpAny _ _ (Builtin.SmallTypes.ownedTupleHandOut (.ref z) (.ref g5.objs.size) >>= _) _ _ _; refine wpAny_bind ?_
  unfold Builtin.SmallTypes.ownedTupleHandOut
  have z6 : IsZip (g5.push { cls := .type "tuple", data := .seq #[x, y] }) z ti tu .ellipsis := Heap.get?_push_of_some _ z5
  refine wpAny_bind (wpAny_setField_rec z6 (by simp) fun g7 z7 e7 => ?_); replace z7 : IsZip g7 z ti tu (rawInt g5.objs.size) := z7
  refine wpAny_setField_rec z7 (by simp) fun g8 z8 e8 => ?_; replace z8 : IsZip g8 z ti tu (rawInt g5.objs.size) := z8
  have up : ∀ c o, c ≠ z → g5.get? c = some o → g8.get? c = some o := fun c o c1 g => e8.extBut _ _ c1 (e7.extBut _ _ c1 (Heap.get?_push_of_some _ g))
  have t8 : IsPair g8 g5.objs.size x y := e8.extBut _ _ (Nat.ne_of_gt zlt) (e7.extBut _ _ (Nat.ne_of_gt zlt) (Heap.get?_push_size _ rfl))
  have sz8 : g8.objs.size = g5.objs.size + 1 := by rw [e8.1, e7.1, Heap.size_push]
  rw [sz] at z8 t8 sz8
  refine wpAny_pure ⟨_, rfl, ?_⟩; show Q (.ref g5.objs.size) _; rw [sz]
  exact go g8 z8 (up _ _ D.TOz t5) (Wy.it_at i5 fun o g => up _ o D.i1z g) (Wy.it_at j5 fun o g => up _ o D.i2z g) t8 sz8 fun c o c1 c2 c3 c4 g => up c o c1 (all5 c o c1 c2 c3 c4 g)
theorem zipw_end {Q : Fin → Shared → Prop} (hh : A.handled = none) (D : ZipApart z ti tu i j a b) (hz : IsZip s.heap z ti tu .none) (hti : IsPair s.heap ti (.ref i) (.ref j)) (htu : IsPair s.heap tu p q)
    (hi : k.it s.heap i a m) (hj : k'.it s.heap j b n) (ha : k.sq s.heap a xs) (hb : k'.sq s.heap b ys) (no : xs[m]? = none ∨ ys[n]? = none)
    (go : ∀ h' e, But4 z tu i j s.heap h' → (∃ o, h'.get? e = some o ∧ o.cls = .type "StopIteration") → E (.ref e) { s with heap := h' }) : wpAny (model prog w) A (Builtin.«zip.__next__» ⟨[.ref z], []⟩) Q E s := by
  show wpAny _ _ (field (.ref z) 2 >>= _) _ _ _
  refine wpAny_bind (wpAny_field hz rfl (x := .bool false) rfl ?_); show wpAny _ _ (field (.ref z) 3 >>= _) _ _ _
  refine wpAny_bind (wpAny_field hz rfl (x := .ref ti) rfl (wpAny_bind (wpAny_seqItems hti rfl ?_)))
  show wpAny _ _ (Builtin.SmallTypes.ownedTupleIsFree (.ref z) >>= _) _ _ _; refine wpAny_bind ?_
  unfold Builtin.SmallTypes.ownedTupleIsFree
  refine wpAny_bind (wpAny_field hz rfl (x := .none) rfl (wpAny_pure ?_)); simp only [if_true]
  refine wpAny_bind (wpAny_rule (wpAny_bind (wpAny_field hz rfl (x := .ref tu) rfl (wpAny_bind (wpAny_setField_rec hz (by simp) fun g1 z1 e1 => ?_)))))
  replace z1 : IsZip g1 z ti tu .ellipsis := z1
  refine wpAny_bind ?_; simp only [List.zipIdx_cons, List.zipIdx_nil, List.forIn_cons, List.forIn_nil]
  refine wpAny_bind (wpAny_bind (wpAny_onRaise ?_)); show wpAny _ _ (Builtin.SmallTypes.nextOf (.ref i) >>= _) _ _ _
  cases hx : xs[m]? with
  | none =>
    refine wpAny_bind (Wy.stop hh (Wy.it_at hi fun o => e1.extBut _ _ D.i1z) (Wy.sq_at ha fun o => e1.extBut _ _ D.l1z) hx fun g2 e e2 ⟨oe, he, ce⟩ => ?_)
    have z2 : IsZip g2 z ti tu .ellipsis := e2 _ _ D.i1z.symm z1
    have ez : e ≠ z := fun u => by subst u; rw [z2] at he; cases he; simp at ce
    exact wpAny_setField_rec z2 (by simp) fun g3 _ e3 => go g3 e (fun c o c1 _ c3 _ u => e3.extBut _ _ c1 (e2 _ _ c3 (e1.extBut _ _ c1 u))) ⟨oe, e3.extBut _ _ ez he, ce⟩
  | some x =>
    have hy : ys[n]? = none := by
      rcases no with h | h
      · rw [hx] at h
        cases h
      · exact h
    refine wpAny_bind (Wy.next (Wy.it_at hi fun o => e1.extBut _ _ D.i1z) (Wy.sq_at ha fun o => e1.extBut _ _ D.l1z) hx fun g2 i2 e2 => wpAny_pure ?_)
    have t2 : IsPair g2 tu p q := e2.extBut _ _ D.TOi1 (e1.extBut _ _ D.TOz htu)
    refine wpAny_bind (wpAny_seqItems t2 rfl (wpAny_bind (wpAny_updateSeq_pair t2 fun g3 t3 e3 => ?_)))
    refine wpAny_bind (wpAny_letGo (wpAny_pure (wpAny_bind (wpAny_bind (wpAny_onRaise ?_)))))
    show wpAny _ _ (Builtin.SmallTypes.nextOf (.ref j) >>= _) _ _ _
    refine wpAny_bind (Wy.stop hh (Wy.it_at hj fun o g => e3.extBut _ _ D.TOi2.symm (e2.extBut _ _ D.i12.symm (e1.extBut _ _ D.i2z g)))
      (Wy.sq_at hb fun o g => e3.extBut _ _ D.l2TO (e2.extBut _ _ D.l2i1 (e1.extBut _ _ D.l2z g))) hy fun g4 e e4 ⟨oe, he, ce⟩ => ?_)
    have z4 : IsZip g4 z ti tu .ellipsis := e4 _ _ D.i2z.symm (e3.extBut _ _ D.TOz.symm (e2.extBut _ _ D.i1z.symm z1))
    have ez : e ≠ z := fun u => by subst u; rw [z4] at he; cases he; simp at ce
    exact wpAny_setField_rec z4 (by simp) fun g5 _ e5 => go g5 e (fun c o c1 c2 c3 c4 u => e5.extBut _ _ c1 (e4 _ _ c4 (e3.extBut _ _ c2 (e2.extBut _ _ c3 (e1.extBut _ _ c1 u))))) ⟨oe, e5.extBut _ _ ez he, ce⟩
theorem zipw_next {Q : Option Value → Shared → Prop} (D : ZipApart z ti tu i j a b) (hz : IsZip s.heap z ti tu .none) (hti : IsPair s.heap ti (.ref i) (.ref j)) (htu : IsPair s.heap tu p q)
    (hi : k.it s.heap i a m) (hj : k'.it s.heap j b n) (ha : k.sq s.heap a xs) (hb : k'.sq s.heap b ys) (hx : xs[m]? = some x) (hy : ys[n]? = some y)
    (go : ∀ h', IsZip h' z ti tu (rawInt s.heap.objs.size) → IsPair h' tu x y → k.it h' i a (m + 1) → k'.it h' j b (n + 1) → IsPair h' s.heap.objs.size x y → h'.objs.size = s.heap.objs.size + 1 → But4 z tu i j s.heap h' → Q (some (.ref s.heap.objs.size)) { s with heap := h' }) :
    wpAny (model prog w) A (pyNext (.ref z)) Q E s := by
  have hT : s.TypeIs (.ref z) "zip" := ⟨_, hz, rfl⟩
  unfold pyNext
  refine wpAny_bind (wpAny_attempt (wpAny_callSpecial?_slot (name := Str.ofString "__next__") hT F.slot_zip_next (wpAny_call_entry F.slot_zip_next hT F.entry_zip_next (zipw_item D hz hti htu hi hj ha hb hx hy fun h' a1 a2 a3 a4 a5 a6 a7 => ?_) (F.args_zip_next_1 _))))
  exact wpAny_pure (go h' a1 a2 a3 a4 a5 a6 a7)
theorem zipw_done {Q : Option Value → Shared → Prop} (hh : A.handled = none) (D : ZipApart z ti tu i j a b) (hz : IsZip s.heap z ti tu .none) (hti : IsPair s.heap ti (.ref i) (.ref j)) (htu : IsPair s.heap tu p q)
    (hi : k.it s.heap i a m) (hj : k'.it s.heap j b n) (ha : k.sq s.heap a xs) (hb : k'.sq s.heap b ys) (no : xs[m]? = none ∨ ys[n]? = none)
    (go : ∀ h', But4 z tu i j s.heap h' → Q none { s with heap := h' }) : wpAny (model prog w) A (pyNext (.ref z)) Q E s := by
  have hT : s.TypeIs (.ref z) "zip" := ⟨_, hz, rfl⟩
  unfold pyNext
  refine wpAny_bind (wpAny_attempt (wpAny_callSpecial?_slot (name := Str.ofString "__next__") hT F.slot_zip_next (wpAny_call_entry F.slot_zip_next hT F.entry_zip_next (zipw_end hh D hz hti htu hi hj ha hb no fun h' e hk ⟨o, ho, hc⟩ => ?_) (F.args_zip_next_1 _))))
  exact wpAny_bind (wpAny_isInstance (T := "StopIteration") (b := true) ⟨o, ho, hc⟩ isSubtype_stop (wpAny_pure (go _ hk)))
end
def zw1 (h : Heap) (k : Wy) (a : Addr) : Heap := h.push (k.ob a)
def zw2 (h : Heap) (k k' : Wy) (a b : Addr) : Heap := (zw1 h k a).push (k'.ob b)
def zw3 (h : Heap) (k k' : Wy) (a b : Addr) : Heap := (zw2 h k k' a b).push { cls := .type "tuple", data := .seq #[.ref h.objs.size, .ref (zw1 h k a).objs.size] }
def zw4 (h : Heap) (k k' : Wy) (a b : Addr) : Heap := (zw3 h k k' a b).push { cls := .type "tuple", data := .seq #[.none, .none] }
def zw5 (h : Heap) (k k' : Wy) (a b : Addr) : Heap := (zw4 h k k' a b).push { cls := .type "zip", data := .fields #[.none, .bool false, .bool false, .ref (zw2 h k k' a b).objs.size, .ref (zw3 h k k' a b).objs.size] }
theorem meets_zipw (k k' : Wy) (a b : Addr) (xs ys : Array Value) :
    Meets (Builtin.«zip.__new__» ⟨[.type "zip", .ref a, .ref b], []⟩) (fun _ R s => k.sq s.heap a xs ∧ k'.sq s.heap b ys ∧ R (.ok (.ret (.ref (zw4 s.heap k k' a b).objs.size))) { s with heap := zw5 s.heap k k' a b }) :=
  .of_wp fun prog w A R s h => by
    obtain ⟨hp, g, d, tk, os⟩ := s
    obtain ⟨ha, hb, h⟩ := h
    have hsub := sub_zip
    have sa : k.sq (Shared.heap ⟨hp, g, d, tk, os⟩) a xs := ha
    have sb : k'.sq (Shared.heap ⟨hp.push (k.ob a), g, d, tk, os⟩) b ys := Wy.sq_at hb fun o e => Heap.get?_push_of_some _ e
    wp_walk using Wy.iter sa, Wy.iter sb
    exact ⟨_, rfl, h⟩
theorem call_zipw {prog : Program} {w : World} {A : Around} {E : Value → Shared → Prop} {s : Shared} {k k' : Wy} {a b : Addr} {xs ys : Array Value} {Q : Value → Shared → Prop} (ha : k.sq s.heap a xs) (hb : k'.sq s.heap b ys)
    (go : ∀ h', IsZip h' (s.heap.objs.size + 4) (s.heap.objs.size + 2) (s.heap.objs.size + 3) .none → IsPair h' (s.heap.objs.size + 2) (.ref s.heap.objs.size) (.ref (s.heap.objs.size + 1)) → IsPair h' (s.heap.objs.size + 3) .none .none →
      k.it h' s.heap.objs.size a 0 → k'.it h' (s.heap.objs.size + 1) b 0 → (∀ c o, s.heap.get? c = some o → h'.get? c = some o) → Q (.ref (s.heap.objs.size + 4)) { s with heap := h' }) :
    wpAny (model prog w) A (call (.type "zip") [.ref a, .ref b]) Q E s := by
  refine callType_new F.called_zip (by decide) (F.typeCall_zip_2 _ _) (F.newCall_zip_2 _ _) (fun obj => F.args_object_init_3 obj _ _) F.entry_zip_new (meets_zipw k k' a b xs ys) ⟨ha, hb, ?_⟩
  have n1 : (zw1 s.heap k a).objs.size = s.heap.objs.size + 1 := Heap.size_push ..
  have n2 : (zw2 s.heap k k' a b).objs.size = s.heap.objs.size + 2 := by rw [zw2, Heap.size_push, n1]
  have n3 : (zw3 s.heap k k' a b).objs.size = s.heap.objs.size + 3 := by rw [zw3, Heap.size_push, n2]
  have n4 : (zw4 s.heap k k' a b).objs.size = s.heap.objs.size + 4 := by rw [zw4, Heap.size_push, n3]
  have u1 : ∀ c o, s.heap.get? c = some o → (zw1 s.heap k a).get? c = some o := fun c o e => Heap.get?_push_of_some _ e
  have u2 : ∀ c o, (zw1 s.heap k a).get? c = some o → (zw2 s.heap k k' a b).get? c = some o := fun c o e => Heap.get?_push_of_some _ e
  have u3 : ∀ c o, (zw2 s.heap k k' a b).get? c = some o → (zw3 s.heap k k' a b).get? c = some o := fun c o e => Heap.get?_push_of_some _ e
  have u4 : ∀ c o, (zw3 s.heap k k' a b).get? c = some o → (zw4 s.heap k k' a b).get? c = some o := fun c o e => Heap.get?_push_of_some _ e
  have u5 : ∀ c o, (zw4 s.heap k k' a b).get? c = some o → (zw5 s.heap k k' a b).get? c = some o := fun c o e => Heap.get?_push_of_some _ e
  have o5 : (zw5 s.heap k k' a b).get? (zw4 s.heap k k' a b).objs.size = some _ := Heap.get?_push_size _ rfl
  have o4 : (zw4 s.heap k k' a b).get? (zw3 s.heap k k' a b).objs.size = some _ := Heap.get?_push_size _ rfl
  have o3 : (zw3 s.heap k k' a b).get? (zw2 s.heap k k' a b).objs.size = some _ := Heap.get?_push_size _ rfl
  have o2 : (zw2 s.heap k k' a b).get? (zw1 s.heap k a).objs.size = some (k'.ob b) := Heap.get?_push_size _ (by cases k' <;> rfl)
  have o1 : (zw1 s.heap k a).get? s.heap.objs.size = some (k.ob a) := Heap.get?_push_size _ (by cases k <;> rfl)
  rw [n2, n3, n4] at o5
  rw [n3] at o4
  rw [n1, n2] at o3
  rw [n1] at o2
  show _ ∧ _
  rw [n4]
  exact ⟨⟨_, o5, rfl⟩, go _ o5 (u5 _ _ (u4 _ _ o3)) (u5 _ _ o4) (Wy.it_of (u5 _ _ (u4 _ _ (u3 _ _ (u2 _ _ o1))))) (Wy.it_of (u5 _ _ (u4 _ _ (u3 _ _ o2)))) fun c o e => u5 _ _ (u4 _ _ (u3 _ _ (u2 _ _ (u1 _ _ e))))⟩
theorem Wy.inv {k : Wy} {X : Cx} {pins : List (Addr × Obj)} {σ : L2.St} {H : Hp} {s : Shared} {a : Addr} {xs : List V} (I : Inv X pins σ H s) (h : k.of X.K H a xs) : ∃ its : List Value, Vals xs its ∧ k.sq s.heap a its.toArray := by
  cases k
  · obtain ⟨its, r, p, _⟩ := I.list h
    exact ⟨its, r, p.isList⟩
  · obtain ⟨its, r, p, _⟩ := I.tuple h
    exact ⟨its, r, p⟩
theorem Wy.inj {k : Wy} {X : Cx} {pins : List (Addr × Obj)} {σ : L2.St} {H : Hp} {s : Shared} {a : Addr} {xs ys : List V} (I : Inv X pins σ H s) (h : k.of X.K H a xs) (h' : k.of X.K H a ys) : xs = ys := by
  cases k
  · exact I.list_inj h h'
  · exact I.tuple_inj h h'
/-- what stands at a and b at each turn, the items in new pairs -/
def Itw (K : PySem.W.Frag) (k k' : Wy) (a b : Addr) : It :=
  ⟨fun n H => ∃ (xs ys : List V) (x y : V), k.of K H a xs ∧ k'.of K H b ys ∧ xs[n]? = some x ∧ ys[n]? = some y,
    fun n H v H' => ∃ p x y, v = .ref p ∧ H p = none ∧ H' = upd H p (.tup [x, y]) ∧ (∀ xs, k.of K H a xs → xs[n]? = some x) ∧ ∀ ys, k'.of K H b ys → ys[n]? = some y,
    fun n H => ∃ xs ys : List V, k.of K H a xs ∧ k'.of K H b ys ∧ (xs.length ≤ n ∨ ys.length ≤ n)⟩
theorem five {c z ti tu i j : Addr} (h : c ∈ [z, ti, tu, i, j]) : c = z ∨ c = ti ∨ c = tu ∨ c = i ∨ c = j := by simpa using h
theorem turn_zipw {P : Program} {w : World} {K : PySem.W.Frag} {elts : List Expr} {kk : Nat} {tpos : Pos} {k k' : Wy} {a b z ti tu i j : Addr} (D : ZipApart z ti tu i j a b) :
    Turn P w K (.Tuple elts kk tpos) (Itw K k k' a b) [z, ti, tu, i, j] z (fun n h => IsZip h z ti tu .none ∧ IsPair h ti (.ref i) (.ref j) ∧ (∃ x y, IsPair h tu x y) ∧ k.it h i a n ∧ k'.it h j b n) where
  mem := List.mem_cons_self ..
  obj := fun n h ⟨hz, hti, ⟨x, y, htu⟩, hi, hj⟩ c hc => by
    obtain ⟨o1, e1, d1⟩ := Wy.it_ob hi
    obtain ⟨o2, e2, d2⟩ := Wy.it_ob hj
    rcases five hc with rfl | rfl | rfl | rfl | rfl
    · exact ⟨_, hz, fun v q => nomatch q⟩
    · exact ⟨_, hti, fun v q => nomatch q⟩
    · exact ⟨_, htu, fun v q => nomatch q⟩
    · exact ⟨o1, e1, fun v q => by rw [d1] at q; cases q⟩
    · exact ⟨o2, e2, fun v q => by rw [d2] at q; cases q⟩
  keep := fun n h h' ⟨hz, hti, ⟨x, y, htu⟩, hi, hj⟩ kp => ⟨kp z (by simp) _ hz, kp ti (by simp) _ hti, ⟨x, y, kp tu (by simp) _ htu⟩, Wy.it_at hi (kp i (by simp)), Wy.it_at hj (kp j (by simp))⟩
  item := by
    intro X hP hw hK hc n pins s σ H E I hf st hg
    subst hP hw hK
    obtain ⟨hz, hti, ⟨x0, y0, htu⟩, hi, hj⟩ := st
    obtain ⟨xs, ys, x, y, hqx, hqy, hx, hy⟩ := hg
    obtain ⟨its, rv, pa⟩ := Wy.inv I hqx
    obtain ⟨its2, rv2, pb⟩ := Wy.inv I hqy
    obtain ⟨u, hu, ru⟩ := rv.get hx
    obtain ⟨u2, hu2, ru2⟩ := rv2.get hy
    have zlt : z < s.heap.objs.size := Heap.lt_size hz
    refine zipw_next D hz hti htu hi hj pa pb (x := u) (y := u2) (by simpa using hu) (by simpa using hu2) fun h' z' tu' i' j' hT hsz hk => ⟨_, rfl, wpAny_letOwnedTupleGo_zip (s := { s with heap := h' }) z' fun h2 z2 sb => ?_⟩
    have hT2 : h2.get? s.heap.objs.size = some { cls := .type "tuple", data := .seq #[u, u2] } := (sb.2 _ (Nat.ne_of_gt zlt)).trans hT
    have hk2 : ∀ c o, c ∉ [z, ti, tu, i, j] → s.heap.get? c = some o → h2.get? c = some o := fun c o hb q =>
      (sb.2 c fun q' => hb (by simp [q'])).trans (hk c o (fun q' => hb (by simp [q'])) (fun q' => hb (by simp [q'])) (fun q' => hb (by simp [q'])) (fun q' => hb (by simp [q'])) q)
    have I1 : Inv X pins σ (upd H s.heap.objs.size (.tup [x, y])) { s with heap := h2 } :=
      I.turnedNew (t' := s.toks) (ch := [z, ti, tu, i, j]) hk2 hf (Nat.le_refl _) ⟨by show 2 ≤ sizeLine; decide, [u, u2], .cons ru (.cons ru2 .nil), ⟨_, hT2, rfl, _, rfl⟩⟩
    refine ⟨.ref s.heap.objs.size, _, I1, rfl, ⟨_, x, y, rfl, I.hok.fresh (Nat.le_refl _), rfl, fun l hl => by rw [Wy.inj I hl hqx]; exact hx, fun l hl => by rw [Wy.inj I hl hqy]; exact hy⟩,
      ⟨z2, (sb.2 _ D.TIz).trans (hk _ _ D.TIz D.TITO D.TIi1 D.TIi2 hti), ⟨u, u2, (sb.2 _ D.TOz).trans tu'⟩, Wy.it_at i' fun o q => (sb.2 _ D.i1z).trans q, Wy.it_at j' fun o q => (sb.2 _ D.i2z).trans q⟩, fun c hcm => ?_⟩
    obtain ⟨o1, e1, _⟩ := Wy.it_ob hi
    obtain ⟨o2, e2, _⟩ := Wy.it_ob hj
    have clt : c < s.heap.objs.size := by
      rcases five hcm with rfl | rfl | rfl | rfl | rfl
      · exact zlt
      · exact Heap.lt_size hti
      · exact Heap.lt_size htu
      · exact Heap.lt_size e1
      · exact Heap.lt_size e2
    rw [upd_ne (Nat.ne_of_lt clt)]
    exact (hf c hcm).1
  done := by
    intro X hP hw hK hc n pins s σ H E I hf st hg
    subst hP hw hK
    obtain ⟨hz, hti, ⟨x0, y0, htu⟩, hi, hj⟩ := st
    obtain ⟨xs, ys, hqx, hqy, fin⟩ := hg
    obtain ⟨its, rv, pa⟩ := Wy.inv I hqx
    obtain ⟨its2, rv2, pb⟩ := Wy.inv I hqy
    have l1 := rv.length
    have l2 := rv2.length
    have no : its.toArray[n]? = none ∨ its2.toArray[n]? = none := by
      rcases fin with q | q
      · exact .inl (by rw [List.getElem?_toArray]; exact List.getElem?_eq_none (by omega))
      · exact .inr (by rw [List.getElem?_toArray]; exact List.getElem?_eq_none (by omega))
    refine zipw_done (I.ok.hd hc) D hz hti htu hi hj pa pb no fun h' hk => ⟨rfl, I.turnedL (t' := s.toks) (ch := [z, ti, tu, i, j]) (fun c o hb q => ?_) hf⟩
    exact hk c o (fun q' => hb (by simp [q'])) (fun q' => hb (by simp [q'])) (fun q' => hb (by simp [q'])) (fun q' => hb (by simp [q'])) q
  self := fun A i s Q E st h => wpAny_pyIter_zip st.1 h
def iZipW (K : PySem.W.Frag) (ta : TA) : TI := fun σ H R => ta σ H fun vs H1 => ∃ k k' a b xs ys, vs = [.ref a, .ref b] ∧ Wy.of K k H1 a xs ∧ Wy.of K k' H1 b ys ∧ R (Itw K k k' a b) H1
theorem pi_zipW {X : Cx} {K : PySem.W.Frag} (hK : X.K = K) {e e2 : Expr} {ta : TA} {p pos tpos : Pos} {elts : List Expr} {kk : Nat} (hg : Gl X "zip") (hm : X.mg "zip" = none) (ha : PA X [e, e2] ta)
    (hs : starEach [e, e2] X.env = (false, eval e X.env) :: starEach [e2] X.env := by rfl) (hpl : (backTo pos (starEach [e2] X.env)).any (·.1) = false := by rfl) :
    PI X (.Tuple elts kk tpos) (.Call (.Name "zip" p) [e, e2] [] pos) (iZipW K ta) := by
  subst hK
  refine ⟨fun pins s σ H R I h => Call_ (ld_blt I hg hm PyProof.Rows.boot_zip (PyProof.Rows.callWith_type1 (thn (ha.run pos pins s σ H _ I h) fun us s1 ⟨vs, H1, I1, r1, q1⟩ => ?_) hs hpl))⟩
  obtain ⟨k, k', a, b, xs, ys, ex, hqx, hqy, q⟩ := q1
  subst ex
  cases r1 with
  | cons r rr =>
    cases rr with
    | cons r' rr =>
      cases rr
      cases r
      cases r'
      obtain ⟨its, rv, pa⟩ := Wy.inv I1 hqx
      obtain ⟨its2, rv2, pb⟩ := Wy.inv I1 hqy
      have la : a < s1.heap.objs.size := by
        cases k <;> exact let ⟨o, e, _⟩ := pa; Heap.lt_size e
      have lb : b < s1.heap.objs.size := by
        cases k' <;> exact let ⟨o, e, _⟩ := pb; Heap.lt_size e
      refine call_zipw pa pb fun h' hz hti htu hi hj hk => wpAny_pyIter_zip hz ?_
      have I2 : Inv X pins σ H1 { s1 with heap := h' } := I1.kept (t' := s1.toks) hk
      refine ⟨s1.heap.objs.size + 4, [s1.heap.objs.size + 4, s1.heap.objs.size + 2, s1.heap.objs.size + 3, s1.heap.objs.size, s1.heap.objs.size + 1], _, _, H1, rfl, I2, turn_zipw (PySem.W.ktu_apart s1.heap.objs.size a b la lb), ⟨hz, hti, ⟨_, _, htu⟩, hi, hj⟩, fun c hcm => ?_, q⟩
      have hle : s1.heap.objs.size ≤ c := by
        rcases five hcm with rfl | rfl | rfl | rfl | rfl
        · exact Nat.le_add_right _ _
        · exact Nat.le_add_right _ _
        · exact Nat.le_add_right _ _
        · exact Nat.le_refl _
        · exact Nat.le_add_right _ _
      exact I1.fpOk hle (I1.hok.fresh hle)
/-- over pairs of two of one length that the block leaves as they are -/
theorem lc_zipw {K : PySem.W.Frag} {k k' : Wy} {a b : Addr} {xs ys : List V} {g : TG} {tt : TT} {te : TE} {vs : List Nat} {σ : L2.St} {H1 : Hp} {D : Addr} {Qd : Hp → Prop} (hl : xs.length = ys.length) (Pv : Nat → Hp → Prop) (h0 : Pv 0 (upd H1 D (.lst [])))
    (hq : ∀ n H, Pv n H → k.of K H a xs ∧ k'.of K H b ys)
    (hs : ∀ n x y p H, xs[n]? = some x → ys[n]? = some y → Pv n H → H p = none → g (.ref p) (wipe σ vs) (upd H p (.tup [x, y])) fun σ2 H2 => wipe σ2 vs = wipe σ vs ∧ tt σ2 H2 fun c H3 =>
      if c = true then te σ2 H3 fun y H4 => ∃ acc, H4 D = some (.lst acc) ∧ acc.length < sizeLine ∧ Pv (n + 1) (upd H4 D (.lst (acc ++ [y]))) else Pv (n + 1) H3) (hd : ∀ H, Pv xs.length H → Qd H) :
    ∃ W : Nat → Nat → Hp → Prop, (∃ m, W 0 m (upd H1 D (.lst []))) ∧ ∀ n m H, W n m H →
      ((Itw K k k' a b).stop n H ∧ Qd H) ∨ ((Itw K k k' a b).go n H ∧ ∃ Nx : Hp → Prop, (∀ H', Nx H' → ∃ m', m' < m ∧ W (n + 1) m' H') ∧ ∀ x H', (Itw K k k' a b).yld n H x H' → g x (wipe σ vs) H' fun σ2 H2 => wipe σ2 vs = wipe σ vs ∧ tt σ2 H2 fun c H3 =>
        if c = true then te σ2 H3 fun y H4 => ∃ acc, H4 D = some (.lst acc) ∧ acc.length < sizeLine ∧ Nx (upd H4 D (.lst (acc ++ [y]))) else Nx H3) := by
  refine ⟨fun n m H => m = xs.length - n ∧ n ≤ xs.length ∧ Pv n H, ⟨xs.length, rfl, Nat.zero_le _, h0⟩, ?_⟩
  rintro n m H ⟨rfl, hn, pv⟩
  obtain ⟨qx, qy⟩ := hq n H pv
  by_cases lt : n < xs.length
  · refine .inr ⟨⟨xs, ys, _, _, qx, qy, List.getElem?_eq_getElem lt, List.getElem?_eq_getElem (by omega)⟩, Pv (n + 1), fun H' p' => ⟨xs.length - (n + 1), by omega, rfl, lt, p'⟩, fun v H' yv => ?_⟩
    obtain ⟨p, x, y, rfl, np, rfl, f1, f2⟩ := yv
    exact hs n x y p H (f1 xs qx) (f2 ys qy) pv np
  · have e : n = xs.length := by omega
    subst e
    exact .inl ⟨⟨xs, ys, qx, qy, .inl (Nat.le_refl _)⟩, hd H pv⟩

/-! ### how many choices there are -/
def cntP (bs : List Pre) (r : Int) : Int := (((bs.filter fun p => decide (p.2 = r)).length : Nat) : Int)
theorem cntP_app (a b : List Pre) (r : Int) : cntP (a ++ b) r = cntP a r + cntP b r := by
  unfold cntP
  rw [List.filter_append, List.length_append]
  omega
theorem cntP_cons (p : Pre) (b : List Pre) (r : Int) : cntP (p :: b) r = (if p.2 = r then 1 else 0) + cntP b r := by
  unfold cntP
  rw [List.filter_cons]
  by_cases c : p.2 = r
  · rw [if_pos (decide_eq_true c), if_pos c, List.length_cons]
    omega
  · rw [if_neg (by rw [decide_eq_false c]; exact Bool.false_ne_true), if_neg c]
    omega
theorem sm_at (x r : Int) : ∀ n : Nat, sm (fun k => if x = r + k then 1 else 0) n = if r ≤ x ∧ x < r + n then 1 else 0
  | 0 => by
    rw [if_neg (by omega)]
    rfl
  | n + 1 => by
    show sm _ n + (if x = r + (n : Int) then 1 else 0) = _
    rw [sm_at x r n]
    by_cases c : x = r + (n : Int)
    · rw [if_pos c, if_neg (by omega), if_pos (by omega)]
      rfl
    · rw [if_neg c, Int.add_zero]
      by_cases c2 : r ≤ x ∧ x < r + (n : Int)
      · rw [if_pos c2, if_pos (by omega)]
      · rw [if_neg c2, if_neg (by omega)]
theorem rg_count (x r hi : Int) : ∀ (n : Nat) (lo : Int), (hi - lo).toNat = n → cntP ((rgI lo hi).map fun c => (([], x - c) : Pre)) r = if lo ≤ x - r ∧ x - r < hi then 1 else 0
  | 0, lo, h => by
    rw [rg_nil (by omega), if_neg (by omega)]
    rfl
  | n + 1, lo, h => by
    rw [rg_cons (by omega), List.map_cons, cntP_cons, rg_count x r hi n (lo + 1) (by omega)]
    by_cases c : x - lo = r
    · rw [if_pos c, if_neg (by omega), if_pos (by omega)]
      rfl
    · rw [if_neg c, Int.zero_add]
      by_cases c2 : lo + 1 ≤ x - r ∧ x - r < hi
      · rw [if_pos c2, if_pos (by omega)]
      · rw [if_neg c2, if_neg (by omega)]
theorem cntP_snd {bs cs : List Pre} (h : bs.map (·.2) = cs.map (·.2)) (r : Int) : cntP bs r = cntP cs r := by
  have e : ∀ l : List Pre, cntP l r = ((((l.map (·.2)).filter fun x => decide (x = r)).length : Nat) : Int) := fun l => by
    unfold cntP
    rw [List.filter_map, List.length_map]
    rfl
  rw [e, e, h]
theorem item_count {l : Int} (hl : 0 ≤ l) (p : Pre) (hp : 0 ≤ p.2) {r : Int} (hr : 0 ≤ r) : cntP (lItem l p) r = sm (fun k => if p.2 = r + k then 1 else 0) (l.toNat + 1) := by
  have e : cntP (lItem l p) r = cntP ((rgI 0 (mn2 l p.2 + 1)).map fun c => (([], p.2 - c) : Pre)) r := cntP_snd (by
    unfold lItem
    rw [List.map_map, List.map_map]
    rfl) r
  rw [e, rg_count _ _ _ _ _ rfl, sm_at]
  obtain ⟨a, b, c⟩ := mn2_b (l := l) (x := p.2)
  by_cases z : 0 ≤ p.2 - r ∧ p.2 - r < mn2 l p.2 + 1
  · rw [if_pos z, if_pos (by omega)]
  · rw [if_neg z, if_neg (by omega)]
theorem step_count {l : Int} (hl : 0 ≤ l) {r : Int} (hr : 0 ≤ r) : ∀ bs : List Pre, (∀ p ∈ bs, 0 ≤ p.2) → cntP (lStep l bs) r = sm (fun k => cntP bs (r + k)) (l.toNat + 1)
  | [], _ => by
    rw [sm_nil _ (fun k => cntP [] (r + k)) fun _ _ _ => rfl]
    rfl
  | p :: b, h => by
    have ih := step_count hl hr b fun q hq => h q (List.mem_cons_of_mem _ hq)
    have e : lStep l (p :: b) = lItem l p ++ lStep l b := rfl
    rw [e, cntP_app, item_count hl p (h p List.mem_cons_self) hr, ih, ← sm_add]
    exact sm_congr _ fun k _ _ => (cntP_cons p b _).symm
theorem all_count {t : Int} (ht : 0 ≤ t) : ∀ ls : List Int, (∀ l ∈ ls, 0 ≤ l) → ∀ r, 0 ≤ r → cntP (lAll ls t) r = wAll ls (t - r) := by
  intro ls
  refine rev_ind2 (P := fun ls => (∀ l ∈ ls, 0 ≤ l) → ∀ r, 0 ≤ r → cntP (lAll ls t) r = wAll ls (t - r)) (fun _ r hr => ?_) (fun xs x ih h r hr => ?_) ls
  · show cntP [(([], t) : Pre)] r = w0 (t - r)
    rw [cntP_cons]
    unfold w0
    by_cases c : t = r
    · rw [if_pos c, if_pos (by omega)]
      rfl
    · rw [if_neg c, if_neg (by omega)]
      rfl
  · rw [lAll_snoc, step_count (h x (List.mem_append_right _ List.mem_cons_self)) hr _ (all_left ht _), wAll_snoc]
    unfold wstep
    refine sm_congr _ fun k hk _ => ?_
    rw [ih (fun l hl => h l (List.mem_append_left _ hl)) (r + k) (by omega)]
    exact congrArg _ (by omega)
/-- as many as there are ways -/
theorem due_len {t : Int} (ht : 0 ≤ t) {ls : List Int} (h : ∀ l ∈ ls, 0 ≤ l) : (((due ls t).length : Nat) : Int) = wAll ls t := by
  have a := all_count ht ls h 0 (Int.le_refl _)
  unfold due
  rw [List.length_map]
  rw [show t - 0 = t by omega] at a
  exact a
/-- each has a count of each row, none of them too great -/
theorem due_fit {t : Int} (ht : 0 ≤ t) {ls : List Int} (h : ∀ l ∈ ls, 0 ≤ l) : ∀ c ∈ due ls t, c.length = ls.length ∧ ∀ (i : Nat) (z l : Int), c[i]? = some z → ls[i]? = some l → 0 ≤ z ∧ z ≤ l := by
  have all : ∀ (ls : List Int), (∀ l ∈ ls, 0 ≤ l) → ∀ p ∈ lAll ls t, ∀ (i : Nat) (z l : Int), p.1[i]? = some z → ls[i]? = some l → 0 ≤ z ∧ z ≤ l := by
    intro ls
    refine rev_ind2 (P := fun ls => (∀ l ∈ ls, 0 ≤ l) → ∀ p ∈ lAll ls t, ∀ (i : Nat) (z l : Int), p.1[i]? = some z → ls[i]? = some l → 0 ≤ z ∧ z ≤ l) (fun _ p hp i z l _ e => ?_) (fun xs x ih h p hp i z l ez el => ?_) ls
    · rw [List.getElem?_nil] at e
      cases e
    · rw [lAll_snoc] at hp
      unfold lStep at hp
      obtain ⟨q, hq, hpq⟩ := List.mem_flatten.mp hp
      obtain ⟨r, hr, rfl⟩ := List.mem_map.mp hq
      unfold lItem at hpq
      obtain ⟨c, hc, rfl⟩ := List.mem_map.mp hpq
      have hc := mem_rg.mp hc
      have lr := all_len t xs r hr
      have ez : (r.1 ++ [c])[i]? = some z := ez
      by_cases k : i < xs.length
      · rw [List.getElem?_append_left (by omega)] at ez el
        exact ih (fun l hl => h l (List.mem_append_left _ hl)) r hr i z l ez el
      · rw [List.getElem?_append_right (by omega)] at ez el
        have ei : i - xs.length = 0 := by
          have := (List.getElem?_eq_some_iff.mp el).1
          rw [List.length_singleton] at this
          omega
        rw [ei] at el
        rw [lr, ei] at ez
        cases el
        cases ez
        obtain ⟨a, b, _⟩ := mn2_b (l := x) (x := r.2)
        omega
  intro c hc
  unfold due at hc
  obtain ⟨p, hp, rfl⟩ := List.mem_map.mp hc
  have hp := (List.mem_filter.mp hp).1
  exact ⟨all_len t ls p hp, all ls h p hp⟩

/-! ### the marks of a choice of counts -/
def one1 (p : List Int × Int) : List Int := if 0 < p.2 then [p.1.getD (p.2 - 1).toNat 0] else []
def mAt (rows : List (List Int)) (cs : List Int) : List Int := (rows.zip cs).flatMap one1
theorem one1_len (p : List Int × Int) : (one1 p).length ≤ 1 := by
  unfold one1
  split
  · exact Nat.le_refl _
  · exact Nat.zero_le _
theorem ones_flat : ∀ l : List (List Int × Int), (l.flatMap one1).length ≤ l.length
  | [] => Nat.zero_le _
  | p :: r => by
    have a := one1_len p
    have b := ones_flat r
    rw [List.flatMap_cons, List.length_append, List.length_cons]
    omega
theorem mAt_len (rows : List (List Int)) (cs : List Int) : (mAt rows cs).length ≤ rows.length := by
  refine Nat.le_trans (ones_flat _) ?_
  rw [List.length_zip]
  exact Nat.min_le_left _ _
theorem getD_mem2 {l : List Int} {i : Nat} (h : i < l.length) : l.getD i 0 ∈ l := by
  rw [List.getD_eq_getElem?_getD, List.getElem?_eq_getElem h]
  exact List.getElem_mem h
/-- what counts fit to rows -/
def CFit (rows : List (List Int)) (cs : List Int) : Prop := cs.length = rows.length ∧ ∀ (i : Nat) (z : Int) (r : List Int), cs[i]? = some z → rows[i]? = some r → 0 ≤ z ∧ z ≤ (r.length : Int)
theorem mAt_mem {rows : List (List Int)} {cs : List Int} (h : CFit rows cs) {P : Int → Prop} (p : ∀ r ∈ rows, ∀ x ∈ r, P x) : ∀ x ∈ mAt rows cs, P x := fun x hx => by
  unfold mAt at hx
  obtain ⟨q, hq, hx⟩ := List.mem_flatMap.mp hx
  obtain ⟨i, hi, e⟩ := List.getElem_of_mem hq
  rw [List.length_zip] at hi
  rw [List.getElem_zip] at e
  have hr : rows[i]? = some q.1 := by
    rw [← e]
    exact List.getElem?_eq_getElem (by omega)
  have hc : cs[i]? = some q.2 := by
    rw [← e]
    exact List.getElem?_eq_getElem (by omega)
  obtain ⟨a, b⟩ := h.2 i _ _ hc hr
  unfold one1 at hx
  split at hx
  · rw [List.mem_singleton.mp hx]
    exact p q.1 (List.mem_of_getElem? hr) _ (getD_mem2 (by omega))
  · cases hx
def spAt : Sp := fun vs H Q _ => ∃ (a b : Addr) (rs : List V) (rows : List (List Int)) (cs : List Int), vs = [.ref a, .ref b] ∧ H a = some (.lst rs) ∧ TpAll H rs (rows.map tI) ∧ H b = some (.tup (cs.map V.int)) ∧ CFit rows cs ∧ rows.length ≤ 1000 ∧
  ∀ H' q, Same H H' → H' q = some (.tup ((mAt rows cs).map V.int)) → Q (.ref q) H'
section
variable {K : PySem.W.Frag} {H : Hp} {a b D : Addr} {rs : List V} {rows : List (List Int)} {cs : List Int}
/-- what both walks have -/
theorem at_get {i : Nat} {x y : V} (ta : TpAll H rs (rows.map tI)) (hx : rs[i]? = some x) (hy : (cs.map V.int)[i]? = some y) : ∃ p r z, x = .ref p ∧ y = .int z ∧ rows[i]? = some r ∧ cs[i]? = some z ∧ H p = some (.tup (r.map V.int)) := by
  obtain ⟨z, rfl, hz⟩ := int_at hy
  have hi : i < rows.length := by
    have := ta.len
    rw [List.length_map] at this
    rw [← this]
    exact (List.getElem?_eq_some_iff.mp hx).1
  have hr0 : rows[i]? = some rows[i] := List.getElem?_eq_getElem hi
  obtain ⟨v, hv, tv⟩ := ta.get (show (rows.map tI)[i]? = some (tI rows[i]) by rw [List.getElem?_map, hr0]; rfl)
  rw [hx] at hv
  cases hv
  obtain ⟨p, rfl, hp⟩ := tp_row tv
  exact ⟨p, _, z, rfl, rfl, hr0, hz, hp⟩
theorem at_zip {i : Nat} {r : List Int} {z : Int} (hr : rows[i]? = some r) (hz : cs[i]? = some z) : (rows.zip cs)[i]? = some (r, z) := by
  rw [List.getElem?_zip_eq_some]
  exact ⟨hr, hz⟩
end
section
variable {P : Program} {w : World} {K : PySem.W.Frag} {mg : Str → Option Value} {base : Heap}
theorem has_marksAt {cs : Nat → Addr} (T : Top K mg cs) : Has P w K mg base 1 "_marks_at" ["rows", "counts"] spAt := by
  refine has_of T.d__marks_at sc__marks_at bd__marks_at (fun vs H Q E h => ?_) (fun f cdv A outer s H vs Q E hr h => ?_)
  · obtain ⟨a, b, rs, rows, cs, rfl, _⟩ := h
    rfl
  · have hu := hu_of hr
    have nd := sc__marks_at.nd
    obtain ⟨a, b, rs, rows, cs, rfl, ha, ta, hb, fit, few, k⟩ := h
    refine ⟨_, (pss_one (ps_ret (pe_callTy call_tuple_of (by rfl) T.b_tuple (by decide +kernel) (pa_cons (pe_lc (own := [("row", 2), ("count", 3)]) (by rfl) nd (pi_zipW (K := K) rfl (by rfl) T.b_zip (pa_cons (pv 0) (pa_cons (pv 1) pa_nil))) (blkOk_by (own := [("row", 2), ("count", 3)]) (N := nm__marks_at) (sc := defScope s__marks_at) (by decide +kernel)) (fun _ _ _ _ _ => pg_tupK (K := K) (n := 2) rfl (by rfl) (pgs_cons (pg_name (i := 2) nd rfl (.inl rfl)) (pgs_cons (pg_name (i := 3) nd rfl (.inl rfl)) pgs_nil))) (fun _ _ _ _ _ => pts_one (pt_cmpR op_gt (pv 3) pe_int (nomark _))) (fun _ _ _ _ _ => (pe_ix (ix_tupK (K := K) rfl) (pv 2) (pe_op op_sub (pv 3) pe_int) (fun _ _ => rfl)))) pa_nil)))), ?_⟩
    have line : (5000000 : Nat) < sizeLine := by decide
    have la := ta.len
    rw [List.length_map] at la
    refine ⟨_, rfl, _, rfl, .ls, .tp, a, b, rs, cs.map V.int, rfl, SqL.of ha, SqT.of hb, fun D hD => lc_zipw (by rw [List.length_map, fit.1, la]) (fun n H' => TpT H H' D ((((rows.zip cs).take n).flatMap one1).map PyData.int)) (TpT.new hD) (fun n H' z => ⟨SqL.of (z.s _ _ ha), SqT.of (z.s _ _ hb)⟩) (fun n x y p H' hx hy z np => ?_) (fun H' z => ?_)⟩
    · obtain ⟨r, rw', c, rfl, rfl, hr0, hc0, hr⟩ := at_get (ta.kt (KT.same z.s)) hx hy
      obtain ⟨c0, c1⟩ := fit.2 n _ _ hc0 hr0
      have s1 : Same H' (upd H' p (.tup [.ref r, .int c])) := same_new np
      have ez : ((rows.zip cs).take (n + 1)).flatMap one1 = ((rows.zip cs).take n).flatMap one1 ++ one1 (rw', c) := by
        rw [List.take_add_one, at_zip hr0 hc0, List.flatMap_append]
        show _ ++ ([(rw', c)]).flatMap one1 = _
        rw [List.flatMap_cons, List.flatMap_nil, List.append_nil]
      rw [ez]
      refine ⟨p, _, rfl, SqT.of upd_same, rfl, _, _, rfl, _, _, rfl, rfl, rfl, _, rfl, _, _, rfl, rfl, _, rfl, ?_⟩
      by_cases c2 : 0 < c
      · rw [show one1 (rw', c) = [rw'.getD (c - 1).toNat 0] from if_pos c2]
        refine iteTd c2 ⟨_, rfl, _, rfl, _, _, rfl, rfl, r, _, _, _, rfl, rfl, SqT.of (s1 _ _ hr), at_of (j := (c - 1).toNat) (by omega) (by rw [List.getElem?_map, List.getElem?_eq_getElem (by omega)]; rfl), ?_⟩
        rw [List.map_append]
        refine z.put hD s1 ?_ ?_
        · have := ones_flat ((rows.zip cs).take n)
          have := List.length_take_le' n (rows.zip cs)
          have l3 : (rows.zip cs).length ≤ rows.length := by
            rw [List.length_zip]
            exact Nat.min_le_left _ _
          rw [List.length_map]
          omega
        · rw [List.getD_eq_getElem?_getD, List.getElem?_eq_getElem (by omega : (c - 1).toNat < rw'.length)]
          exact .int _
      · rw [show one1 (rw', c) = [] from if_neg c2]
        refine iteFd c2 ?_
        rw [List.append_nil]
        exact ⟨z.s.trans s1, by obtain ⟨ys, e, r⟩ := z.ex; exact ⟨ys, s1 _ _ e, r.kt (KT.same s1)⟩⟩
    · rw [show rs.length = (rows.zip cs).length by rw [List.length_zip, fit.1, la, Nat.min_self], List.take_length] at z
      obtain ⟨ys, hD', tD⟩ := z.ex
      rw [tpall_inv tD] at hD'
      exact ⟨D, _, rfl, .inl ⟨SqL.of hD', fun r nr => k _ r (z.s.trans (same_new nr)) upd_same⟩⟩
theorem has_lat {cs : Nat → Addr} (T : Top K mg cs) : Has P w K mg base 1 "_law_at" ["_law_rows_here", "_law_counts"] spAt := by
  refine has_of T.d__law_at sc__law_at bd__law_at (fun vs H Q E h => ?_) (fun f cdv A outer s H vs Q E hr h => ?_)
  · obtain ⟨a, b, rs, rows, cs, rfl, _⟩ := h
    rfl
  · have hu := hu_of hr
    have nd := sc__law_at.nd
    obtain ⟨a, b, rs, rows, cs, rfl, ha, ta, hb, fit, few, k⟩ := h
    refine ⟨_, (pss_one (ps_ret (pe_callTy call_tuple_of (by rfl) T.b_tuple (by decide +kernel) (pa_cons (pe_lc (own := [("_law_row", 2), ("_law_count", 3)]) (by rfl) nd (pi_zipW (K := K) rfl (by rfl) T.b_zip (pa_cons (pv 0) (pa_cons (pv 1) pa_nil))) (blkOk_by (own := [("_law_row", 2), ("_law_count", 3)]) (N := nm__law_at) (sc := defScope s__law_at) (by decide +kernel)) (fun _ _ _ _ _ => pg_tupK (K := K) (n := 2) rfl (by rfl) (pgs_cons (pg_name (i := 2) nd rfl (.inl rfl)) (pgs_cons (pg_name (i := 3) nd rfl (.inl rfl)) pgs_nil))) (fun _ _ _ _ _ => pts_one (pt_cmpR op_gt (pv 3) pe_int (nomark _))) (fun _ _ _ _ _ => (pe_ix (ix_tupK (K := K) rfl) (pv 2) (pe_op op_sub (pv 3) pe_int) (fun _ _ => rfl)))) pa_nil)))), ?_⟩
    have line : (5000000 : Nat) < sizeLine := by decide
    have la := ta.len
    rw [List.length_map] at la
    refine ⟨_, rfl, _, rfl, .ls, .tp, a, b, rs, cs.map V.int, rfl, SqL.of ha, SqT.of hb, fun D hD => lc_zipw (by rw [List.length_map, fit.1, la]) (fun n H' => TpT H H' D ((((rows.zip cs).take n).flatMap one1).map PyData.int)) (TpT.new hD) (fun n H' z => ⟨SqL.of (z.s _ _ ha), SqT.of (z.s _ _ hb)⟩) (fun n x y p H' hx hy z np => ?_) (fun H' z => ?_)⟩
    · obtain ⟨r, rw', c, rfl, rfl, hr0, hc0, hr⟩ := at_get (ta.kt (KT.same z.s)) hx hy
      obtain ⟨c0, c1⟩ := fit.2 n _ _ hc0 hr0
      have s1 : Same H' (upd H' p (.tup [.ref r, .int c])) := same_new np
      have ez : ((rows.zip cs).take (n + 1)).flatMap one1 = ((rows.zip cs).take n).flatMap one1 ++ one1 (rw', c) := by
        rw [List.take_add_one, at_zip hr0 hc0, List.flatMap_append]
        show _ ++ ([(rw', c)]).flatMap one1 = _
        rw [List.flatMap_cons, List.flatMap_nil, List.append_nil]
      rw [ez]
      refine ⟨p, _, rfl, SqT.of upd_same, rfl, _, _, rfl, _, _, rfl, rfl, rfl, _, rfl, _, _, rfl, rfl, _, rfl, ?_⟩
      by_cases c2 : 0 < c
      · rw [show one1 (rw', c) = [rw'.getD (c - 1).toNat 0] from if_pos c2]
        refine iteTd c2 ⟨_, rfl, _, rfl, _, _, rfl, rfl, r, _, _, _, rfl, rfl, SqT.of (s1 _ _ hr), at_of (j := (c - 1).toNat) (by omega) (by rw [List.getElem?_map, List.getElem?_eq_getElem (by omega)]; rfl), ?_⟩
        rw [List.map_append]
        refine z.put hD s1 ?_ ?_
        · have := ones_flat ((rows.zip cs).take n)
          have := List.length_take_le' n (rows.zip cs)
          have l3 : (rows.zip cs).length ≤ rows.length := by
            rw [List.length_zip]
            exact Nat.min_le_left _ _
          rw [List.length_map]
          omega
        · rw [List.getD_eq_getElem?_getD, List.getElem?_eq_getElem (by omega : (c - 1).toNat < rw'.length)]
          exact .int _
      · rw [show one1 (rw', c) = [] from if_neg c2]
        refine iteFd c2 ?_
        rw [List.append_nil]
        exact ⟨z.s.trans s1, by obtain ⟨ys, e, r⟩ := z.ex; exact ⟨ys, s1 _ _ e, r.kt (KT.same s1)⟩⟩
    · rw [show rs.length = (rows.zip cs).length by rw [List.length_zip, fit.1, la, Nat.min_self], List.take_length] at z
      obtain ⟨ys, hD', tD⟩ := z.ex
      rw [tpall_inv tD] at hD'
      exact ⟨D, _, rfl, .inl ⟨SqL.of hD', fun r nr => k _ r (z.s.trans (same_new nr)) upd_same⟩⟩
end

/-! ### choices of counts by the first row -/
def preP (p : List Int) (q : Pre) : Pre := (p ++ q.1, q.2)
theorem item_pre (l : Int) (p : List Int) (q : Pre) : lItem l (preP p q) = (lItem l q).map (preP p) := by
  unfold lItem
  rw [List.map_map]
  show (rgI 0 (mn2 l q.2 + 1)).map (ext (p ++ q.1, q.2)) = _
  refine List.map_congr_left fun c _ => ?_
  show ((p ++ q.1) ++ [c], q.2 - c) = (p ++ (q.1 ++ [c]), q.2 - c)
  rw [List.append_assoc]
theorem step_flat (l : Int) (bs : List Pre) : lStep l bs = bs.flatMap (lItem l) := (List.flatMap_def ..).symm
theorem fold_from (bs : List Pre) : ∀ ls : List Int, ls.foldl (fun bs l => lStep l bs) bs = bs.flatMap fun p => (lAll ls p.2).map (preP p.1) := by
  intro ls
  refine rev_ind2 (P := fun ls => ls.foldl (fun bs l => lStep l bs) bs = bs.flatMap fun p => (lAll ls p.2).map (preP p.1)) ?_ (fun xs x ih => ?_) ls
  · show bs = bs.flatMap fun p => [((p.1 ++ [], p.2) : Pre)]
    induction bs with
    | nil => rfl
    | cons b r ih =>
      rw [List.flatMap_cons, List.append_nil, ← ih]
      rfl
  · rw [List.foldl_append, ih]
    show lStep x _ = _
    rw [step_flat, List.flatMap_assoc]
    congr 1
    funext p
    rw [lAll_snoc, step_flat, List.map_flatMap, List.flatMap_map]
    congr 1
    funext q
    exact item_pre x p.1 q
theorem due_cons (l : Int) (ls : List Int) (t : Int) : due (l :: ls) t = (rgI 0 (mn2 l t + 1)).flatMap fun c => (due ls (t - c)).map (c :: ·) := by
  have e : lAll (l :: ls) t = ((rgI 0 (mn2 l t + 1)).map fun c => (([c], t - c) : Pre)).flatMap fun p => (lAll ls p.2).map (preP p.1) := by
    show ls.foldl (fun bs l => lStep l bs) (lStep l [([], t)]) = _
    rw [fold_from]
    congr 1
    rw [step_flat, List.flatMap_cons, List.flatMap_nil, List.append_nil]
    rfl
  unfold due
  rw [e, List.filter_flatMap, List.map_flatMap, List.flatMap_map]
  congr 1
  funext c
  rw [List.filter_map, List.map_map, List.map_map]
  rfl
theorem due_nil (t : Int) : due [] t = if t = 0 then [[]] else [] := by
  show ((([([], t)] : List Pre).filter fun p => decide (p.2 = 0)).map (·.1)) = _
  rw [List.filter_cons]
  by_cases c : t = 0
  · rw [if_pos (decide_eq_true c), if_pos c]
    rfl
  · rw [if_neg (by rw [decide_eq_false c]; exact Bool.false_ne_true), if_neg c]
    rfl
theorem due_neg {t : Int} (h : t < 0) : ∀ ls : List Int, due ls t = []
  | [] => by rw [due_nil, if_neg (by omega)]
  | l :: r => by
    have := (mn2_b (l := l) (x := t)).2.1
    rw [due_cons, rg_nil (by omega)]
    rfl
theorem due_over {ls : List Int} {t : Int} (p : ∀ l ∈ ls, 0 ≤ l) (h : ls.sum < t) : due ls t = [] := by
  have s := (tall_all ls p)
  by_cases c : t < 0
  · exact due_neg c ls
  · have e := due_len (by omega) p (t := t)
    rw [s.hi t h] at e
    exact List.length_eq_zero_iff.mp (by omega)
theorem rg_flat {α : Type} (H : Int → List α) (a b hi : Int) (hb : b ≤ hi) (no : ∀ d, ¬ (a ≤ d ∧ d < b) → H d = []) : ∀ (n : Nat) (lo : Int), (hi - lo).toNat = n → (rgI lo hi).flatMap H = (rgI (if lo < a then a else lo) b).flatMap H
  | 0, lo, h => by
    rw [rg_nil (by omega), rg_nil (by split <;> omega)]
  | n + 1, lo, h => by
    rw [rg_cons (by omega), List.flatMap_cons, rg_flat H a b hi hb no n (lo + 1) (by omega)]
    by_cases c : lo < a
    · rw [if_pos c, no lo (by omega), List.nil_append]
      by_cases c2 : lo + 1 < a
      · rw [if_pos c2]
      · rw [if_neg c2, show lo + 1 = a by omega]
    · rw [if_neg c, if_neg (by omega : ¬ lo + 1 < a)]
      by_cases c2 : lo < b
      · rw [rg_cons c2, List.flatMap_cons]
      · rw [no lo (by omega), rg_nil (by omega), rg_nil (by omega)]
        rfl
/-- what is left of each row -/
def cmpl (ls c : List Int) : List Int := List.zipWith (fun a b => a - b) ls c
theorem rg_turn (l : Int) : ∀ (n : Nat) (k : Int), k.toNat = n → ((rgI 0 k).reverse.map fun c => l - c) = rgI (l - k + 1) (l + 1)
  | 0, k, h => by
    rw [rg_nil (by omega), rg_nil (by omega)]
    rfl
  | n + 1, k, h => by
    have e : rgI 0 k = rgI 0 (k - 1) ++ [k - 1] := by
      unfold rgI
      rw [show (k - 0).toNat = (k - 1 - 0).toNat + 1 by omega, List.range_succ, List.map_append]
      congr 1
      show [0 + (((k - 1 - 0).toNat : Nat) : Int)] = [k - 1]
      congr 1
      omega
    rw [e, List.reverse_append, List.map_append, rg_turn l n (k - 1) (by omega), rg_cons (by omega : l - k + 1 < l + 1)]
    show [l - (k - 1)] ++ _ = _
    rw [show l - (k - 1) = l - k + 1 by omega]
    rfl
theorem due_turn : ∀ (ls : List Int) (t : Int), 0 ≤ t → (∀ l ∈ ls, 0 ≤ l) → due ls (ls.sum - t) = ((due ls t).map (cmpl ls)).reverse
  | [], t, _, _ => by
    rw [due_nil, due_nil]
    show (if 0 - t = 0 then _ else _) = _
    by_cases c : t = 0
    · rw [if_pos (by omega), if_pos c]
      rfl
    · rw [if_neg (by omega), if_neg c]
      rfl
  | l :: r, t, ht, p => by
    have p0 := p l List.mem_cons_self
    have pr : ∀ x ∈ r, 0 ≤ x := fun x hx => p x (List.mem_cons_of_mem _ hx)
    have e1 : ((due (l :: r) t).map (cmpl (l :: r))).reverse = (rgI (l - mn2 l t) (l + 1)).flatMap fun d => (due r (r.sum + l - t - d)).map (d :: ·) := by
      rw [due_cons, List.map_flatMap, List.reverse_flatMap]
      rw [show l - mn2 l t = l - (mn2 l t + 1) + 1 by omega, ← rg_turn l _ (mn2 l t + 1) rfl, List.flatMap_map]
      rw [List.flatMap_def, List.flatMap_def]
      refine congrArg List.flatten (List.map_congr_left fun c hc => ?_)
      have hc := mem_rg.mp (List.mem_reverse.mp hc)
      have := (mn2_b (l := l) (x := t)).2.1
      show (((due r (t - c)).map (c :: ·)).map (cmpl (l :: r))).reverse = _
      rw [show r.sum + l - t - (l - c) = r.sum - (t - c) by omega, due_turn r (t - c) (by omega) pr, List.map_map, ← List.map_reverse, ← List.map_reverse, List.map_map]
      rfl
    rw [e1, due_cons, List.sum_cons]
    obtain ⟨m1, m2, m3⟩ := mn2_b (l := l) (x := t)
    obtain ⟨q1, q2, q3⟩ := mn2_b (l := l) (x := l + r.sum - t)
    have H : ∀ d : Int, (0 ≤ d → d < l - mn2 l t → (due r (r.sum + l - t - d)).map (d :: ·) = []) ∧ (mn2 l (l + r.sum - t) < d → d ≤ l → (due r (r.sum + l - t - d)).map (d :: ·) = []) := fun d => by
      refine ⟨fun h1 h2 => ?_, fun h1 h2 => ?_⟩
      · rw [due_over pr (by omega)]
        rfl
      · rw [due_neg (by omega)]
        rfl
    have a1 := rg_flat (fun d => if 0 ≤ d ∧ d ≤ l then (due r (r.sum + l - t - d)).map (d :: ·) else []) (l - mn2 l t) (l + 1) (l + 1) (Int.le_refl _) (fun d hd => by
      by_cases c : 0 ≤ d ∧ d ≤ l
      · rw [if_pos c]
        exact (H d).1 c.1 (by omega)
      · exact if_neg c) _ 0 rfl
    have a2 := rg_flat (fun d => if 0 ≤ d ∧ d ≤ l then (due r (r.sum + l - t - d)).map (d :: ·) else []) 0 (mn2 l (l + r.sum - t) + 1) (l + 1) (by omega) (fun d hd => by
      by_cases c : 0 ≤ d ∧ d ≤ l
      · rw [if_pos c]
        exact (H d).2 (by omega) c.2
      · exact if_neg c) _ 0 rfl
    have z1 : (if (0 : Int) < l - mn2 l t then l - mn2 l t else 0) = l - mn2 l t := by split <;> omega
    have z2 : (if (0 : Int) < 0 then (0 : Int) else 0) = 0 := rfl
    rw [z1] at a1
    rw [z2] at a2
    have same : ∀ lo hi : Int, 0 ≤ lo → hi ≤ l + 1 → (rgI lo hi).flatMap (fun d => if 0 ≤ d ∧ d ≤ l then (due r (r.sum + l - t - d)).map (d :: ·) else []) = (rgI lo hi).flatMap fun d => (due r (r.sum + l - t - d)).map (d :: ·) := fun lo hi h1 h2 => by
      rw [List.flatMap_def, List.flatMap_def]
      refine congrArg List.flatten (List.map_congr_left fun d hd => ?_)
      have hd := mem_rg.mp hd
      exact if_pos (by omega)
    have cm : (fun c : Int => (due r (l + r.sum - t - c)).map (c :: ·)) = fun d => (due r (r.sum + l - t - d)).map (d :: ·) := funext fun c => by rw [Int.add_comm l]
    rw [cm]
    exact (same 0 (mn2 l (l + r.sum - t) + 1) (Int.le_refl _) (by omega)).symm.trans (a2.symm.trans (a1.trans (same (l - mn2 l t) (l + 1) (by omega) (Int.le_refl _))))
/-! ### they rise, and have the total -/
def LexLt (c d : List Int) : Prop := ∃ j : Nat, (∀ i : Nat, i < j → c[i]? = d[i]?) ∧ ∃ x y, c[j]? = some x ∧ d[j]? = some y ∧ x < y
theorem rg_rises (lo hi : Int) : (rgI lo hi).Pairwise (· < ·) := by
  unfold rgI
  rw [List.pairwise_map]
  exact List.pairwise_lt_range.imp fun h => by omega
theorem due_rises : ∀ (ls : List Int) (t : Int), (due ls t).Pairwise LexLt
  | [], t => by
    rw [due_nil]
    split
    · exact List.pairwise_singleton _ _
    · exact List.Pairwise.nil
  | l :: r, t => by
    rw [due_cons, List.pairwise_flatMap]
    refine ⟨fun c _ => ?_, (rg_rises _ _).imp fun {a b} h x hx y hy => ?_⟩
    · rw [List.pairwise_map]
      refine (due_rises r (t - c)).imp fun {x y} ⟨j, e, u, v, eu, ev, lt⟩ => ⟨j + 1, fun i hi => ?_, u, v, eu, ev, lt⟩
      cases i with
      | zero => rfl
      | succ i => exact e i (by omega)
    · obtain ⟨x', _, rfl⟩ := List.mem_map.mp hx
      obtain ⟨y', _, rfl⟩ := List.mem_map.mp hy
      exact ⟨0, fun i hi => absurd hi (Nat.not_lt_zero _), a, b, rfl, rfl, h⟩
theorem due_sum : ∀ (ls : List Int) (t : Int), ∀ c ∈ due ls t, c.sum = t ∧ c.length = ls.length
  | [], t, c, hc => by
    rw [due_nil] at hc
    split at hc
    · rename_i e
      rw [List.mem_singleton.mp hc, e]
      exact ⟨rfl, rfl⟩
    · cases hc
  | l :: r, t, c, hc => by
    rw [due_cons] at hc
    obtain ⟨k, _, hc⟩ := List.mem_flatMap.mp hc
    obtain ⟨d, hd, rfl⟩ := List.mem_map.mp hc
    obtain ⟨e1, e2⟩ := due_sum r (t - k) d hd
    rw [List.sum_cons, e1, List.length_cons, List.length_cons, e2]
    exact ⟨by omega, rfl⟩
/-! ### the order of rows does not matter -/
theorem wFrom_perm {ls ks : List Int} (h : ls.Perm ks) : ∀ F, wFrom F ls = wFrom F ks := by
  induction h with
  | nil => exact fun _ => rfl
  | cons x _ ih => exact fun F => ih _
  | swap x y r =>
    intro F
    show wFrom (wstep x.toNat (wstep y.toNat F)) r = wFrom (wstep y.toNat (wstep x.toNat F)) r
    rw [wstep_comm]
  | trans _ _ a b => exact fun F => (a F).trans (b F)
theorem wAll_perm {ls ks : List Int} (h : ls.Perm ks) : wAll ls = wAll ks := wFrom_perm h w0
/-! ### how long the lists on the way are -/
def pr (ls : List Int) : Nat := ls.foldr (fun l a => (l.toNat + 1) * a) 1
theorem pr_append (a b : List Int) : pr (a ++ b) = pr a * pr b := by
  induction a with
  | nil => exact (Nat.one_mul _).symm
  | cons x r ih =>
    show (x.toNat + 1) * pr (r ++ b) = (x.toNat + 1) * pr r * pr b
    rw [ih, Nat.mul_assoc]
theorem pr_pos (ls : List Int) : 1 ≤ pr ls := by
  induction ls with
  | nil => exact Nat.le_refl _
  | cons x r ih => exact Nat.mul_pos (Nat.succ_pos _) ih
theorem pr_perm {ls ks : List Int} (h : ls.Perm ks) : pr ls = pr ks := by
  induction h with
  | nil => rfl
  | cons x _ ih =>
    show (x.toNat + 1) * _ = (x.toNat + 1) * _
    exact congrArg _ ih
  | swap x y r =>
    show (y.toNat + 1) * ((x.toNat + 1) * pr r) = (x.toNat + 1) * ((y.toNat + 1) * pr r)
    rw [← Nat.mul_assoc, ← Nat.mul_assoc, Nat.mul_comm (y.toNat + 1)]
  | trans _ _ a b => exact a.trans b
theorem all_pr (t : Int) : ∀ ls : List Int, (∀ l ∈ ls, 0 ≤ l) → (lAll ls t).length ≤ pr ls := by
  intro ls
  refine rev_ind2 (P := fun ls => (∀ l ∈ ls, 0 ≤ l) → (lAll ls t).length ≤ pr ls) (fun _ => Nat.le_refl _) (fun xs x ih h => ?_) ls
  have a := ih fun l hl => h l (List.mem_append_left _ hl)
  have hx := h x (List.mem_append_right _ List.mem_cons_self)
  have b := step_len (b := x.toNat + 1) x ⟨hx, by omega⟩ (lAll xs t)
  rw [lAll_snoc, pr_append]
  show _ ≤ pr xs * ((x.toNat + 1) * 1)
  rw [Nat.mul_one, Nat.mul_comm]
  exact Nat.le_trans b (Nat.mul_le_mul_left _ a)
theorem fine_pr {ls : List Int} {t : Int} (p : ∀ l ∈ ls, 0 ≤ l) (h : pr ls ≤ 1000000) : Fine ls t := fun i => by
  refine Nat.le_trans (all_pr t _ fun l hl => p l (List.mem_of_mem_take hl)) ?_
  have e : pr ls = pr (ls.take i) * pr (ls.drop i) := by rw [← pr_append, List.take_append_drop]
  have := Nat.mul_le_mul_left (pr (ls.take i)) (pr_pos (ls.drop i))
  omega
theorem wgt_range (m : Nat) (p : Pre) : ∀ (n : Nat) (lo hi : Int), (hi - lo).toNat = n → lo ≤ p.2 → hi ≤ p.2 + 1 → wgt m ((rgI lo hi).map (ext p)) ≤ (m + 2) ^ (p.2 - lo).toNat
  | 0, lo, hi, h, _, _ => by
    rw [rg_nil (by omega)]
    exact Nat.zero_le _
  | n + 1, lo, hi, h, h1, h2 => by
    rw [rg_cons (by omega), List.map_cons]
    have e : wgt m (ext p lo :: (rgI (lo + 1) hi).map (ext p)) = (m + 1) ^ (p.2 - lo).toNat + wgt m ((rgI (lo + 1) hi).map (ext p)) := by
      unfold wgt
      rw [List.map_cons, List.sum_cons]
      rfl
    rw [e]
    by_cases c : lo = p.2
    · rw [rg_nil (by omega), show (p.2 - lo).toNat = 0 by omega, Nat.pow_zero, Nat.pow_zero]
      exact Nat.le_refl _
    · have ih := wgt_range m p n (lo + 1) hi (by omega) (by omega) h2
      obtain ⟨s, es⟩ : ∃ s : Nat, (p.2 - lo).toNat = s + 1 := ⟨(p.2 - lo).toNat - 1, by omega⟩
      rw [show (p.2 - (lo + 1)).toNat = s by omega] at ih
      rw [es]
      have a : (m + 1) ^ s * (m + 1) ≤ (m + 2) ^ s * (m + 1) := Nat.mul_le_mul_right _ (Nat.pow_le_pow_left (by omega) s)
      rw [Nat.pow_succ, Nat.pow_succ]
      have b : (m + 2) ^ s * (m + 2) = (m + 2) ^ s * (m + 1) + (m + 2) ^ s := Nat.mul_succ _ _
      omega
theorem wgt_steps (m : Nat) (l : Int) : ∀ bs : List Pre, (∀ p ∈ bs, 0 ≤ p.2) → wgt m (lStep l bs) ≤ wgt (m + 1) bs
  | [], _ => Nat.le_refl _
  | p :: r, h => by
    have ih := wgt_steps m l r fun q hq => h q (List.mem_cons_of_mem _ hq)
    have p0 := h p List.mem_cons_self
    have q := mn2_b (l := l) (x := p.2)
    have a := wgt_range m p _ 0 (mn2 l p.2 + 1) rfl p0 (by omega)
    rw [show p.2 - 0 = p.2 by omega] at a
    have e0 : lStep l (p :: r) = lItem l p ++ lStep l r := rfl
    rw [e0, wgt_app]
    have e : wgt (m + 1) (p :: r) = (m + 2) ^ p.2.toNat + wgt (m + 1) r := by
      unfold wgt
      rw [List.map_cons, List.sum_cons]
    rw [e]
    have a : wgt m (lItem l p) ≤ (m + 2) ^ p.2.toNat := a
    omega
theorem all_pow {t : Int} (ht : 0 ≤ t) (ls : List Int) : (lAll ls t).length ≤ (ls.length + 1) ^ t.toNat := by
  have z : ∀ (ks : List Int) (m : Nat), wgt m (lAll ks t) ≤ (m + ks.length + 1) ^ t.toNat := by
    intro ks
    refine rev_ind2 (P := fun ks => ∀ m, wgt m (lAll ks t) ≤ (m + ks.length + 1) ^ t.toNat) (fun m => ?_) (fun xs x ih m => ?_) ks
    · show (m + 1) ^ t.toNat + 0 ≤ _
      exact Nat.le_refl _
    · rw [lAll_snoc]
      refine Nat.le_trans (wgt_steps m x _ (all_left ht _)) ?_
      have := ih (m + 1)
      rwa [show m + 1 + xs.length + 1 = m + (xs ++ [x]).length + 1 by rw [List.length_append, List.length_singleton]; omega] at this
  have a := z ls 0
  rw [wgt_zero] at a
  rwa [Nat.zero_add] at a
theorem fine_pow {ls : List Int} {t : Int} {n k : Nat} (ht : 0 ≤ t) (hk : t ≤ (k : Int)) (hn : ls.length ≤ n) (h : (n + 1) ^ k ≤ 1000000) : Fine ls t := fun i => by
  refine Nat.le_trans (all_pow ht _) (Nat.le_trans (Nat.le_trans (Nat.pow_le_pow_left (?_ : (ls.take i).length + 1 ≤ n + 1) _) (Nat.pow_le_pow_right (Nat.succ_pos _) (by omega : t.toNat ≤ k))) h)
  have := List.length_take_le' i ls
  omega
/-! ### few of small totals -/
theorem wst_two {F : Int → Int} (pos : ∀ t, 0 ≤ F t) (neg : ∀ t, t < 0 → F t = 0) (l : Nat) : wstep l F 0 ≤ F 0 ∧ wstep l F 1 ≤ F 1 + F 0 ∧ wstep l F 2 ≤ F 2 + F 1 + F 0 := by
  have p0 := pos 0
  have p1 := pos 1
  have p2 := pos 2
  have z : ∀ n : Nat, sm (fun k => F (0 - k)) (n + 1) ≤ F 0 ∧ (sm (fun k => F (1 - k)) (n + 1) ≤ F 1 + F 0 ∧ (n = 0 → sm (fun k => F (1 - k)) (n + 1) = F 1)) ∧ (sm (fun k => F (2 - k)) (n + 1) ≤ F 2 + F 1 + F 0 ∧ (n = 0 → sm (fun k => F (2 - k)) (n + 1) = F 2) ∧ (n = 1 → sm (fun k => F (2 - k)) (n + 1) = F 2 + F 1)) := by
    intro n
    induction n with
    | zero =>
      have a : sm (fun k => F (0 - k)) (0 + 1) = 0 + F (0 - ((0 : Nat) : Int)) := rfl
      have b : sm (fun k => F (1 - k)) (0 + 1) = 0 + F (1 - ((0 : Nat) : Int)) := rfl
      have c : sm (fun k => F (2 - k)) (0 + 1) = 0 + F (2 - ((0 : Nat) : Int)) := rfl
      rw [show (0 : Int) - ((0 : Nat) : Int) = 0 from rfl] at a
      rw [show (1 : Int) - ((0 : Nat) : Int) = 1 from rfl] at b
      rw [show (2 : Int) - ((0 : Nat) : Int) = 2 from rfl] at c
      exact ⟨by omega, ⟨by omega, fun _ => by omega⟩, by omega, fun _ => by omega, fun h => by cases h⟩
    | succ n ih =>
      obtain ⟨i0, ⟨i1, j1⟩, i2, j2, k2⟩ := ih
      have a : sm (fun k => F (0 - k)) (n + 1 + 1) = sm (fun k => F (0 - k)) (n + 1) + F (0 - ((n + 1 : Nat) : Int)) := rfl
      have b : sm (fun k => F (1 - k)) (n + 1 + 1) = sm (fun k => F (1 - k)) (n + 1) + F (1 - ((n + 1 : Nat) : Int)) := rfl
      have c : sm (fun k => F (2 - k)) (n + 1 + 1) = sm (fun k => F (2 - k)) (n + 1) + F (2 - ((n + 1 : Nat) : Int)) := rfl
      have n0 := neg (0 - ((n + 1 : Nat) : Int)) (by omega)
      refine ⟨by omega, ⟨?_, fun h => by omega⟩, ?_, fun h => by omega, fun h => ?_⟩
      · cases n with
        | zero =>
          rw [show (1 : Int) - ((0 + 1 : Nat) : Int) = 0 from rfl] at b
          have := j1 rfl
          omega
        | succ n =>
          have := neg (1 - ((n + 1 + 1 : Nat) : Int)) (by omega)
          omega
      · match n with
        | 0 =>
          rw [show (2 : Int) - ((0 + 1 : Nat) : Int) = 1 from rfl] at c
          have := j2 rfl
          omega
        | 1 =>
          rw [show (2 : Int) - ((1 + 1 : Nat) : Int) = 0 from rfl] at c
          have := k2 rfl
          omega
        | n + 2 =>
          have := neg (2 - ((n + 2 + 1 : Nat) : Int)) (by omega)
          omega
      · obtain rfl : n = 0 := by omega
        rw [show (2 : Int) - ((0 + 1 : Nat) : Int) = 1 from rfl] at c
        have := j2 rfl
        omega
  obtain ⟨a, ⟨b, _⟩, c, _, _⟩ := z l
  exact ⟨a, b, c⟩
theorem few_two : ∀ ls : List Int, (∀ l ∈ ls, 0 ≤ l) → wAll ls 0 ≤ 1 ∧ wAll ls 1 ≤ (ls.length : Int) ∧ 2 * wAll ls 2 ≤ (ls.length : Int) * (ls.length + 1) := by
  intro ls
  refine rev_ind2 (P := fun ls => (∀ l ∈ ls, 0 ≤ l) → wAll ls 0 ≤ 1 ∧ wAll ls 1 ≤ (ls.length : Int) ∧ 2 * wAll ls 2 ≤ (ls.length : Int) * (ls.length + 1)) (fun _ => ⟨by decide, by decide, by decide⟩) (fun xs x ih h => ?_) ls
  have hx : ∀ l ∈ xs, 0 ≤ l := fun l hl => h l (List.mem_append_left _ hl)
  obtain ⟨a, b, c⟩ := ih hx
  obtain ⟨u, v, w⟩ := wst_two (F := wAll xs) (wAll_pos xs hx).1 (fun t ht => (tall_all xs hx).lo t ht) x.toNat
  rw [wAll_snoc, List.length_append, List.length_singleton]
  refine ⟨by omega, by omega, ?_⟩
  rw [show ((xs.length + 1 : Nat) : Int) = (xs.length : Int) + 1 from rfl, Int.add_mul, Int.mul_add (xs.length : Int) ((xs.length : Int) + 1) 1]
  omega
/-! ### reckoned -/
def nxW (l : Nat) (v : List Nat) : List Nat := (List.range v.length).map fun i => ((List.range (min l i + 1)).map fun k => v.getD (i - k) 0).sum
def wtab (T : Nat) (ls : List Int) : List Nat := ls.foldl (fun v l => nxW l.toNat v) (1 :: List.replicate T 0)
theorem sm_cut (f : Int → Int) (i : Nat) (z : ∀ k : Nat, i < k → f k = 0) : ∀ l : Nat, sm f (l + 1) = sm f (min l i + 1)
  | 0 => by rw [Nat.zero_min]
  | l + 1 => by
    by_cases c : l + 1 ≤ i
    · rw [Nat.min_eq_left c]
    · have e : sm f (l + 1 + 1) = sm f (l + 1) + f ((l + 1 : Nat) : Int) := rfl
      rw [e, z (l + 1) (by omega), Int.add_zero, sm_cut f i z l, show min l i = i by omega, show min (l + 1) i = i by omega]
theorem sm_sum (f : Int → Int) (g : Nat → Nat) : ∀ n : Nat, (∀ k : Nat, k < n → f k = (g k : Int)) → sm f n = ((((List.range n).map g).sum : Nat) : Int)
  | 0, _ => rfl
  | n + 1, h => by
    rw [List.range_succ, List.map_append, List.sum_append]
    have a := sm_sum f g n fun k hk => h k (by omega)
    have b := h n (by omega)
    show sm f n + f n = _
    rw [a, b]
    show _ = (((_ + (g n + 0) : Nat)) : Int)
    omega
theorem wtab_at (T : Nat) : ∀ ls : List Int, (∀ l ∈ ls, 0 ≤ l) → (wtab T ls).length = T + 1 ∧ ∀ i, i ≤ T → (((wtab T ls).getD i 0 : Nat) : Int) = wAll ls i := by
  intro ls
  refine rev_ind2 (P := fun ls => (∀ l ∈ ls, 0 ≤ l) → (wtab T ls).length = T + 1 ∧ ∀ i, i ≤ T → (((wtab T ls).getD i 0 : Nat) : Int) = wAll ls i) (fun _ => ⟨by show (1 :: List.replicate T 0).length = _; rw [List.length_cons, List.length_replicate], fun i hi => ?_⟩) (fun xs x ih h => ?_) ls
  · show (((1 :: List.replicate T 0).getD i 0 : Nat) : Int) = w0 i
    cases i with
    | zero => rfl
    | succ i =>
      rw [List.getD_cons_succ, List.getD_eq_getElem?_getD, List.getElem?_replicate]
      show _ = if ((i + 1 : Nat) : Int) = 0 then (1 : Int) else 0
      rw [show (if ((i + 1 : Nat) : Int) = 0 then (1 : Int) else 0) = 0 from if_neg (by omega)]
      split <;> rfl
  · have hx : ∀ l ∈ xs, 0 ≤ l := fun l hl => h l (List.mem_append_left _ hl)
    obtain ⟨l1, l2⟩ := ih hx
    have e : wtab T (xs ++ [x]) = nxW x.toNat (wtab T xs) := List.foldl_append
    rw [e, wAll_snoc]
    have ln : (nxW x.toNat (wtab T xs)).length = T + 1 := by
      unfold nxW
      rw [List.length_map, List.length_range, l1]
    refine ⟨ln, fun i hi => ?_⟩
    unfold wstep
    rw [sm_cut (fun k => wAll xs ((i : Int) - k)) i (fun k hk => (tall_all xs hx).lo _ (by omega)), sm_sum (fun k => wAll xs ((i : Int) - k)) (fun k => (wtab T xs).getD (i - k) 0) _ fun k hk => ?_]
    · congr 1
      rw [List.getD_eq_getElem?_getD]
      unfold nxW
      rw [List.getElem?_map, List.getElem?_range (by omega)]
      rfl
    · show wAll xs ((i : Int) - k) = _
      rw [l2 (i - k) (by omega)]
      exact congrArg _ (by omega)
theorem w_ones (n T v : Nat) (h : (wtab T (List.replicate n 1)).getD T 0 = v) : wAll (List.replicate n 1) T = v := by
  rw [← (wtab_at T _ (fun l hl => by rw [List.eq_of_mem_replicate hl]; decide)).2 T (Nat.le_refl _), h]

/-! ### meanings of counts -/
def lens (rows : List (List Int)) : List Int := rows.map fun r => (r.length : Int)
def mng (rows : List (List Int)) (t : Int) : List (List Int) := (due (lens rows) t).map (mAt rows)
theorem lens_len (rows : List (List Int)) : (lens rows).length = rows.length := List.length_map _
theorem lens_pos (rows : List (List Int)) : ∀ l ∈ lens rows, 0 ≤ l := fun l hl => by
  obtain ⟨r, _, rfl⟩ := List.mem_map.mp hl
  exact Int.natCast_nonneg _
theorem due_cfit {rows : List (List Int)} {t : Int} (ht : 0 ≤ t) : ∀ c ∈ due (lens rows) t, CFit rows c := fun c hc => by
  obtain ⟨a, b⟩ := due_fit ht (lens_pos rows) c hc
  refine ⟨by rw [a, lens_len], fun i z r hz hr => b i z _ hz ?_⟩
  unfold lens
  rw [List.getElem?_map, hr]
  rfl
theorem mng_len {rows : List (List Int)} {t : Int} (ht : 0 ≤ t) : (((mng rows t).length : Nat) : Int) = wAll (lens rows) t := by
  unfold mng
  rw [List.length_map]
  exact due_len ht (lens_pos rows)
theorem mng_len1 {rows : List (List Int)} {t : Int} : ∀ r ∈ mng rows t, r.length ≤ rows.length := fun r hr => by
  obtain ⟨c, _, rfl⟩ := List.mem_map.mp hr
  exact mAt_len rows c
theorem mng_mem {rows : List (List Int)} {t : Int} (ht : 0 ≤ t) {P : Int → Prop} (p : ∀ r ∈ rows, ∀ x ∈ r, P x) : ∀ r ∈ mng rows t, ∀ x ∈ r, P x := fun r hr => by
  obtain ⟨c, hc, rfl⟩ := List.mem_map.mp hr
  exact mAt_mem (due_cfit ht c hc) p
theorem row_get {H : Hp} {rs : List V} {rows : List (List Int)} {i : Nat} {x : V} (ta : TpAll H rs (rows.map tI)) (hx : rs[i]? = some x) : ∃ p r, x = .ref p ∧ rows[i]? = some r ∧ H p = some (.tup (r.map V.int)) := by
  have hi : i < rows.length := by
    have := ta.len
    rw [List.length_map] at this
    rw [← this]
    exact (List.getElem?_eq_some_iff.mp hx).1
  have hr0 : rows[i]? = some rows[i] := List.getElem?_eq_getElem hi
  obtain ⟨v, hv, tv⟩ := ta.get (show (rows.map tI)[i]? = some (tI rows[i]) by rw [List.getElem?_map, hr0]; rfl)
  rw [hx] at hv
  cases hv
  obtain ⟨p, rfl, hp⟩ := tp_row tv
  exact ⟨p, _, rfl, hr0, hp⟩
theorem lens_next {rows : List (List Int)} {i : Nat} {r : List Int} (h : rows[i]? = some r) : ((lens rows).take (i + 1)).map PyData.int = ((lens rows).take i).map PyData.int ++ [PyData.int (r.length : Int)] := by
  have e : (lens rows)[i]? = some (r.length : Int) := by
    unfold lens
    rw [List.getElem?_map, h]
    rfl
  rw [List.take_add_one, e, List.map_append]
  rfl
/-- what the choices want -/
structure Cnt (rows : List (List Int)) (t : Int) : Prop where
  L : Lens (lens rows)
  t0 : 0 ≤ t
  t1 : t ≤ 4000
  few : wAll (lens rows) t ≤ 3003
  fine : Fine (lens rows) t
theorem Cnt.n {rows : List (List Int)} {t : Int} (c : Cnt rows t) : rows.length ≤ 60 := by
  have := c.L.n
  rwa [lens_len] at this
def spCntX (C : Addr) : Sp := fun vs H Q E => ∃ (a : Addr) (rs : List V) (rows : List (List Int)) (t : Int), vs = [.ref a, .int t] ∧ H a = some (.lst rs) ∧ TpAll H rs (rows.map tI) ∧ Lens (lens rows) ∧ 0 ≤ t ∧ t ≤ 4000 ∧
  ((Cnt rows t ∧ ∀ H' q ys, Same H H' → H' q = some (.tup ys) → TpAll H' ys ((mng rows t).map tI) → Q (.ref q) H') ∨
   (3003 < wAll (lens rows) t ∧ wAll (lens rows) t < 10 ^ 18 ∧ ∀ (H' : Hp) (d : Addr), Same H H' → H d = none → H' d = some (.xd [("many", .int (wAll (lens rows) t))]) → E (.ref C) (some d) H'))
section
variable {P : Program} {w : World} {K : PySem.W.Frag} {mg : Str → Option Value} {base : Heap}
theorem has_counted {C : Addr} {cs : Nat → Addr} (T : Top K mg cs) (h_choices : HasX P w K mg base 5 "choices" ["lens", "total"] (spChs C K)) (h__marks_at : Has P w K mg base 1 "_marks_at" ["rows", "counts"] spAt) : HasX P w K mg base 6 "counted" ["rows", "total"] (spCntX C) := by
  refine has_ofX T.d_counted sc_counted bd_counted (fun vs H Q E h => ?_) (fun f cdv A outer s H vs Q E hr h => ?_)
  · obtain ⟨a, rs, rows, t, rfl, _⟩ := h
    rfl
  · have hu := hu_of hr
    have nd := sc_counted.nd
    obtain ⟨a, rs, rows, t, rfl, ha, ta, L, t0, t1, cases_⟩ := h
    refine ⟨_, (pss_cons (ps_setLc (i := 2) (own := [("row", 3)]) (by rfl) nd rfl rfl (sw_true rfl rfl rfl (by decide +kernel)) (pi_list (pv 0)) (blkOk_by (own := [("row", 3)]) (N := nm_counted) (sc := defScope s_counted) (by decide +kernel)) (fun _ _ _ _ _ => pg_name (i := 3) nd rfl (.inl rfl)) (fun _ _ _ _ _ => pts_nil) (fun _ _ _ _ _ => (pe_callB (len_seqK (K := K) rfl) (by rfl) T.b_len (by decide +kernel) (pa_cons (pv 3) pa_nil))))
    (pss_one (ps_ret (pe_callTy call_tuple_of (by rfl) T.b_tuple (by decide +kernel) (pa_cons (pe_lc (own := [("counts", 4)]) (by rfl) nd (pi_list (pe_hasX (takes_of rfl rfl rfl rfl) h_choices (hr.mono (by omega)) (by rfl) (pa_cons (pv 2) (pa_cons (pv 1) pa_nil)))) (blkOk_by (own := [("counts", 4)]) (N := nm_counted) (sc := defScope s_counted) (by decide +kernel)) (fun _ _ _ _ _ => pg_name (i := 4) nd rfl (.inl rfl)) (fun _ _ _ _ _ => pts_nil) (fun _ _ _ _ _ => (pe_has h__marks_at (hr.mono (by omega)) (by rfl) (pa_cons (pv 0) (pa_cons (pv 4) pa_nil))))) pa_nil))))), ?_⟩
    have line : (5000000 : Nat) < sizeLine := by decide
    have la := ta.len
    rw [List.length_map] at la
    have n60 : rows.length ≤ 60 := by
      have := L.n
      rwa [lens_len] at this
    refine ⟨_, rfl, a, rfl, ⟨_, SqL.of ha⟩, fun D hD => lc_list (xs := rs) (fun i H' => TpT H H' D (((lens rows).take i).map PyData.int)) (TpT.new hD) (fun i H' _ z => SqL.of (z.s _ _ ha)) (fun i x H' hx z => ?_) (fun H' z => ?_)⟩
    · obtain ⟨p, r, rfl, hr0, hp⟩ := row_get (ta.kt (KT.same z.s)) hx
      refine ⟨rfl, yes_go ⟨_, rfl, p, _, rfl, .inr (.inl (.inl hp)), ?_⟩⟩
      rw [lens_next hr0, List.length_map]
      refine z.put hD (Same.refl _) ?_ (.int _)
      have := List.length_take_le' i (lens rows)
      rw [lens_len] at this
      rw [List.length_map]
      omega
    · rw [la, ← lens_len, List.take_length] at z
      obtain ⟨ls, hD', tD⟩ := z.ex
      rw [tpall_inv tD] at hD'
      have s0 := z.s
      have ha1 := s0 _ _ ha
      have ta1 := ta.kt (KT.same s0)
      refine ⟨_, rfl, _, rfl, D, lens rows, t, rfl, SqL.of hD', L, t0, t1, ?_⟩
      rcases cases_ with ⟨cn, k⟩ | ⟨m1, m2, kE⟩
      rotate_left
      · exact .inr ⟨m1, m2, fun H2 d s2 nd2 hd2 => kE H2 d (s0.trans s2) (same_freeX s0 nd2) hd2⟩
      refine .inl ⟨cn.few, cn.fine, fun H2 q ys s2 nq hq tq => ⟨q, rfl, ⟨_, SqL.of hq⟩, fun D2 hD2 => lc_list (xs := ys) (fun i H3 => TpT H2 H3 D2 ((((due (lens rows) t).take i).map (mAt rows)).map tI)) (TpT.new hD2) (fun i H3 _ z => SqL.of (z.s _ _ hq)) (fun i x H3 hx z => ?_) (fun H3 z => ?_)⟩⟩
      · obtain ⟨p, c, rfl, hc0, hp⟩ := row_get (tq.kt (KT.same z.s)) hx
        refine ⟨rfl, yes_go ⟨_, rfl, _, rfl, a, p, rs, rows, c, rfl, z.s _ _ (s2 _ _ ha1), (ta1.kt (KT.same s2)).kt (KT.same z.s), hp, due_cfit cn.t0 c (List.mem_of_getElem? hc0), by omega, fun H4 r s4 hr4 => ?_⟩⟩
        rw [List.take_add_one, hc0, List.map_append, List.map_append]
        refine z.put hD2 s4 ?_ (tp_ints hr4)
        have := List.length_take_le' i (due (lens rows) t)
        have e := due_len cn.t0 (lens_pos rows)
        have := cn.few
        rw [List.length_map, List.length_map]
        omega
      · have lq := tq.len
        rw [List.length_map] at lq
        rw [lq, List.take_length] at z
        obtain ⟨zs, hz, tz⟩ := z.ex
        exact ⟨D2, _, rfl, .inl ⟨SqL.of hz, fun r nr => k _ r zs ((s0.trans s2).trans (z.s.trans (same_new nr))) upd_same (tz.kt (KT.new nr))⟩⟩
end

/-! ### range(n) as a value, walked -/
section
variable {X : Cx} {tg : Expr}
theorem cr_range1 : CallR X (.type "range") (fun vs H Q => ∃ i, vs = [V.int i] ∧ ∀ p, H p = none → Q (.ref p) (upd H p (.rng 0 i))) := by
  intro pins s σ H vs us Q I r h
  obtain ⟨i, rfl, q⟩ := h
  obtain ⟨u, rfl, ru⟩ := vals1 r
  obtain ⟨t, rfl⟩ := ru
  refine call_range_1 ⟨.ref s.heap.objs.size, upd H s.heap.objs.size (.rng 0 i), I.laid (t' := _) (fun b o e => Heap.get?_push_of_some _ e) (Nat.le_refl _) ?_, rfl, q _ (I.hok.fresh (Nat.le_refl _))⟩
  exact ⟨_, _, _, Heap.get?_push_size _ rfl⟩
def iRngV (te : TE) : TI := fun σ H R => te σ H fun x H1 => ∃ (a : Addr) (lo hi : Int), x = .ref a ∧ H1 a = some (.rng lo hi) ∧ (-(2 ^ 62) ≤ lo ∧ lo < 2 ^ 62 ∧ -(2 ^ 62) ≤ hi ∧ hi < 2 ^ 62) ∧ R (Itr lo (hi - lo).toNat) H1
theorem pi_rng {e : Expr} {te : TE} (he : PE X e te) : PI X tg e (iRngV te) := by
  refine ⟨fun pins s σ H R I h => ?_⟩
  refine thn (he.run pins s σ H _ I h) fun v s1 ⟨x, H1, I1, r1, q1⟩ => ?_
  obtain ⟨a, lo, hi, ex, ha, ⟨h1, h2, h3, h4⟩, q⟩ := q1
  subst ex
  cases r1
  obtain ⟨t, u, w0, hr⟩ := I1.hok _ _ ha
  refine wpAny_pyIter_range (r := a) (a := lo) (b := hi) (c := 1) (t := t) (u := u) (v := w0) hr (small_one h1 h2 h3 h4) ?_
  refine ⟨s1.heap.objs.size, [s1.heap.objs.size], _, _, H1, rfl, I1.kept (t' := s1.toks) fun b o e => Heap.get?_push_of_some _ e, turn_range _ lo (hi - lo).toNat, ?_, fun b hb => ?_, q⟩
  · have e1 : lo + ((0 : Nat) : Int) * 1 = lo := by simp
    have e2 : (((hi - lo).toNat : Nat) : Int) - ((0 : Nat) : Int) = Builtin.Range.rangeSize lo hi 1 := by rw [rangeSize_one]; split <;> omega
    show IsRangeIter _ _ (lo + ((0 : Nat) : Int) * 1) ((((hi - lo).toNat : Nat) : Int) - ((0 : Nat) : Int)) 1
    rw [e1, e2]
    exact Heap.get?_push_size _ rfl
  · have e : b = s1.heap.objs.size := by simpa using hb
    subst e
    exact I1.fpOk (Nat.le_refl _) (I1.hok.fresh (Nat.le_refl _))
end

/-! ### sums that are too many -/
/-- totals from 1 on that are few enough, and one that isn't -/
structure SumX (rows : List (List Int)) (cap : Int) (j : Nat) : Prop where
  L : Lens (lens rows)
  m : (j : Int) + 1 ≤ mn2 cap (lens rows).sum
  few : ∀ t : Int, 1 ≤ t → t ≤ (j : Int) → Cnt rows t
  big : 3003 < wAll (lens rows) ((j : Int) + 1)
  lim : wAll (lens rows) ((j : Int) + 1) < 10 ^ 18
  j10 : j ≤ 10
def spSumsX (C : Addr) : Sp := fun vs H Q E => ∃ (a : Addr) (rs : List V) (rows : List (List Int)) (cap f : Int) (j : Nat), vs = [.ref a, .int cap, .int f] ∧ H a = some (.lst rs) ∧ TpAll H rs (rows.map tI) ∧ SumX rows cap j ∧
  ∀ (H' : Hp) (d : Addr), Same H H' → H d = none → H' d = some (.xd [("many", .int (wAll (lens rows) ((j : Int) + 1)))]) → E (.ref C) (some d) H'
section
variable {P : Program} {w : World} {K : PySem.W.Frag} {mg : Str → Option Value} {base : Heap}
theorem has_sums {C : Addr} {cs : Nat → Addr} (T : Top K mg cs) (h_counted : HasX P w K mg base 6 "counted" ["rows", "total"] (spCntX C)) (h_clauses_of_count : Has P w K mg base 2 "clauses_of_count" ["meaning", "name"] spClsOf) : HasX P w K mg base 7 "sums_knot" ["rows", "cap", "first"] (spSumsX C) := by
  refine has_ofX T.d_sums_knot sc_sums_knot bd_sums_knot (fun vs H Q E h => ?_) (fun f cdv A outer s H vs Q E hr h => ?_)
  · obtain ⟨a, rs, rows, cap, f, j, rfl, _⟩ := h
    rfl
  · have hu := hu_of hr
    have nd := sc_sums_knot.nd
    obtain ⟨a, rs, rows, cap, fi, jj, rfl, ha, ta, ok, kE⟩ := h
    refine ⟨_, (pss_cons (ps_setLc (i := 3) (own := [("row", 10)]) (by rfl) nd rfl rfl (sw_true rfl rfl rfl (by decide +kernel)) (pi_list (pv 0)) (blkOk_by (own := [("row", 10)]) (N := nm_sums_knot) (sc := defScope s_sums_knot) (by decide +kernel)) (fun _ _ _ _ _ => pg_name (i := 10) nd rfl (.inl rfl)) (fun _ _ _ _ _ => pts_nil) (fun _ _ _ _ _ => (pe_callB (len_seqK (K := K) rfl) (by rfl) T.b_len (by decide +kernel) (pa_cons (pv 10) pa_nil))))
    (pss_cons (ps_set (i := 4) nd rfl (.inl rfl) (pe_lst pa_nil))
    (pss_cons (ps_set (i := 5) nd rfl (.inl rfl) (pe_lst pa_nil))
    (pss_cons (ps_for (passes_of rfl) rfl (pi_range2 (by rfl) T.b_range (pa_cons pe_int (pa_cons (pe_op op_add (pe_callB (call_min2 rfl) (by rfl) T.b_min (by decide +kernel) (pa_cons (pv 1) (pa_cons (pe_callB (cr_sum rfl) (by rfl) T.b_sum (by decide +kernel) (pa_cons (pv 3) pa_nil)) pa_nil))) pe_int) pa_nil))) (pg_name (i := 6) nd rfl (.inl rfl))
      (pss_cons (ps_set (i := 7) nd rfl (.inl rfl) (pe_op op_sub (pe_op op_add (pv 2) (pv 6)) pe_int))
    (pss_cons (ps_set (i := 8) nd rfl (.inl rfl) (pe_hasX (takes_of rfl rfl rfl rfl) h_counted (hr.mono (by omega)) (by rfl) (pa_cons (pv 0) (pa_cons (pv 6) pa_nil))))
    (pss_cons (ps_expr (pe_bm PySem.F.plainAttrs_list PySem.F.slot_list_append PySem.F.type_list_append mt_append (pv 4) (pa_cons (pe_tup (pa_cons (pv 7) (pa_cons (pv 8) pa_nil))) pa_nil)))
    (pss_one (ps_expr (pe_bm PySem.F.plainAttrs_list PySem.F.slot_list_extend PySem.F.type_list_extend mt_extend (pv 5) (pa_cons (pe_has h_clauses_of_count (hr.mono (by omega)) (by rfl) (pa_cons (pv 8) (pa_cons (pv 7) pa_nil))) pa_nil))))))))
    (pss_cons (ps_set (i := 9) nd rfl (.inl rfl) (pe_callTy call_tuple_of (by rfl) T.b_tuple (by decide +kernel) (pa_cons (pe_lc (own := [("name", 7), ("_", 11)]) (by rfl) nd (pi_list (pv 4)) (blkOk_by (own := [("name", 7), ("_", 11)]) (N := nm_sums_knot) (sc := defScope s_sums_knot) (by decide +kernel)) (fun _ _ _ _ _ => pg_tupK (K := K) (n := 2) rfl (by rfl) (pgs_cons (pg_name (i := 7) nd rfl (.inl rfl)) (pgs_cons (pg_name (i := 11) nd rfl (.inl rfl)) pgs_nil))) (fun _ _ _ _ _ => pts_nil) (fun _ _ _ _ _ => (pv 7))) pa_nil)))
    (pss_one (ps_ret (pe_tup (pa_cons (pe_callTy call_tuple_of (by rfl) T.b_tuple (by decide +kernel) (pa_cons (pv 0) pa_nil)) (pa_cons (pe_callTy call_tuple_of (by rfl) T.b_tuple (by decide +kernel) (pa_cons (pv 4) pa_nil)) (pa_cons (pe_callTy call_tuple_of (by rfl) T.b_tuple (by decide +kernel) (pa_cons (pv 5) pa_nil)) (pa_cons (pv 9) pa_nil)))))))))))), ?_⟩
    have line : sizeLine = 16777216 := sizeLine_eq
    have la := ta.len
    rw [List.length_map] at la
    have n60 : rows.length ≤ 60 := by
      have := ok.L.n
      rwa [lens_len] at this
    have j10 := ok.j10
    have sm := ok.L.sum
    refine ⟨_, rfl, a, rfl, ⟨_, SqL.of ha⟩, fun D hD => lc_list (xs := rs) (fun i H' => TpT H H' D (((lens rows).take i).map PyData.int)) (TpT.new hD) (fun i H' _ z => SqL.of (z.s _ _ ha)) (fun i x H' hx z => ?_) (fun H' z => ?_)⟩
    · obtain ⟨p, r, rfl, hr0, hp⟩ := row_get (ta.kt (KT.same z.s)) hx
      refine ⟨rfl, yes_go ⟨_, rfl, p, _, rfl, .inr (.inl (.inl hp)), ?_⟩⟩
      rw [lens_next hr0, List.length_map]
      refine z.put hD (Same.refl _) ?_ (.int _)
      have := List.length_take_le' i (lens rows)
      rw [lens_len] at this
      rw [List.length_map]
      omega
    · rw [la, ← lens_len, List.take_length] at z
      obtain ⟨ls, hD', tD⟩ := z.ex
      rw [tpall_inv tD] at hD'
      refine ⟨by show 0 ≤ sizeLine; omega, fun N nN => ⟨by show 0 ≤ sizeLine; omega, fun C nC => ?_⟩⟩
      have s0 := (z.s.trans (same_new (o := .lst []) nN)).trans (same_new (o := .lst []) nC)
      have hD2 : (upd (upd H' N (.lst [])) C (.lst [])) D = some (.lst ((lens rows).map V.int)) := same_new nC _ _ (same_new nN _ _ hD')
      have hN2 : (upd (upd H' N (.lst [])) C (.lst [])) N = some (.lst []) := same_new nC _ _ upd_same
      have hC2 : (upd (upd H' N (.lst [])) C (.lst [])) C = some (.lst []) := upd_same
      have NC : N ≠ C := fun z => by
        rw [z, upd_same] at nC
        cases nC
      have nN0 : H N = none := same_freeX z.s nN
      have nC0 : H C = none := same_freeX (z.s.trans (same_new nN)) nC
      generalize upd (upd H' N (.lst [])) C (.lst []) = H2 at s0 hD2 hN2 hC2
      obtain ⟨m, em⟩ : ∃ m : Nat, mn2 cap (lens rows).sum = (m : Int) := ⟨(mn2 cap (lens rows).sum).toNat, by have := ok.m; omega⟩
      have hm := ok.m
      have hm2 := (mn2_b (l := cap) (x := (lens rows).sum)).2.1
      rw [em] at hm hm2
      refine ⟨_, rfl, _, rfl, D, lens rows, rfl, SqL.of hD2, _, _, rfl, ?_⟩
      rw [show (if (lens rows).sum < cap then (lens rows).sum else cap) = (m : Int) from em]
      refine ⟨_, _, rfl, rfl, _, _, rfl, ⟨by omega, by omega, by omega, by omega⟩, ?_⟩
      rw [show ((m : Int) + 1 - 1).toNat = m by omega]
      refine for_range (lo := 1) (fun i σ H' => i ≤ jj ∧ ∃ (v6 v7 v8 : Option V) (ns cs : List V), σ = [some (.ref a), some (.int cap), some (.int fi), some (.ref D), some (.ref N), some (.ref C), v6, v7, v8, none, none, none] ∧ Same H H' ∧
        H' N = some (.lst ns) ∧ ns.length = i ∧ H' C = some (.lst cs) ∧ cs.length ≤ 3003 * i) ⟨Nat.zero_le _, none, none, none, [], [], rfl, s0, hN2, rfl, hC2, Nat.le_refl _⟩ ?_ ?_
      · rintro i σ H3 hi ⟨ij, v6, v7, v8, ns, cs, rfl, s3, hN, lN, hC, lC⟩
        refine ⟨_, rfl, _, rfl, _, _, rfl, rfl, _, _, rfl, rfl, ?_⟩
        generalize hz : (fun i j : Int => V.int (i - j)) (fi + (1 + (i : Int))) 1 = nv
        obtain ⟨nf, rfl⟩ : ∃ nf : Int, nv = .int nf := ⟨_, hz.symm⟩
        refine ⟨_, rfl, _, rfl, a, rs, rows, 1 + (i : Int), rfl, s3 _ _ ha, ta.kt (KT.same s3), ok.L, by omega, by omega, ?_⟩
        by_cases c : i = jj
        · subst c
          refine .inr ⟨by rw [Int.add_comm]; exact ok.big, by rw [Int.add_comm]; exact ok.lim, fun H4 d s4 nd4 hd4 => kE H4 d (s3.trans s4) (same_freeX s3 nd4) ?_⟩
          rw [Int.add_comm]
          exact hd4
        have cn := ok.few (1 + (i : Int)) (by omega) (by omega)
        refine .inl ⟨cn, fun H4 q ms s4 hq tq => ?_⟩
        refine ⟨_, rfl, .inl ⟨rfl, _, SqL.of (s4 _ _ hN)⟩, _, rfl, _, rfl, by show 2 ≤ sizeLine; omega, fun p np => ⟨N, ns, .ref p, rfl, rfl, same_new np _ _ (s4 _ _ hN), by omega, ?_⟩⟩
        have s5 : Same H3 (upd H4 p (.tup [.int nf, .ref q])) := s4.trans (same_new np)
        have hq5 := same_new (o := .tup [.int nf, .ref q]) np _ _ hq
        have tq5 := tq.kt (KT.new (o := .tup [.int nf, .ref q]) np)
        generalize upd H4 p (.tup [.int nf, .ref q]) = H5 at s5 hq5 tq5 ⊢
        have hN5 := s5 _ _ hN
        have hC6 : (upd H5 N (.lst (ns ++ [.ref p]))) C = some (.lst cs) := by
          rw [upd_ne NC.symm]
          exact s5 _ _ hC
        have kt := KT.lst (o := .lst (ns ++ [.ref p])) hN5
        have hq6 := kt _ _ hq5
        have tq6 := tq5.kt kt
        have s6 : Same H (upd H5 N (.lst (ns ++ [.ref p]))) := same_mut (s3.trans s5) nN0
        have hN6 : (upd H5 N (.lst (ns ++ [.ref p]))) N = some (.lst (ns ++ [.ref p])) := upd_same
        generalize upd H5 N (.lst (ns ++ [.ref p])) = H6 at hC6 hq6 tq6 s6 hN6
        have e := mng_len (rows := rows) (t := 1 + (i : Int)) (by omega)
        have cf := cn.few
        refine ⟨_, rfl, .inl ⟨rfl, _, SqL.of hC6⟩, _, rfl, _, rfl, q, ms, mng rows (1 + (i : Int)), nf, rfl, hq6, tq6, ?_, fun r hr => ?_, fun H7 g gs s7 hg tg ng => ?_⟩
        · omega
        · have := mng_len1 r hr
          omega
        · have lg := tg.len
          rw [List.length_map] at lg
          refine ⟨C, g, cs, gs, rfl, rfl, s7 _ _ hC6, hg, by omega, by omega, _, _, _, ns ++ [.ref p], cs ++ gs, rfl, same_mut (s6.trans s7) nC0, ?_, by rw [List.length_append, lN]; rfl, upd_same, by rw [List.length_append]; omega⟩
          rw [upd_ne NC]
          exact s7 _ _ hN6
      · rintro σ H3 ⟨ij, _⟩
        omega
end

/-! ### the knot of pairs -/
def dPairs (rows : List (List Int)) (t : Int) : PyData := .tuple [.tuple (rows.map tI), .tuple [], .tuple ((mng rows t).map fun r => tI (negL r)), .tuple []]
def spPairsX (C : Addr) : Sp := fun vs H Q E => ∃ (a : Addr) (rs : List V) (rows : List (List Int)) (t : Int), vs = [.ref a, .int t] ∧ H a = some (.lst rs) ∧ TpAll H rs (rows.map tI) ∧ Lens (lens rows) ∧ 0 ≤ t + 1 ∧ t + 1 ≤ 4000 ∧
  ((Cnt rows (t + 1) ∧ ∀ H' v, Same H H' → Tp H' v (dPairs rows (t + 1)) → Q v H') ∨
   (3003 < wAll (lens rows) (t + 1) ∧ wAll (lens rows) (t + 1) < 10 ^ 18 ∧ ∀ (H' : Hp) (d : Addr), Same H H' → H d = none → H' d = some (.xd [("many", .int (wAll (lens rows) (t + 1)))]) → E (.ref C) (some d) H'))
section
variable {P : Program} {w : World} {K : PySem.W.Frag} {mg : Str → Option Value} {base : Heap}
theorem has_pairs {C : Addr} {cs : Nat → Addr} (T : Top K mg cs) (h_counted : HasX P w K mg base 6 "counted" ["rows", "total"] (spCntX C)) (h_others : Has P w K mg base 1 "others" ["marks"] spNegs) : HasX P w K mg base 7 "pairs_knot" ["rows", "most"] (spPairsX C) := by
  refine has_ofX T.d_pairs_knot sc_pairs_knot bd_pairs_knot (fun vs H Q E h => ?_) (fun f cdv A outer s H vs Q E hr h => ?_)
  · obtain ⟨a, rs, rows, t, rfl, _⟩ := h
    rfl
  · have hu := hu_of hr
    have nd := sc_pairs_knot.nd
    obtain ⟨a, rs, rows, t, rfl, ha, ta, L, t0, t1, cases_⟩ := h
    refine ⟨_, (pss_cons (ps_setLc (i := 2) (own := [("marks", 3)]) (by rfl) nd rfl rfl (sw_true rfl rfl rfl (by decide +kernel)) (pi_tup (pe_hasX (takes_of rfl rfl rfl rfl) h_counted (hr.mono (by omega)) (by rfl) (pa_cons (pv 0) (pa_cons (pe_op op_add (pv 1) pe_int) pa_nil)))) (blkOk_by (own := [("marks", 3)]) (N := nm_pairs_knot) (sc := defScope s_pairs_knot) (by decide +kernel)) (fun _ _ _ _ _ => pg_name (i := 3) nd rfl (.inl rfl)) (fun _ _ _ _ _ => pts_nil) (fun _ _ _ _ _ => (pe_has h_others (hr.mono (by omega)) (by rfl) (pa_cons (pv 3) pa_nil))))
    (pss_one (ps_ret (pe_tup (pa_cons (pe_callTy call_tuple_of (by rfl) T.b_tuple (by decide +kernel) (pa_cons (pv 0) pa_nil)) (pa_cons (pe_tup pa_nil) (pa_cons (pe_callTy call_tuple_of (by rfl) T.b_tuple (by decide +kernel) (pa_cons (pv 2) pa_nil)) (pa_cons (pe_tup pa_nil) pa_nil)))))))), ?_⟩
    have line : sizeLine = 16777216 := sizeLine_eq
    have n60 : rows.length ≤ 60 := by
      have := L.n
      rwa [lens_len] at this
    refine ⟨_, rfl, _, rfl, _, _, rfl, rfl, a, rs, rows, t + 1, rfl, ha, ta, L, t0, t1, ?_⟩
    rcases cases_ with ⟨cn, k⟩ | ⟨m1, m2, kE⟩
    rotate_left
    · exact .inr ⟨m1, m2, fun H2 d s2 nd2 hd2 => kE H2 d s2 nd2 hd2⟩
    refine .inl ⟨cn, fun H1 q ys s1 hq tq => ⟨q, rfl, ⟨_, SqT.of hq⟩, fun D hD => lc_tup (xs := ys) (fun i H' => TpT H1 H' D (((mng rows (t + 1)).take i).map fun r => tI (negL r))) (TpT.new hD) (fun i H' _ z => SqT.of (z.s _ _ hq)) (fun i x H' hx z => ?_) (fun H' z => ?_)⟩⟩
    · obtain ⟨p, r, rfl, hr0, hp⟩ := row_get (tq.kt (KT.same z.s)) hx
      have := mng_len1 r (List.mem_of_getElem? hr0)
      refine ⟨rfl, yes_go ⟨_, rfl, p, r, rfl, hp, by omega, fun H4 g s4 hg => ?_⟩⟩
      rw [List.take_add_one, hr0, List.map_append]
      refine z.put hD s4 ?_ (tp_ints hg)
      have := List.length_take_le' i (mng rows (t + 1))
      have e := mng_len (rows := rows) (t := t + 1) t0
      have := cn.few
      rw [List.length_map]
      omega
    · have lq := tq.len
      rw [List.length_map] at lq
      rw [lq, List.take_length] at z
      obtain ⟨zs, hz, tz⟩ := z.ex
      have sA := s1.trans z.s
      refine ⟨_, rfl, a, _, rfl, .inl ⟨SqL.of (sA _ _ ha), fun p1 n1 => ⟨by show 0 ≤ sizeLine; omega, fun p2 n2 => ⟨_, rfl, D, _, rfl, .inl ⟨SqL.of (same_new n2 _ _ (same_new n1 _ _ hz)), fun p3 n3 => ⟨by show 0 ≤ sizeLine; omega, fun p4 n4 => ⟨by show 4 ≤ sizeLine; omega, fun p5 n5 => ?_⟩⟩⟩⟩⟩⟩⟩
      refine k _ _ ((((sA.trans (same_new n1)).trans (same_new n2)).trans (same_new n3)).trans ((same_new n4).trans (same_new n5))) (.new n5 ?_)
      have w1 : Tp (upd H' p1 (.tup rs)) (.ref p1) (.tuple (rows.map tI)) := .new n1 (ta.kt (KT.same sA))
      have w2 : Tp (upd (upd H' p1 (.tup rs)) p2 (.tup [])) (.ref p2) (.tuple []) := .new n2 .nil
      have w3 : Tp (upd (upd (upd H' p1 (.tup rs)) p2 (.tup [])) p3 (.tup zs)) (.ref p3) (.tuple ((mng rows (t + 1)).map fun r => tI (negL r))) := .new n3 ((tz.kt (KT.new n1)).kt (KT.new n2))
      have w4 : Tp (upd (upd (upd (upd H' p1 (.tup rs)) p2 (.tup [])) p3 (.tup zs)) p4 (.tup [])) (.ref p4) (.tuple []) := .new n4 .nil
      exact .cons (((w1.kt (KT.new n2)).kt (KT.new n3)).kt (KT.new n4)) (.cons ((w2.kt (KT.new n3)).kt (KT.new n4)) (.cons (w3.kt (KT.new n4)) (.cons w4 .nil)))
def spLPairs : Sp := fun vs H Q _ => ∃ (a : Addr) (rs : List V) (rows : List (List Int)) (t : Int), vs = [.ref a, .int t] ∧ H a = some (.lst rs) ∧ TpAll H rs (rows.map tI) ∧ Cnt rows (t + 1) ∧ ∀ H' v, Same H H' → Tp H' v (dPairs rows (t + 1)) → Q v H'
theorem has_lpairs {cs : Nat → Addr} (T : Top K mg cs) (h__law_choices : Has P w K mg base 1 "_law_choices" ["_law_lens", "_law_total"] (spLChs K)) (h__law_at : Has P w K mg base 1 "_law_at" ["_law_rows_here", "_law_counts"] spAt)
    (h__law_turned : Has P w K mg base 1 "_law_turned" ["_law_marks_here"] spNegs) : Has P w K mg base 2 "_law_pairs" ["_law_rows_here", "_law_most"] spLPairs := by
  refine has_of T.d__law_pairs sc__law_pairs bd__law_pairs (fun vs H Q E h => ?_) (fun f cdv A outer s H vs Q E hr h => ?_)
  · obtain ⟨a, rs, rows, t, rfl, _⟩ := h
    rfl
  · have hu := hu_of hr
    have nd := sc__law_pairs.nd
    obtain ⟨a, rs, rows, t, rfl, ha, ta, cn, k⟩ := h
    refine ⟨_, (pss_cons (ps_set (i := 2) nd rfl (.inl rfl) (pe_has h__law_choices (hr.mono (by omega)) (by rfl) (pa_cons (pe_lc (own := [("_law_row", 3)]) (by rfl) nd (pi_list (pv 0)) (blkOk_by (own := [("_law_row", 3)]) (N := nm__law_pairs) (sc := defScope s__law_pairs) (by decide +kernel)) (fun _ _ _ _ _ => pg_name (i := 3) nd rfl (.inl rfl)) (fun _ _ _ _ _ => pts_nil) (fun _ _ _ _ _ => (pe_callB (len_seqK (K := K) rfl) (by rfl) T.b_len (by decide +kernel) (pa_cons (pv 3) pa_nil)))) (pa_cons (pe_op op_add (pv 1) pe_int) pa_nil))))
    (pss_one (ps_ret (pe_tup (pa_cons (pe_callTy call_tuple_of (by rfl) T.b_tuple (by decide +kernel) (pa_cons (pv 0) pa_nil)) (pa_cons (pe_tup pa_nil) (pa_cons (pe_callTy call_tuple_of (by rfl) T.b_tuple (by decide +kernel) (pa_cons (pe_lc (own := [("_law_counts", 4)]) (by rfl) nd (pi_list (pv 2)) (blkOk_by (own := [("_law_counts", 4)]) (N := nm__law_pairs) (sc := defScope s__law_pairs) (by decide +kernel)) (fun _ _ _ _ _ => pg_name (i := 4) nd rfl (.inl rfl)) (fun _ _ _ _ _ => pts_nil) (fun _ _ _ _ _ => (pe_has h__law_turned (hr.mono (by omega)) (by rfl) (pa_cons (pe_has h__law_at (hr.mono (by omega)) (by rfl) (pa_cons (pv 0) (pa_cons (pv 4) pa_nil))) pa_nil)))) pa_nil)) (pa_cons (pe_tup pa_nil) pa_nil)))))))), ?_⟩
    have line : sizeLine = 16777216 := sizeLine_eq
    have la := ta.len
    rw [List.length_map] at la
    have n60 := cn.n
    refine ⟨_, rfl, a, rfl, ⟨_, SqL.of ha⟩, fun D hD => lc_list (xs := rs) (fun i H' => TpT H H' D (((lens rows).take i).map PyData.int)) (TpT.new hD) (fun i H' _ z => SqL.of (z.s _ _ ha)) (fun i x H' hx z => ?_) (fun H' z => ?_)⟩
    · obtain ⟨p, r, rfl, hr0, hp⟩ := row_get (ta.kt (KT.same z.s)) hx
      refine ⟨rfl, yes_go ⟨_, rfl, p, _, rfl, .inr (.inl (.inl hp)), ?_⟩⟩
      rw [lens_next hr0, List.length_map]
      refine z.put hD (Same.refl _) ?_ (.int _)
      have := List.length_take_le' i (lens rows)
      rw [lens_len] at this
      rw [List.length_map]
      omega
    · rw [la, ← lens_len, List.take_length] at z
      obtain ⟨ls, hD', tD⟩ := z.ex
      rw [tpall_inv tD] at hD'
      have s0 := z.s
      refine ⟨_, rfl, _, _, rfl, rfl, D, lens rows, t + 1, rfl, SqL.of hD', cn.L, cn.t0, cn.t1, cn.fine, fun H2 q ys s2 hq tq => ?_⟩
      have s02 := s0.trans s2
      have ha2 := s02 _ _ ha
      have ta2 := ta.kt (KT.same s02)
      refine ⟨_, rfl, a, _, rfl, .inl ⟨SqL.of ha2, fun p1 n1 => ⟨by show 0 ≤ sizeLine; omega, fun p2 n2 => ?_⟩⟩⟩
      have w1 : Tp (upd H2 p1 (.tup rs)) (.ref p1) (.tuple (rows.map tI)) := .new n1 ta2
      have w2 : Tp (upd (upd H2 p1 (.tup rs)) p2 (.tup [])) (.ref p2) (.tuple []) := .new n2 .nil
      have w1 := w1.kt (KT.new (o := .tup []) n2)
      have s12 : Same H2 (upd (upd H2 p1 (.tup rs)) p2 (.tup [])) := (same_new n1).trans (same_new n2)
      have ha3 := s12 _ _ ha2
      have ta3 := ta2.kt (KT.same s12)
      have hq3 := s12 _ _ hq
      have tq3 := tq.kt (KT.same s12)
      generalize upd (upd H2 p1 (.tup rs)) p2 (.tup []) = H3 at w1 w2 s12 ha3 ta3 hq3 tq3
      refine ⟨_, rfl, q, rfl, ⟨_, SqL.of hq3⟩, fun D2 hD2 => lc_list (xs := ys) (fun i H4 => TpT H3 H4 D2 ((((due (lens rows) (t + 1)).take i).map (mAt rows)).map fun r => tI (negL r))) (TpT.new hD2) (fun i H4 _ z => SqL.of (z.s _ _ hq3)) (fun i x H4 hx z => ?_) (fun H4 z => ?_)⟩
      · obtain ⟨p, c, rfl, hc0, hp⟩ := row_get (tq3.kt (KT.same z.s)) hx
        have ml := mAt_len rows c
        refine ⟨rfl, yes_go ⟨_, rfl, _, rfl, a, p, rs, rows, c, rfl, z.s _ _ ha3, ta3.kt (KT.same z.s), hp, due_cfit cn.t0 c (List.mem_of_getElem? hc0), by omega, fun H5 r s5 hr5 => ⟨r, _, rfl, hr5, by omega, fun H6 g s6 hg => ?_⟩⟩⟩
        rw [List.take_add_one, hc0, List.map_append, List.map_append]
        refine z.put hD2 (s5.trans s6) ?_ (tp_ints hg)
        have := List.length_take_le' i (due (lens rows) (t + 1))
        have e := due_len cn.t0 (lens_pos rows)
        have := cn.few
        rw [List.length_map, List.length_map]
        omega
      · have lq := tq.len
        rw [List.length_map] at lq
        rw [lq, List.take_length] at z
        obtain ⟨zs, hz, tz⟩ := z.ex
        have sz := z.s
        refine ⟨D2, _, rfl, .inl ⟨SqL.of hz, fun p3 n3 => ⟨by show 0 ≤ sizeLine; omega, fun p4 n4 => ⟨by show 4 ≤ sizeLine; omega, fun p5 n5 => ?_⟩⟩⟩⟩
        refine k _ _ (((s02.trans s12).trans (sz.trans (same_new n3))).trans ((same_new n4).trans (same_new n5))) (.new n5 ?_)
        have w3 : Tp (upd H4 p3 (.tup zs)) (.ref p3) (.tuple ((mng rows (t + 1)).map fun r => tI (negL r))) := .new n3 tz
        have w4 : Tp (upd (upd H4 p3 (.tup zs)) p4 (.tup [])) (.ref p4) (.tuple []) := .new n4 .nil
        exact .cons (((w1.kt (KT.same sz)).kt (KT.new n3)).kt (KT.new n4)) (.cons (((w2.kt (KT.same sz)).kt (KT.new n3)).kt (KT.new n4)) (.cons (w3.kt (KT.new n4)) (.cons w4 .nil)))
end

/-! ### the knot of codes -/
def dig (k j : Nat) : Bool := decide (k / 2 ^ j % 2 = 1)
def pl (n : Nat) : Nat := Builtin.Int.intBits ((n : Int) - 1)
theorem pl_ok : ∀ n : Fin 61, 0 < n.val → n.val ≤ 2 ^ pl n.val ∧ pl n.val ≤ 6 ∧ ∀ j : Fin 7, j.val < pl n.val → 2 ^ j.val < n.val := by decide +kernel
theorem pl_le {n : Nat} (h0 : 1 ≤ n) (h1 : n ≤ 60) : n ≤ 2 ^ pl n ∧ pl n ≤ 6 := by
  have := pl_ok ⟨n, by omega⟩ h0
  exact ⟨this.1, this.2.1⟩
theorem pl_lt {n j : Nat} (h0 : 1 ≤ n) (h1 : n ≤ 60) (hj : j < pl n) : 2 ^ j < n := by
  have := pl_ok ⟨n, by omega⟩ h0
  exact this.2.2 ⟨j, by have := (pl_le h0 h1).2; omega⟩ hj
theorem pl_end {n j : Nat} (h0 : 1 ≤ n) (h1 : n ≤ 60) (hj : j ≤ pl n) (h : ¬ 2 ^ j < n) : j = pl n := by
  by_cases c : j < pl n
  · exact absurd (pl_lt h0 h1 c) h
  · omega
def rowAt (rows : List (List Int)) (k : Nat) : List Int := rows.getD k []
def h0 (rows : List (List Int)) (k : Nat) : Int := (rowAt rows k).getD 0 0
def h1 (rows : List (List Int)) (k : Nat) : Int := (rowAt rows k).getD 1 0
theorem rowAt_of {rows : List (List Int)} {k : Nat} {r : List Int} (h : rows[k]? = some r) : rowAt rows k = r := by
  unfold rowAt
  rw [List.getD_eq_getElem?_getD, h]
  rfl
def lastC (rows : List (List Int)) (n : Nat) : List PyData := ((List.range n).filter fun k => decide (1 < (rowAt rows k).length)).map fun k => tI [0 - h1 rows k]
def mean (rows : List (List Int)) (j n : Nat) : List PyData := ((List.range n).filter fun k => dig k j).map fun k => tI [h0 rows k]
def nmC (rows : List (List Int)) (f : Int) (j : Nat) : PyData := .tuple [.int (f + (j : Int)), .tuple (mean rows j rows.length)]
def cl1 (rows : List (List Int)) (f : Int) (k j : Nat) : PyData := tI [0 - h0 rows k, if dig k j = true then f + (j : Int) else 0 - (f + (j : Int))]
def clC (rows : List (List Int)) (f : Int) (p k : Nat) : List PyData := (List.range p).map (cl1 rows f k)
def clsC (rows : List (List Int)) (f : Int) (p n : Nat) : List PyData := (List.range n).flatMap (clC rows f p)
def dCodes (rows : List (List Int)) (f : Int) (p : Nat) : PyData := .tuple [.tuple (rows.map tI), .tuple ((List.range p).map (nmC rows f)), .tuple (lastC rows rows.length ++ clsC rows f p rows.length), .tuple []]
theorem lastC_next (rows : List (List Int)) (n : Nat) : lastC rows (n + 1) = lastC rows n ++ (if 1 < (rowAt rows n).length then [tI [0 - h1 rows n]] else []) := by
  unfold lastC
  rw [List.range_succ, List.filter_append, List.map_append]
  by_cases c : 1 < (rowAt rows n).length
  · simp [c]
  · simp [c]
theorem mean_next (rows : List (List Int)) (j n : Nat) : mean rows j (n + 1) = mean rows j n ++ (if dig n j = true then [tI [h0 rows n]] else []) := by
  unfold mean
  rw [List.range_succ, List.filter_append, List.map_append]
  by_cases c : dig n j = true
  · simp [c]
  · simp [c]
theorem clsC_next (rows : List (List Int)) (f : Int) (p n : Nat) : clsC rows f p (n + 1) = clsC rows f p n ++ clC rows f p n := by
  unfold clsC
  rw [List.range_succ, List.flatMap_append, List.flatMap_cons, List.flatMap_nil, List.append_nil]
theorem clC_next (rows : List (List Int)) (f : Int) (k j : Nat) : (List.range (j + 1)).map (cl1 rows f k) = (List.range j).map (cl1 rows f k) ++ [cl1 rows f k j] := by
  rw [List.range_succ, List.map_append]
  rfl
theorem lastC_len (rows : List (List Int)) (n : Nat) : (lastC rows n).length ≤ n := by
  unfold lastC
  have := List.length_filter_le (fun k => decide (1 < (rowAt rows k).length)) (List.range n)
  rw [List.length_range] at this
  rw [List.length_map]
  exact this
theorem mean_len (rows : List (List Int)) (j n : Nat) : (mean rows j n).length ≤ n := by
  unfold mean
  have := List.length_filter_le (fun k => dig k j) (List.range n)
  rw [List.length_range] at this
  rw [List.length_map]
  exact this
theorem clsC_len (rows : List (List Int)) (f : Int) (p n : Nat) : (clsC rows f p n).length = n * p := by
  induction n with
  | zero => exact (Nat.zero_mul p).symm
  | succ n ih =>
    rw [clsC_next, List.length_append, ih, Nat.succ_mul]
    unfold clC
    rw [List.length_map, List.length_range]
theorem dig_int (k j : Nat) : decide (V.int ((k : Int) / 2 ^ j % 2) = V.int 1) = dig k j := by
  have e : (k : Int) / 2 ^ j % 2 = ((k / 2 ^ j % 2 : Nat) : Int) := by
    rw [Int.natCast_emod, Int.natCast_ediv, Int.natCast_pow]
    rfl
  rw [e]
  unfold dig
  refine decide_eq_decide.mpr ⟨fun z => ?_, fun z => by rw [z]; rfl⟩
  have := V.int.inj z
  omega
theorem get_int {l : List Int} {j : Nat} (h : j < l.length) : (l.map V.int)[j]? = some (.int (l.getD j 0)) := by
  rw [List.getElem?_map, List.getElem?_eq_getElem h, List.getD_eq_getElem?_getD, List.getElem?_eq_getElem h]
  rfl
def RowsOk (rows : List (List Int)) : Prop := 1 ≤ rows.length ∧ rows.length ≤ 60 ∧ ∀ r ∈ rows, 1 ≤ r.length ∧ r.length ≤ 2
def spDig : Sp := fun vs H Q _ => ∃ (k jn : Nat) (j : Int), vs = [.int (k : Int), .int j] ∧ j = (jn : Int) ∧ Q (.bl (dig k jn)) H
def spCodes : Sp := fun vs H Q _ => ∃ (a : Addr) (rs : List V) (rows : List (List Int)) (f : Int), vs = [.ref a, .int f] ∧ H a = some (.lst rs) ∧ TpAll H rs (rows.map tI) ∧ RowsOk rows ∧ ∀ H' v, Same H H' → Tp H' v (dCodes rows f (pl rows.length)) → Q v H'
section
variable {P : Program} {w : World} {K : PySem.W.Frag} {mg : Str → Option Value} {base : Heap}
theorem has_dig {cs : Nat → Addr} (T : Top K mg cs) : Has P w K mg base 1 "_has_digit" ["number", "place"] spDig := by
  refine has_of T.d__has_digit sc__has_digit bd__has_digit (fun vs H Q E h => ?_) (fun f cdv A outer s H vs Q E hr h => ?_)
  · obtain ⟨k, jn, j, rfl, _⟩ := h
    rfl
  · have hu := hu_of hr
    have nd := sc__has_digit.nd
    obtain ⟨kk, jn, j, rfl, rfl, k⟩ := h
    refine ⟨_, (pss_one (ps_ret (pe_cmpR op_eq (pe_op op_and (pe_op op_shr (pv 0) (pv 1)) pe_int) pe_int (nomark _)))), ?_⟩
    refine ⟨_, rfl, _, rfl, _, _, rfl, rfl, by show (0 : Int) ≤ (jn : Int); omega, _, _, rfl, rfl, rfl, ?_⟩
    have e : Builtin.bitAnd ((kk : Int) / 2 ^ (jn : Int).toNat) 1 = (kk : Int) / 2 ^ jn % 2 := by
      rw [bitAnd_m1]
      rfl
    show Q (.bl (decide (V.int (Builtin.bitAnd ((kk : Int) / 2 ^ (jn : Int).toNat) 1) = V.int 1))) H
    rw [e, dig_int]
    exact k
theorem has_codes {cs : Nat → Addr} (T : Top K mg cs) (h__has_digit : Has P w K mg base 1 "_has_digit" ["number", "place"] spDig) : Has P w K mg base 2 "codes_knot" ["rows", "first"] spCodes := by
  refine has_of T.d_codes_knot sc_codes_knot bd_codes_knot (fun vs H Q E h => ?_) (fun f cdv A outer s H vs Q E hr h => ?_)
  · obtain ⟨a, rs, rows, f, rfl, _⟩ := h
    rfl
  · have hu := hu_of hr
    have nd := sc_codes_knot.nd
    obtain ⟨a, rs, rows, fi, rfl, ha, ta, ok, k⟩ := h
    refine ⟨_, (pss_cons (ps_setLc (i := 3) (own := [("row", 2)]) (by rfl) nd rfl rfl (sw_true rfl rfl rfl (by decide +kernel)) (pi_list (pv 0)) (blkOk_by (own := [("row", 2)]) (N := nm_codes_knot) (sc := defScope s_codes_knot) (by decide +kernel)) (fun _ _ _ _ _ => pg_name (i := 2) nd rfl (.inl rfl)) (fun _ _ _ _ _ => pts_one (pt_cmpR op_gt (pe_callB (len_seqK (K := K) rfl) (by rfl) T.b_len (by decide +kernel) (pa_cons (pv 2) pa_nil)) pe_int (nomark _))) (fun _ _ _ _ _ => (pe_tup (pa_cons (pe_un un_neg (pe_ix (ix_tupK (K := K) rfl) (pv 2) pe_int (fun _ _ => rfl))) pa_nil))))
    (pss_cons (ps_set (i := 4) nd rfl (.inl rfl) (pe_callTy cr_range1 (by rfl) T.b_range (by decide +kernel) (pa_cons (pe_bits (pe_op op_sub (pe_callB call_len_seq (by rfl) T.b_len (by decide +kernel) (pa_cons (pv 0) pa_nil)) pe_int)) pa_nil)))
    (pss_cons (ps_set (i := 5) nd rfl (.inl rfl) (pe_lst pa_nil))
    (pss_cons (ps_for PassesOwn.never rfl (pi_rng (pv 4)) (pg_name (i := 6) nd rfl (.inr rfl))
      (pss_cons (ps_set (i := 8) nd rfl (.inl rfl) (pe_callTy call_tuple_of (by rfl) T.b_tuple (by decide +kernel) (pa_cons (pe_lc (own := [("number", 7), ("row", 2)]) (by rfl) nd (pi_enum (by rfl) T.b_enumerate (pa_cons (pv 0) pa_nil)) (blkOk_by (own := [("number", 7), ("row", 2)]) (N := nm_codes_knot) (sc := defScope s_codes_knot) (by decide +kernel)) (fun _ _ _ _ _ => pg_tupK (K := K) (n := 2) rfl (by rfl) (pgs_cons (pg_name (i := 7) nd rfl (.inl rfl)) (pgs_cons (pg_name (i := 2) nd rfl (.inl rfl)) pgs_nil))) (fun _ _ _ _ _ => pts_one (pt_val (pe_has h__has_digit (hr.mono (by omega)) (by rfl) (pa_cons (pv 7) (pa_cons (pv 6) pa_nil))))) (fun _ _ _ _ _ => (pe_tup (pa_cons (pe_ix (ix_tupK (K := K) rfl) (pv 2) pe_int (fun _ _ => rfl)) pa_nil)))) pa_nil)))
    (pss_one (ps_expr (pe_bm PySem.F.plainAttrs_list PySem.F.slot_list_append PySem.F.type_list_append mt_append (pv 5) (pa_cons (pe_tup (pa_cons (pe_op op_add (pv 1) (pv 6)) (pa_cons (pv 8) pa_nil))) pa_nil))))))
    (pss_cons (ps_for PassesOwn.never rfl (pi_enum (by rfl) T.b_enumerate (pa_cons (pv 0) pa_nil)) (pg_tup (by rfl) (pgs_cons (pg_name (i := 7) nd rfl (.inl rfl)) (pgs_cons (pg_name (i := 2) nd rfl (.inl rfl)) pgs_nil)))
      (pss_one (ps_for PassesOwn.never rfl (pi_rng (pv 4)) (pg_name (i := 6) nd rfl (.inr rfl))
      (pss_cons (ps_set (i := 9) nd rfl (.inl rfl) (pe_op op_add (pv 1) (pv 6)))
    (pss_one (ps_if (pt_val (pe_has h__has_digit (hr.mono (by omega)) (by rfl) (pa_cons (pv 7) (pa_cons (pv 6) pa_nil)))) (pss_one (ps_expr (pe_bm PySem.F.plainAttrs_list PySem.F.slot_list_append PySem.F.type_list_append mt_append (pv 3) (pa_cons (pe_tup (pa_cons (pe_un un_neg (pe_ix ix_tup (pv 2) pe_int (fun _ _ => rfl))) (pa_cons (pv 9) pa_nil))) pa_nil)))) (pss_one (ps_expr (pe_bm PySem.F.plainAttrs_list PySem.F.slot_list_append PySem.F.type_list_append mt_append (pv 3) (pa_cons (pe_tup (pa_cons (pe_un un_neg (pe_ix ix_tup (pv 2) pe_int (fun _ _ => rfl))) (pa_cons (pe_un un_neg (pv 9)) pa_nil))) pa_nil))))))))))
    (pss_one (ps_ret (pe_tup (pa_cons (pe_callTy call_tuple_of (by rfl) T.b_tuple (by decide +kernel) (pa_cons (pv 0) pa_nil)) (pa_cons (pe_callTy call_tuple_of (by rfl) T.b_tuple (by decide +kernel) (pa_cons (pv 5) pa_nil)) (pa_cons (pe_callTy call_tuple_of (by rfl) T.b_tuple (by decide +kernel) (pa_cons (pv 3) pa_nil)) (pa_cons (pe_tup pa_nil) pa_nil)))))))))))), ?_⟩
    have line : sizeLine = 16777216 := sizeLine_eq
    have la := ta.len
    rw [List.length_map] at la
    obtain ⟨n1, n60, wide⟩ := ok
    have pp := (pl_le n1 n60).2
    refine ⟨_, rfl, a, rfl, ⟨_, SqL.of ha⟩, fun C nC => lc_list (xs := rs) (fun i H' => TpT H H' C (lastC rows i)) (TpT.new nC) (fun i H' _ z => SqL.of (z.s _ _ ha)) (fun i x H' hx z => ?_) (fun H' z => ?_)⟩
    · obtain ⟨p, r, rfl, hr0, hp⟩ := row_get (ta.kt (KT.same z.s)) hx
      have ra := rowAt_of hr0
      have lc := lastC_len rows i
      have li := (List.getElem?_eq_some_iff.mp hr0).1
      refine ⟨rfl, _, rfl, p, _, rfl, .inr (.inl (.inl hp)), _, _, rfl, rfl, _, rfl, ?_⟩
      rw [List.length_map]
      by_cases c : 1 < r.length
      · refine iteTd (by omega) ⟨_, rfl, p, _, _, _, rfl, rfl, SqT.of hp, at_of (j := 1) rfl (get_int c), _, rfl, by show 1 ≤ sizeLine; omega, fun q nq => ?_⟩
        rw [lastC_next, ra, if_pos c]
        refine z.put nC (same_new nq) (by omega) (.new nq ?_)
        have e : -(r.getD 1 0) = 0 - h1 rows i := by
          unfold h1
          rw [ra]
          omega
        show TpAll _ [V.int (-(r.getD 1 0))] ([0 - h1 rows i].map PyData.int)
        rw [e]
        exact .cons (.int _) .nil
      · refine iteFd (by omega) ?_
        rw [lastC_next, ra, if_neg c, List.append_nil]
        exact z
    rw [la] at z
    obtain ⟨cs, hC, tC⟩ := z.ex
    have s1 := z.s
    -- the places
    refine ⟨_, rfl, a, _, rfl, .inl (SqL.of (s1 _ _ ha)), _, _, rfl, rfl, _, rfl, ((pl rows.length : Nat) : Int), ?e, fun R nR => ⟨by show 0 ≤ sizeLine; omega, fun N nN => ?_⟩⟩
    case e =>
      rw [la]
      rfl
    generalize pl rows.length = p at *
    have s2 := (s1.trans (same_new (o := .rng 0 (p : Int)) nR)).trans (same_new (o := .lst []) nN)
    have nC0 : H C = none := nC
    have nN0 : H N = none := same_freeX (s1.trans (same_new nR)) nN
    have hR2 : (upd (upd H' R (.rng 0 (p : Int))) N (.lst [])) R = some (.rng 0 (p : Int)) := same_new nN _ _ upd_same
    have hC2 : (upd (upd H' R (.rng 0 (p : Int))) N (.lst [])) C = some (.lst cs) := same_new nN _ _ (same_new nR _ _ hC)
    have hN2 : (upd (upd H' R (.rng 0 (p : Int))) N (.lst [])) N = some (.lst []) := upd_same
    have tC2 := (tC.kt (KT.new (o := .rng 0 (p : Int)) nR)).kt (KT.new (o := .lst []) nN)
    have CN : C ≠ N := ne_of_none (same_new nR _ _ hC) nN
    generalize upd (upd H' R (.rng 0 (p : Int))) N (.lst []) = H2 at s2 hR2 hC2 hN2 tC2 ⊢
    have RN : R ≠ N := ne_of hR2 hN2 (by intro z; cases z)
    have RC : R ≠ C := ne_of hR2 hC2 (by intro z; cases z)
    have lcl := lastC_len rows rows.length
    have lcs := tC2.len
    refine ⟨_, rfl, R, 0, _, rfl, hR2, ⟨by omega, by omega, by omega, by omega⟩, ?_⟩
    rw [show ((p : Int) - 0).toNat = p by omega]
    refine for_range (lo := 0) (fun j σ H' => ∃ (v6 v8 : Option V) (ns : List V), σ = [some (.ref a), some (.int fi), none, some (.ref C), some (.ref R), some (.ref N), v6, none, v8, none] ∧ Same H H' ∧ H' R = some (.rng 0 (p : Int)) ∧ H' C = some (.lst cs) ∧ TpAll H' cs (lastC rows rows.length) ∧
      H' N = some (.lst ns) ∧ TpAll H' ns ((List.range j).map (nmC rows fi))) ⟨none, none, [], rfl, s2, hR2, hC2, tC2, hN2, .nil⟩ ?_ ?_
    · rintro j σ H3 hj ⟨v6, v8, ns, rfl, s3, hR, hC, tC, hN, tN⟩
      generalize hz : (0 + (j : Int)) = jz
      obtain rfl : jz = (j : Int) := by omega
      have lN := tN.len
      rw [List.length_map, List.length_range] at lN
      have ha3 := s3 _ _ ha
      have ta3 := ta.kt (KT.same s3)
      refine ⟨_, rfl, a, rs, rfl, SqL.of ha3, fun D hD => lc_it (walk_enum (K := K) (a := a) (xs := rs)) (fun i H' => TpT H3 H' D (mean rows j i)) (TpT.new hD) (fun i H' _ z => SqL.of (z.s _ _ ha3)) (fun i x H4 H5 hi z y => ?_) (fun H4 z => ?_)⟩
      · obtain ⟨T, x', y', rfl, nT, rfl, ex, ey⟩ := y
        cases ex
        obtain ⟨pr, r, rfl, hr0, hp⟩ := row_get (ta3.kt (KT.same z.s)) ey
        have hp5 := same_new (o := .tup [V.int (i : Nat), .ref pr]) nT _ _ hp
        have ra := rowAt_of hr0
        have wr := wide r (List.mem_of_getElem? hr0)
        have ml := mean_len rows j i
        have li := (List.getElem?_eq_some_iff.mp hr0).1
        refine ⟨T, _, rfl, SqT.of upd_same, rfl, _, _, rfl, _, _, rfl, rfl, rfl, _, rfl, _, rfl, i, j, _, rfl, rfl, _, rfl, ?_⟩
        cases hd : dig i j with
        | true =>
          refine iteT ⟨_, rfl, pr, _, _, _, rfl, rfl, SqT.of hp5, at_of (j := 0) rfl (get_int (by omega)), by show 1 ≤ sizeLine; omega, fun q nq => ?_⟩
          rw [mean_next, if_pos hd]
          refine z.put hD ((same_new nT).trans (same_new nq)) (by omega) (.new nq ?_)
          have e : r.getD 0 0 = h0 rows i := by
            unfold h0
            rw [ra]
          rw [e]
          exact .cons (.int _) .nil
        | false =>
          refine iteF ?_
          rw [mean_next, if_neg (by rw [hd]; exact Bool.false_ne_true), List.append_nil]
          obtain ⟨ls, h, t⟩ := z.ex
          exact ⟨z.s.trans (same_new nT), ls, same_new nT _ _ h, t.kt (KT.new nT)⟩
      rw [la] at z
      obtain ⟨ms, hM, tM⟩ := z.ex
      have s4 := z.s
      refine ⟨D, _, rfl, .inl ⟨SqL.of hM, fun M nM => ?_⟩⟩
      have w1 : Tp (upd H4 M (.tup ms)) (.ref M) (.tuple (mean rows j rows.length)) := .new nM tM
      have s5 := s4.trans (same_new (o := .tup ms) nM)
      generalize upd H4 M (.tup ms) = H5 at w1 s5 ⊢
      refine ⟨_, rfl, .inl ⟨rfl, _, SqL.of (s5 _ _ hN)⟩, _, rfl, _, rfl, _, _, rfl, rfl, _, rfl, by show 2 ≤ sizeLine; omega, fun q nq => ?_⟩
      have w2 : Tp (upd H5 q (.tup [.int (fi + (j : Int)), .ref M])) (.ref q) (nmC rows fi j) := .new nq (.cons (.int _) (.cons w1 .nil))
      have s6 := s5.trans (same_new (o := .tup [.int (fi + (j : Int)), .ref M]) nq)
      generalize upd H5 q (.tup [.int (fi + (j : Int)), .ref M]) = H6 at w2 s6 ⊢
      have hN6 := s6 _ _ hN
      have kt := KT.lst (o := .lst (ns ++ [.ref q])) hN6
      refine ⟨N, ns, .ref q, rfl, rfl, hN6, by omega, _, _, ns ++ [.ref q], rfl, same_mut (s3.trans s6) nN0, ?_, ?_, (tC.kt (KT.same s6)).kt kt, upd_same, ?_⟩
      · rw [upd_ne RN]
        exact s6 _ _ hR
      · rw [upd_ne CN]
        exact s6 _ _ hC
      · rw [List.range_succ, List.map_append]
        exact (((tN.kt (KT.same s6)).snoc w2)).kt kt
    · rintro σ H3 ⟨v6, v8, ns, rfl, s3, hR, hC, tC, hN, tN⟩
      have NC := CN.symm
      have ha3 := s3 _ _ ha
      refine ⟨_, rfl, a, rs, rfl, SqL.of ha3, for_it (walk_enum (K := K) (a := a) (xs := rs)) (fun i σ H' => ∃ (v2 v6 v7 v9 : Option V) (cs : List V), σ = [some (.ref a), some (.int fi), v2, some (.ref C), some (.ref R), some (.ref N), v6, v7, v8, v9] ∧ Same H H' ∧ H' R = some (.rng 0 (p : Int)) ∧ H' C = some (.lst cs) ∧
        TpAll H' cs (lastC rows rows.length ++ clsC rows fi p i) ∧ H' N = some (.lst ns) ∧ TpAll H' ns ((List.range p).map (nmC rows fi))) ⟨none, v6, none, none, cs, rfl, s3, hR, hC, by simpa [clsC] using tC, hN, tN⟩ ?_ ?_ ?_⟩
      · rintro i σ H' _ ⟨_, _, _, _, _, _, s', _⟩
        exact SqL.of (s' _ _ ha)
      · rintro i x σ H4 H5 hi ⟨v2, v6, v7, v9, cs, rfl, s4, hR, hC, tC, hN, tN⟩ y
        obtain ⟨T, x', y', rfl, nT, rfl, ex, ey⟩ := y
        cases ex
        obtain ⟨pr, r, rfl, hr0, hp⟩ := row_get (ta.kt (KT.same s4)) ey
        have ra := rowAt_of hr0
        have wr := wide r (List.mem_of_getElem? hr0)
        have li := (List.getElem?_eq_some_iff.mp hr0).1
        refine ⟨T, _, rfl, SqT.of upd_same, rfl, _, _, rfl, _, _, rfl, rfl, ?_⟩
        have sT := same_new (o := .tup [V.int (i : Nat), .ref pr]) nT
        have hp5 := sT _ _ hp
        have hR5 := sT _ _ hR
        have hC5 := sT _ _ hC
        have hN5 := sT _ _ hN
        have tC5 := tC.kt (KT.same sT)
        have tN5 := tN.kt (KT.same sT)
        have s5 := s4.trans sT
        generalize upd H4 T (.tup [V.int (i : Nat), .ref pr]) = H5 at hp5 hR5 hC5 hN5 tC5 tN5 s5 ⊢
        refine ⟨_, rfl, R, 0, _, rfl, hR5, ⟨by omega, by omega, by omega, by omega⟩, ?_⟩
        rw [show ((p : Int) - 0).toNat = p by omega]
        refine for_range (lo := 0) (fun j σ H' => ∃ (v6 v9 : Option V) (cs : List V), σ = [some (.ref a), some (.int fi), some (.ref pr), some (.ref C), some (.ref R), some (.ref N), v6, some (.int (i : Nat)), v8, v9] ∧ Same H H' ∧ H' R = some (.rng 0 (p : Int)) ∧ H' pr = some (.tup (r.map V.int)) ∧ H' C = some (.lst cs) ∧
          TpAll H' cs (lastC rows rows.length ++ clsC rows fi p i ++ (List.range j).map (cl1 rows fi i)) ∧ H' N = some (.lst ns) ∧ TpAll H' ns ((List.range p).map (nmC rows fi))) ⟨v6, v9, cs, rfl, s5, hR5, hp5, hC5, by simpa using tC5, hN5, tN5⟩ ?_ ?_
        · rintro j σ H6 hj ⟨v6, v9, cs, rfl, s6, hR, hp, hC, tC, hN, tN⟩
          generalize hz : (0 + (j : Int)) = jz
          obtain rfl : jz = (j : Int) := by omega
          have lC := tC.len
          have cl := clsC_len rows fi p i
          have ip : i * p ≤ 60 * 6 := Nat.mul_le_mul (by omega) pp
          rw [List.length_append, List.length_append, List.length_map, List.length_range] at lC
          refine ⟨_, rfl, _, rfl, _, _, rfl, rfl, _, rfl, _, rfl, i, j, _, rfl, rfl, _, rfl, ?_⟩
          have e0 : -(r.getD 0 0) = 0 - h0 rows i := by
            unfold h0
            rw [ra]
            omega
          have fin : ∀ (q : Addr) (z : Int), H6 q = none → z = (if dig i j = true then fi + (j : Int) else 0 - (fi + (j : Int))) → ∃ (v6 v9 : Option V) (cs' : List V), [some (V.ref a), some (.int fi), some (.ref pr), some (.ref C), some (.ref R), some (.ref N), some (.int (j : Int)), some (.int (i : Nat)), v8, some (.int (fi + (j : Int)))] = [some (.ref a), some (.int fi), some (.ref pr), some (.ref C), some (.ref R), some (.ref N), v6, some (.int (i : Nat)), v8, v9] ∧
              Same H (upd (upd H6 q (.tup [.int (-(r.getD 0 0)), .int z])) C (.lst (cs ++ [.ref q]))) ∧ (upd (upd H6 q (.tup [.int (-(r.getD 0 0)), .int z])) C (.lst (cs ++ [.ref q]))) R = some (.rng 0 (p : Int)) ∧ (upd (upd H6 q (.tup [.int (-(r.getD 0 0)), .int z])) C (.lst (cs ++ [.ref q]))) pr = some (.tup (r.map V.int)) ∧
              (upd (upd H6 q (.tup [.int (-(r.getD 0 0)), .int z])) C (.lst (cs ++ [.ref q]))) C = some (.lst cs') ∧ TpAll (upd (upd H6 q (.tup [.int (-(r.getD 0 0)), .int z])) C (.lst (cs ++ [.ref q]))) cs' (lastC rows rows.length ++ clsC rows fi p i ++ (List.range (j + 1)).map (cl1 rows fi i)) ∧
              (upd (upd H6 q (.tup [.int (-(r.getD 0 0)), .int z])) C (.lst (cs ++ [.ref q]))) N = some (.lst ns) ∧ TpAll (upd (upd H6 q (.tup [.int (-(r.getD 0 0)), .int z])) C (.lst (cs ++ [.ref q]))) ns ((List.range p).map (nmC rows fi)) := fun q z nq ez => by
            have w : Tp (upd H6 q (.tup [.int (-(r.getD 0 0)), .int z])) (.ref q) (cl1 rows fi i j) := by
              refine .new nq ?_
              rw [e0, ez]
              exact .cons (.int _) (.cons (.int _) .nil)
            have sq := same_new (o := .tup [.int (-(r.getD 0 0)), .int z]) nq
            generalize upd H6 q (.tup [.int (-(r.getD 0 0)), .int z]) = H7 at w sq ⊢
            have hC7 := sq _ _ hC
            have kt := KT.lst (o := .lst (cs ++ [.ref q])) hC7
            refine ⟨_, _, cs ++ [.ref q], rfl, same_mut (s6.trans sq) nC0, ?_, kt _ _ (sq _ _ hp), upd_same, ?_, ?_, (tN.kt (KT.same sq)).kt kt⟩
            · rw [upd_ne RC]
              exact sq _ _ hR
            · rw [clC_next, ← List.append_assoc]
              exact ((tC.kt (KT.same sq)).snoc w).kt kt
            · rw [upd_ne NC]
              exact sq _ _ hN
          cases hd : dig i j with
          | true =>
            refine iteT ⟨_, rfl, .inl ⟨rfl, _, SqL.of hC⟩, _, rfl, pr, _, _, _, rfl, rfl, SqT.of hp, at_of (j := 0) rfl (get_int (by omega)), _, rfl, _, rfl, by show 2 ≤ sizeLine; omega, fun q nq => ⟨C, cs, .ref q, rfl, rfl, same_new nq _ _ hC, by omega, ?_⟩⟩
            exact fin q _ nq (by rw [hd, if_pos rfl])
          | false =>
            refine iteF ⟨_, rfl, .inl ⟨rfl, _, SqL.of hC⟩, _, rfl, pr, _, _, _, rfl, rfl, SqT.of hp, at_of (j := 0) rfl (get_int (by omega)), _, rfl, _, rfl, _, rfl, by show 2 ≤ sizeLine; omega, fun q nq => ⟨C, cs, .ref q, rfl, rfl, same_new nq _ _ hC, by omega, ?_⟩⟩
            exact fin q _ nq (by rw [hd, if_neg Bool.false_ne_true]; omega)
        · rintro σ H6 ⟨v6, v9, cs, rfl, s6, hR, hp, hC, tC, hN, tN⟩
          refine ⟨_, _, _, _, cs, rfl, s6, hR, hC, ?_, hN, tN⟩
          rw [clsC_next, ← List.append_assoc]
          exact tC
      · rintro σ H4 ⟨v2, v6, v7, v9, cs, rfl, s4, hR, hC, tC, hN, tN⟩
        rw [la] at tC
        refine ⟨_, rfl, a, _, rfl, .inl ⟨SqL.of (s4 _ _ ha), fun p1 n1 => ⟨_, rfl, N, _, rfl, .inl ⟨SqL.of (same_new n1 _ _ hN), fun p2 n2 => ⟨_, rfl, C, _, rfl, .inl ⟨SqL.of (same_new n2 _ _ (same_new n1 _ _ hC)), fun p3 n3 => ⟨by show 0 ≤ sizeLine; omega, fun p4 n4 => ⟨by show 4 ≤ sizeLine; omega, fun p5 n5 => ?_⟩⟩⟩⟩⟩⟩⟩⟩
        refine k _ _ ((((s4.trans (same_new n1)).trans (same_new n2)).trans (same_new n3)).trans ((same_new n4).trans (same_new n5))) (.new n5 ?_)
        have w1 : Tp (upd H4 p1 (.tup rs)) (.ref p1) (.tuple (rows.map tI)) := .new n1 (ta.kt (KT.same s4))
        have w2 : Tp (upd (upd H4 p1 (.tup rs)) p2 (.tup ns)) (.ref p2) (.tuple ((List.range p).map (nmC rows fi))) := .new n2 (tN.kt (KT.new n1))
        have w3 : Tp (upd (upd (upd H4 p1 (.tup rs)) p2 (.tup ns)) p3 (.tup cs)) (.ref p3) (.tuple (lastC rows rows.length ++ clsC rows fi p rows.length)) := .new n3 ((tC.kt (KT.new n1)).kt (KT.new n2))
        have w4 : Tp (upd (upd (upd (upd H4 p1 (.tup rs)) p2 (.tup ns)) p3 (.tup cs)) p4 (.tup [])) (.ref p4) (.tuple []) := .new n4 .nil
        exact .cons (((w1.kt (KT.new n2)).kt (KT.new n3)).kt (KT.new n4)) (.cons ((w2.kt (KT.new n3)).kt (KT.new n4)) (.cons (w3.kt (KT.new n4)) (.cons w4 .nil)))
end

/-! ### how parts are shown -/
mutual
inductive Lf : PyData → Prop
  | int (i : Int) (h : i.natAbs < 10 ^ 13) : Lf (.int i)
  | str (x : Str) (h : (x.cps.toList.all fun c => decide (c < 16 ^ 8)) = true) : Lf (.str x)
  | tup {ds : List PyData} : LfAll ds → Lf (.tuple ds)
inductive LfAll : List PyData → Prop
  | nil : LfAll []
  | cons {d : PyData} {ds : List PyData} : Lf d → LfAll ds → LfAll (d :: ds)
end
theorem lf_one : Lf (.int 1) := .int 1 (by decide)
mutual
theorem Lf.shows : ∀ {d : PyData}, Lf d → d.showable = true ∧ d.hasDict = false ∧ PyData.leavesShort 14 d = true
  | _, .int i h => by
    have lg : i.natAbs.log2 < 44 := PySem.Flt.log2_lt_of (by decide) (Nat.lt_trans h (by decide))
    refine ⟨?_, by rw [PyData.hasDict], ?_⟩
    · rw [PyData.showable]
      exact decide_eq_true (by omega)
    · rw [PyData.leavesShort]
      refine decide_eq_true ?_
      show (Str.ofString (toString i)).length ≤ 14
      rw [PySem.ofString_length]
      exact int_text_length_le10 (k := 13) (by decide) h
  | _, .str x h => ⟨by rw [PyData.showable], by rw [PyData.hasDict], by rw [PyData.leavesShort]; exact h⟩
  | _, .tup r => by
    obtain ⟨a, b, c⟩ := LfAll.shows r
    exact ⟨by rw [PyData.showable]; exact a, by rw [PyData.hasDict]; exact b, by rw [PyData.leavesShort]; exact c⟩
theorem LfAll.shows : ∀ {ds : List PyData}, LfAll ds → PyData.showableAll ds = true ∧ PyData.hasDictAll ds = false ∧ PyData.leavesShortAll 14 ds = true
  | _, .nil => ⟨rfl, rfl, rfl⟩
  | _, .cons h r => by
    obtain ⟨a, b, c⟩ := Lf.shows h
    obtain ⟨a2, b2, c2⟩ := LfAll.shows r
    exact ⟨by rw [PyData.showableAll, a, a2]; rfl, by rw [PyData.hasDictAll, b, b2]; rfl, by rw [PyData.leavesShortAll, c, c2]; rfl⟩
end
theorem Lf.showy {d : PyData} (h : Lf d) (dp : d.depth ≤ 60) (wt : d.weight ≤ 100000) : Showy d := by
  obtain ⟨a, b, c⟩ := h.shows
  refine ⟨a, b, dp, ?_⟩
  have z := PyData.shown_le 14 (by decide) d c
  have e : sizeLine = 16777216 := sizeLine_eq
  omega
theorem lf_rep {d : PyData} (h : Lf d) : ∀ n, LfAll (List.replicate n d)
  | 0 => .nil
  | n + 1 => .cons h (lf_rep h n)
theorem lf_map {α : Type} {f : α → PyData} : ∀ {l : List α}, (∀ x ∈ l, Lf (f x)) → LfAll (l.map f)
  | [], _ => .nil
  | x :: r, h => .cons (h x List.mem_cons_self) (lf_map fun y hy => h y (List.mem_cons_of_mem _ hy))
theorem dep_map {α : Type} {f : α → PyData} {m : Nat} : ∀ {l : List α}, (∀ x ∈ l, (f x).depth ≤ m) → PyData.depthAll (l.map f) ≤ m
  | [], _ => Nat.zero_le _
  | x :: r, h => by
    rw [List.map_cons, PyData.depthAll]
    exact Nat.max_le.mpr ⟨h x List.mem_cons_self, dep_map fun y hy => h y (List.mem_cons_of_mem _ hy)⟩
theorem wt_map {α : Type} {f : α → PyData} {m : Nat} : ∀ {l : List α}, (∀ x ∈ l, (f x).weight ≤ m) → PyData.weightAll (l.map f) ≤ (m + 1) * l.length
  | [], _ => Nat.zero_le _
  | x :: r, h => by
    have a := h x List.mem_cons_self
    have b := wt_map (l := r) fun y hy => h y (List.mem_cons_of_mem _ hy)
    rw [List.map_cons, PyData.weightAll, List.length_cons, Nat.mul_succ]
    omega
theorem rep_map {d : PyData} (n : Nat) : List.replicate n d = (List.range n).map fun _ => d := by
  rw [List.map_const', List.length_range]
theorem wt_one : (PyData.int 1).weight = 1 := by rfl
theorem dep_one : (PyData.int 1).depth = 0 := by rfl
/-- repr, where nothing is being shown -/
structure RRepr (K : PySem.W.Frag) (xs : List V) (H : Hp) (Q : VK) : Prop where
  h : (xs = [.non] ∧ Q (.str "None") H) ∨ (∃ i, xs = [.int i] ∧ i.natAbs.log2 < 1920 ∧ Q (.str (toString i)) H) ∨ ∃ a d, xs = [.ref a] ∧ Dp K H (.ref a) d ∧ Showy d ∧ Q (.str d.shown) H
theorem call_reprW {X : Cx} (hgd : X.A.guards = some []) (hu : X.A.units + 64 < cLine) : CallR X (.builtin "repr") (RRepr X.K) := fun pins s σ H xs us Q I r h => call_reprV hgd hu pins s σ H xs us Q I r h.h
/-- a tuple's repr -/
theorem tp_reprT {K : PySem.W.Frag} {H : Hp} {v : V} {ds : List PyData} {Q : VK} (t : Tp H v (.tuple ds)) (ok : Showy (.tuple ds)) (q : Q (.str (PyData.tuple ds).shown) H) : RRepr K [v] H Q := by
  cases t with
  | tup h r => exact ⟨.inr (.inr ⟨_, _, rfl, (Tp.tup h r).dp, ok, q⟩)⟩
theorem Lf.showy2 {d : PyData} (h : Lf d) (dp : d.depth ≤ 60) (wt : d.bulk ≤ 900000) : Showy d := by
  obtain ⟨a, b, c⟩ := h.shows
  refine ⟨a, b, dp, ?_⟩
  have z := PyData.shown_le_bulk 14 (by decide) d c
  have e : sizeLine = 16777216 := sizeLine_eq
  omega

/-! ### how the knot is shown -/
theorem bulk_le {n : Nat} : ∀ {l : List PyData}, (∀ d ∈ l, d.bulk ≤ n) → PyData.bulkAll l ≤ (n + 1) * l.length
  | [], _ => Nat.zero_le _
  | d :: r, h => by
    have a := h d List.mem_cons_self
    have b := bulk_le (l := r) fun e he => h e (List.mem_cons_of_mem _ he)
    rw [PyData.bulkAll, List.length_cons, Nat.mul_succ]
    omega
theorem depth_le {n : Nat} : ∀ {l : List PyData}, (∀ d ∈ l, d.depth ≤ n) → PyData.depthAll l ≤ n
  | [], _ => Nat.zero_le _
  | d :: r, h => by
    rw [PyData.depthAll]
    exact Nat.max_le.mpr ⟨h d List.mem_cons_self, depth_le fun e he => h e (List.mem_cons_of_mem _ he)⟩
theorem lfall_of : ∀ {l : List PyData}, (∀ d ∈ l, Lf d) → LfAll l
  | [], _ => .nil
  | d :: r, h => .cons (h d List.mem_cons_self) (lfall_of fun e he => h e (List.mem_cons_of_mem _ he))
/-- what is as small as told -/
structure Sm (d : PyData) (b : Nat) (n : Nat) : Prop where
  lf : Lf d
  bk : d.bulk ≤ b
  dp : d.depth ≤ n
theorem sm_int (i : Int) (h : i.natAbs < 10 ^ 13) (n : Nat) : Sm (.int i) 0 n := ⟨.int i h, Nat.le_refl _, by rw [PyData.depth]; exact Nat.zero_le _⟩
theorem sm_tup {l : List PyData} {b n k : Nat} (h : ∀ d ∈ l, Sm d b n) (hk : (b + 1) * l.length ≤ k) : Sm (.tuple l) k (n + 1) := by
  refine ⟨.tup (lfall_of fun d hd => (h d hd).lf), ?_, ?_⟩
  · rw [PyData.bulk]
    exact Nat.le_trans (bulk_le fun d hd => (h d hd).bk) hk
  · rw [PyData.depth]
    have := depth_le fun d hd => (h d hd).dp
    omega
theorem Sm.mono {d : PyData} {b b' n n' : Nat} (h : Sm d b n) (hb : b ≤ b') (hn : n ≤ n') : Sm d b' n' := ⟨h.lf, Nat.le_trans h.bk hb, Nat.le_trans h.dp hn⟩
theorem sm_ints {l : List Int} {k : Nat} (h : ∀ x ∈ l, x.natAbs < 10 ^ 13) (hk : l.length ≤ k) : Sm (tI l) k 1 := by
  refine sm_tup (b := 0) (n := 0) (fun d hd => ?_) (by rw [List.length_map]; omega)
  obtain ⟨x, hx, rfl⟩ := List.mem_map.mp hd
  exact sm_int x (h x hx) 0

/-! ### how many choices of six rows of four at most -/
theorem max3_dec : (∀ a b c : Fin 5, ∀ t : Fin 13, (wtab 12 [(a.val : Int), (b.val : Int), (c.val : Int)]).getD t.val 0 ≤ 19) ∧ (∀ a b : Fin 5, ∀ t : Fin 13, (wtab 12 [(a.val : Int), (b.val : Int)]).getD t.val 0 ≤ 19) ∧ (∀ a : Fin 5, ∀ t : Fin 13, (wtab 12 [(a.val : Int)]).getD t.val 0 ≤ 19) ∧
    (∀ t : Fin 13, (wtab 12 []).getD t.val 0 ≤ 19) := by decide +kernel
theorem fin5 {a : Int} (h : 0 ≤ a ∧ a ≤ 4) : ∃ x : Fin 5, a = (x.val : Int) := ⟨⟨a.toNat, by omega⟩, by show a = ((a.toNat : Nat) : Int); omega⟩
theorem max3 (ls : List Int) (hl : ls.length ≤ 3) (h : ∀ l ∈ ls, 0 ≤ l ∧ l ≤ 4) (t : Int) : wAll ls t ≤ 19 := by
  have nn : ∀ l ∈ ls, 0 ≤ l := fun l m => (h l m).1
  have T := tall_all ls nn
  by_cases c1 : t < 0
  · rw [T.lo t c1]
    decide
  by_cases c2 : ls.sum < t
  · rw [T.hi t c2]
    decide
  have s12 : ls.sum ≤ 12 := by
    match ls, hl, h with
    | [], _, _ => decide
    | [a], _, h =>
      have := h a (by simp)
      simp only [List.sum_cons, List.sum_nil]
      omega
    | [a, b], _, h =>
      have := h a (by simp)
      have := h b (by simp)
      simp only [List.sum_cons, List.sum_nil]
      omega
    | [a, b, c], _, h =>
      have := h a (by simp)
      have := h b (by simp)
      have := h c (by simp)
      simp only [List.sum_cons, List.sum_nil]
      omega
  have e := (wtab_at 12 ls nn).2 t.toNat (by omega)
  rw [show ((t.toNat : Nat) : Int) = t by omega] at e
  rw [← e]
  obtain ⟨d3, d2, d1, d0⟩ := max3_dec
  have key : (wtab 12 ls).getD t.toNat 0 ≤ 19 := by
    match ls, hl, h with
    | [], _, _ => exact d0 ⟨t.toNat, by omega⟩
    | [a], _, h =>
      obtain ⟨x, rfl⟩ := fin5 (h a (by simp))
      exact d1 x ⟨t.toNat, by omega⟩
    | [a, b], _, h =>
      obtain ⟨x, rfl⟩ := fin5 (h a (by simp))
      obtain ⟨y, rfl⟩ := fin5 (h b (by simp))
      exact d2 x y ⟨t.toNat, by omega⟩
    | [a, b, c], _, h =>
      obtain ⟨x, rfl⟩ := fin5 (h a (by simp))
      obtain ⟨y, rfl⟩ := fin5 (h b (by simp))
      obtain ⟨z, rfl⟩ := fin5 (h c (by simp))
      exact d3 x y z ⟨t.toNat, by omega⟩
  omega
theorem max_from : ∀ (r : List Int), (∀ l ∈ r, 0 ≤ l ∧ l ≤ 4) → ∀ (F : Int → Int) (m : Int), 0 ≤ m → (∀ t, F t ≤ m) → ∀ t, wFrom F r t ≤ ((5 ^ r.length : Nat) : Int) * m
  | [], _, F, m, _, hf, t => by
    show F t ≤ ((1 : Nat) : Int) * m
    have := hf t
    omega
  | l :: r, h, F, m, hm, hf, t => by
    have hl := h l List.mem_cons_self
    have st : ∀ t, wstep l.toNat F t ≤ 5 * m := fun t => by
      have a := sm_mul m (fun k => F (t - k)) (l.toNat + 1) fun i _ _ => hf _
      have b : ((l.toNat + 1 : Nat) : Int) * m ≤ 5 * m := Int.mul_le_mul_of_nonneg_right (by omega) hm
      exact Int.le_trans a b
    have z := max_from r (fun x hx => h x (List.mem_cons_of_mem _ hx)) (wstep l.toNat F) (5 * m) (by omega) st t
    have e : ((5 ^ (l :: r).length : Nat) : Int) * m = ((5 ^ r.length : Nat) : Int) * (5 * m) := by
      rw [List.length_cons, Nat.pow_succ, Int.natCast_mul, Int.mul_assoc]
      rfl
    rw [e]
    exact z
theorem few6 (ls : List Int) (hl : ls.length ≤ 6) (h : ∀ l ∈ ls, 0 ≤ l ∧ l ≤ 4) (t : Int) : wAll ls t ≤ 2375 := by
  have e : wAll ls = wFrom (wAll (ls.take 3)) (ls.drop 3) := by
    unfold wAll wFrom
    rw [← List.foldl_append, List.take_append_drop]
  rw [e]
  have z := max_from (ls.drop 3) (fun x hx => h x (List.mem_of_mem_drop hx)) (wAll (ls.take 3)) 19 (by decide) (max3 (ls.take 3) (by rw [List.length_take]; omega) fun x hx => h x (List.mem_of_mem_take hx)) t
  have l3 : (ls.drop 3).length ≤ 3 := by
    rw [List.length_drop]
    omega
  have p : 5 ^ (ls.drop 3).length ≤ 5 ^ 3 := Nat.pow_le_pow_right (by decide) l3
  have p2 : (5 : Nat) ^ 3 = 125 := by decide
  generalize 5 ^ (ls.drop 3).length = q at z p
  omega
theorem lens_b {rows : List (List Int)} {b : Int} (h : ∀ r ∈ rows, 1 ≤ r.length ∧ (r.length : Int) ≤ b) : ∀ l ∈ lens rows, 1 ≤ l ∧ l ≤ b := fun l hl => by
  unfold lens at hl
  obtain ⟨r, hr, rfl⟩ := List.mem_map.mp hl
  have := h r hr
  omega
theorem cnt6 {rows : List (List Int)} {t : Int} (hl : rows.length ≤ 6) (h : ∀ r ∈ rows, 1 ≤ r.length ∧ (r.length : Int) ≤ 4) (h0 : 0 ≤ t) (h1 : t ≤ 4000) : Cnt rows t := by
  have b := lens_b h
  refine ⟨⟨fun l hl => by have := b l hl; omega, by rw [lens_len]; omega⟩, h0, h1, ?_, ?_⟩
  · have := few6 (lens rows) (by rw [lens_len]; exact hl) (fun l hl => by have := b l hl; omega) t
    omega
  · exact fine_few (b := 5) (m := 6) (by decide) (fun l hl => by have := b l hl; omega) (by rw [lens_len]; exact hl) (by decide)
/-! fourteen rows of one each -/
def ones (ms : List Int) : List (List Int) := ms.map fun m => [m]
theorem lens_ones (ms : List Int) : lens (ones ms) = List.replicate ms.length 1 := by
  unfold lens ones
  rw [List.map_map]
  induction ms with
  | nil => rfl
  | cons x r ih =>
    rw [List.map_cons, ih, List.length_cons, List.replicate_succ]
    rfl
theorem w14 : wAll (List.replicate 14 1) 1 = 14 ∧ wAll (List.replicate 14 1) 2 = 91 ∧ wAll (List.replicate 14 1) 3 = 364 ∧ wAll (List.replicate 14 1) 4 = 1001 ∧ wAll (List.replicate 14 1) 5 = 2002 ∧ wAll (List.replicate 14 1) 6 = 3003 ∧ wAll (List.replicate 14 1) 7 = 3432 :=
  ⟨w_ones 14 1 14 (by decide +kernel), w_ones 14 2 91 (by decide +kernel), w_ones 14 3 364 (by decide +kernel), w_ones 14 4 1001 (by decide +kernel), w_ones 14 5 2002 (by decide +kernel), w_ones 14 6 3003 (by decide +kernel), w_ones 14 7 3432 (by decide +kernel)⟩
theorem cnt14 {ms : List Int} (hl : ms.length = 14) {t : Int} (h0 : 1 ≤ t) (h1 : t ≤ 6) : Cnt (ones ms) t := by
  have e := lens_ones ms
  rw [hl] at e
  refine ⟨⟨fun l hl => by rw [e] at hl; rw [List.eq_of_mem_replicate hl]; decide, by rw [e, List.length_replicate]; decide⟩, by omega, by omega, ?_, ?_⟩
  · rw [e]
    obtain ⟨a1, a2, a3, a4, a5, a6, _⟩ := w14
    have : t = 1 ∨ t = 2 ∨ t = 3 ∨ t = 4 ∨ t = 5 ∨ t = 6 := by omega
    rcases this with rfl | rfl | rfl | rfl | rfl | rfl <;> omega
  · rw [e]
    exact fine_few (b := 2) (m := 14) (by decide) (fun l hl => by rw [List.eq_of_mem_replicate hl]; decide) (by rw [List.length_replicate]; exact Nat.le_refl _) (by decide)
theorem sumx14 {ms : List Int} (hl : ms.length = 14) {cap : Int} (hc : 7 ≤ cap) : SumX (ones ms) cap 6 := by
  have e := lens_ones ms
  rw [hl] at e
  have L := (cnt14 hl (t := 1) (by decide) (by decide)).L
  have s : (lens (ones ms)).sum = 14 := by
    rw [e]
    decide
  refine ⟨L, ?_, fun t h0 h1 => cnt14 hl h0 h1, ?_, ?_, by decide⟩
  · have := mn2_b (l := cap) (x := (lens (ones ms)).sum)
    rw [s] at this ⊢
    omega
  · rw [e]
    show 3003 < wAll (List.replicate 14 1) 7
    rw [w14.2.2.2.2.2.2]
    decide
  · rw [e]
    show wAll (List.replicate 14 1) 7 < 10 ^ 18
    rw [w14.2.2.2.2.2.2]
    decide
/-! how they are shown -/
theorem rows_sm {rows : List (List Int)} {b : Nat} (fit : ∀ r ∈ rows, ∀ x ∈ r, x.natAbs < 10 ^ 13) (w : ∀ r ∈ rows, r.length ≤ b) : Sm (.tuple (rows.map tI)) ((b + 1) * rows.length) 2 :=
  sm_tup (b := b) (n := 1) (fun d hd => by
    obtain ⟨r, hr, rfl⟩ := List.mem_map.mp hd
    exact sm_ints (fit r hr) (w r hr)) (by rw [List.length_map]; exact Nat.le_refl _)
theorem smE (k n : Nat) : Sm (.tuple []) k (n + 1) := sm_tup (b := 0) (n := n) (fun d hd => by cases hd) (Nat.zero_le _)
theorem four_showy {a b c d : PyData} {k : Nat} (ha : Sm a k 4) (hb : Sm b k 4) (hc : Sm c k 4) (hd : Sm d k 4) (hk : k ≤ 200000) : Showy (.tuple [a, b, c, d]) := by
  have z : Sm (.tuple [a, b, c, d]) ((k + 1) * 4) 5 := sm_tup (b := k) (n := 4) (fun e he => by
    simp only [List.mem_cons, List.not_mem_nil, or_false] at he
    rcases he with rfl | rfl | rfl | rfl <;> assumption) (Nat.le_refl _)
  exact z.lf.showy2 (Nat.le_trans z.dp (by decide)) (Nat.le_trans z.bk (by omega))
theorem pairs_showy {rows : List (List Int)} {t : Int} (cn : Cnt rows t) (hl : rows.length ≤ 6) (w : ∀ r ∈ rows, 1 ≤ r.length ∧ (r.length : Int) ≤ 4) (fit : ∀ r ∈ rows, ∀ x ∈ r, x.natAbs < 10 ^ 13) : Showy (dPairs rows t) := by
  have e := mng_len (rows := rows) (t := t) cn.t0
  have few := cn.few
  unfold dPairs
  refine four_showy (k := 40000) ((rows_sm (b := 4) fit fun r hr => by have := w r hr; omega).mono (by omega) (by decide)) (smE _ _) ?_ (smE _ _) (by decide)
  refine Sm.mono (sm_tup (b := 6) (n := 1) (k := 7 * 3003) (fun d hd => ?_) (by rw [List.length_map]; omega)) (by decide) (by decide)
  obtain ⟨r, hr, rfl⟩ := List.mem_map.mp hd
  have l1 := mng_len1 r hr
  refine sm_ints (fun x hx => ?_) (by rw [negL_len]; omega)
  unfold negL at hx
  obtain ⟨y, hy, rfl⟩ := List.mem_map.mp hx
  have := mng_mem (P := fun x => x.natAbs < 10 ^ 13) cn.t0 fit r hr y hy
  omega
theorem getD_fit {r : List Int} {j : Nat} (h : ∀ x ∈ r, x.natAbs < 10 ^ 13) : (r.getD j 0).natAbs < 10 ^ 13 := by
  rw [List.getD_eq_getElem?_getD]
  cases e : r[j]? with
  | none => decide
  | some x => exact h x (List.mem_of_getElem? e)
theorem rowAt_fit {rows : List (List Int)} {k : Nat} (h : ∀ r ∈ rows, ∀ x ∈ r, x.natAbs < 10 ^ 13) : ∀ x ∈ rowAt rows k, x.natAbs < 10 ^ 13 := by
  unfold rowAt
  rw [List.getD_eq_getElem?_getD]
  cases e : rows[k]? with
  | none => exact fun x hx => by cases hx
  | some r => exact h r (List.mem_of_getElem? e)
theorem codes_showy {rows : List (List Int)} {f : Int} {p : Nat} (n60 : rows.length ≤ 60) (w : ∀ r ∈ rows, r.length ≤ 2) (fit : ∀ r ∈ rows, ∀ x ∈ r, x.natAbs < 10 ^ 13) (hp : p ≤ 6) (hf : 0 ≤ f ∧ f ≤ 10 ^ 11) : Showy (dCodes rows f p) := by
  have p11 : (10 : Int) ^ 11 = 100000000000 := by decide
  have p13 : (10 : Nat) ^ 13 = 10000000000000 := by decide
  have a0 : ∀ k, (h0 rows k).natAbs < 10 ^ 13 := fun k => getD_fit (rowAt_fit fit)
  have a1 : ∀ k, (h1 rows k).natAbs < 10 ^ 13 := fun k => getD_fit (rowAt_fit fit)
  unfold dCodes
  refine four_showy (k := 40000) ((rows_sm (b := 2) fit w).mono (by omega) (by decide)) ?_ ?_ (smE _ _) (by decide)
  · refine Sm.mono (sm_tup (b := 500) (n := 3) (k := 501 * 6) (fun d hd => ?_) (by rw [List.length_map, List.length_range]; omega)) (by decide) (by decide)
    obtain ⟨j, hj, rfl⟩ := List.mem_map.mp hd
    have hj := List.mem_range.mp hj
    have ml := mean_len rows j rows.length
    have t : Sm (.tuple (mean rows j rows.length)) 120 2 := sm_tup (b := 1) (n := 1) (fun d hd => by
      unfold mean at hd
      obtain ⟨k, _, rfl⟩ := List.mem_map.mp hd
      exact sm_ints (fun x hx => by rw [List.mem_singleton.mp hx]; exact a0 k) (Nat.le_refl 1)) (by omega)
    have i := sm_int (f + (j : Int)) (by omega) 2
    refine ⟨.tup (.cons i.lf (.cons t.lf .nil)), ?_, ?_⟩
    · have a := i.bk
      have b := t.bk
      unfold nmC
      rw [PyData.bulk, PyData.bulkAll, PyData.bulkAll, PyData.bulkAll]
      omega
    · have a := i.dp
      have b := t.dp
      unfold nmC
      rw [PyData.depth, PyData.depthAll, PyData.depthAll, PyData.depthAll]
      omega
  · have lc := lastC_len rows rows.length
    have cl := clsC_len rows f p rows.length
    have ip : rows.length * p ≤ 60 * 6 := Nat.mul_le_mul n60 hp
    refine Sm.mono (sm_tup (b := 2) (n := 1) (k := 3 * 420) (fun d hd => ?_) (by rw [List.length_append, cl]; omega)) (by decide) (by decide)
    rcases List.mem_append.mp hd with z | z
    · unfold lastC at z
      obtain ⟨k, _, rfl⟩ := List.mem_map.mp z
      have := a1 k
      exact sm_ints (fun x hx => by rw [List.mem_singleton.mp hx]; omega) (Nat.le_succ 1)
    · unfold clsC at z
      obtain ⟨k, _, z⟩ := List.mem_flatMap.mp z
      unfold clC at z
      obtain ⟨j, hj, rfl⟩ := List.mem_map.mp z
      have hj := List.mem_range.mp hj
      have := a0 k
      unfold cl1
      refine sm_ints (fun x hx => ?_) (Nat.le_refl 2)
      simp only [List.mem_cons, List.not_mem_nil, or_false] at hx
      rcases hx with rfl | rfl
      · omega
      · split <;> omega
theorem shapeL (cs : List (List Int)) : SeqAt.shaped (.list (cs.map tI)) = true := by
  have l : (PyData.list (cs.map tI)).canLay0 = true := by
    rw [PyData.canLay0]
    exact lay_tups cs
  have d : (PyData.list (cs.map tI)).depth ≤ 2 := by
    rw [PyData.depth]
    have : PyData.depthAll (cs.map tI) ≤ 1 := dep_tups cs
    omega
  unfold SeqAt.shaped
  rw [l, decide_eq_true (Nat.le_trans d (by decide))]
  rfl
theorem eqvL (cs : List (List Int)) : PyData.eqv (.list (cs.map tI)) (.list (cs.map tI)) = true := SeqAt.eqv_refl _ (by
  rw [PyData.canLay0]
  exact lay_tups cs)

/-! ### the law's own knot of codes -/
theorem dig_int2 (k j : Nat) : decide (V.int ((0 + (k : Int)) / ((2 ^ j : Nat) : Int) % 2) = V.int 1) = dig k j := by
  rw [Int.zero_add, ← dig_int, Int.natCast_pow]
  rfl
def spPower : Sp := fun vs H Q _ => ∃ (p : Nat) (z : Int), vs = [.int z] ∧ z = (p : Int) ∧ p ≤ 6 ∧ ∀ H', Same H H' → Q (.int ((2 ^ p : Nat) : Int)) H'
def spLCodes : Sp := fun vs H Q _ => ∃ (a : Addr) (rs : List V) (rows : List (List Int)) (f : Int), vs = [.ref a, .int f] ∧ H a = some (.lst rs) ∧ TpAll H rs (rows.map tI) ∧ RowsOk rows ∧ ∀ H' v, Same H H' → Tp H' v (dCodes rows f (pl rows.length)) → Q v H'
theorem row_at {H : Hp} {rs : List V} {rows : List (List Int)} {i : Nat} (ta : TpAll H rs (rows.map tI)) (hi : i < rows.length) : ∃ p, rs[i]? = some (.ref p) ∧ H p = some (.tup ((rowAt rows i).map V.int)) := by
  have hr : rows[i]? = some rows[i] := List.getElem?_eq_getElem hi
  obtain ⟨v, hv, tv⟩ := ta.get (show (rows.map tI)[i]? = some (tI rows[i]) by rw [List.getElem?_map, hr]; rfl)
  obtain ⟨p, rfl, hp⟩ := tp_row tv
  exact ⟨p, hv, by rw [rowAt_of hr]; exact hp⟩
theorem tp_nmC {H : Hp} {v : V} {rows : List (List Int)} {f : Int} {j : Nat} (h : Tp H v (nmC rows f j)) : ∃ a u, v = .ref a ∧ H a = some (.tup [.int (f + (j : Int)), u]) := by
  unfold nmC at h
  cases h with
  | tup ha r =>
    cases r with
    | cons h1 r =>
      cases r with
      | cons h2 r =>
        cases r
        cases h1
        exact ⟨_, _, rfl, ha⟩
section
variable {P : Program} {w : World} {K : PySem.W.Frag} {mg : Str → Option Value} {base : Heap}
theorem has_power {cs : Nat → Addr} (T : Top K mg cs) : Has P w K mg base 1 "_law_power" ["_law_place"] spPower := by
  refine has_of T.d__law_power sc__law_power bd__law_power (fun vs H Q E h => ?_) (fun f cdv A outer s H vs Q E hr h => ?_)
  · obtain ⟨p, z, rfl, _⟩ := h
    rfl
  · have hu := hu_of hr
    have nd := sc__law_power.nd
    obtain ⟨p, z, rfl, rfl, hp, k⟩ := h
    refine ⟨_, (pss_one (ps_ret (pe_ix ix_list (pe_lst (pa_cons pe_int (pa_cons pe_int (pa_cons pe_int (pa_cons pe_int (pa_cons pe_int (pa_cons pe_int (pa_cons pe_int pa_nil)))))))) (pv 0) (fun _ _ => rfl)))), ?_⟩
    have line : sizeLine = 16777216 := sizeLine_eq
    refine ⟨by show 7 ≤ sizeLine; omega, fun d nd => ⟨_, rfl, d, _, _, _, rfl, rfl, SqL.of upd_same, at_of (j := p) rfl ?_, k _ (same_new nd)⟩⟩
    have c : p = 0 ∨ p = 1 ∨ p = 2 ∨ p = 3 ∨ p = 4 ∨ p = 5 ∨ p = 6 := by omega
    rcases c with rfl | rfl | rfl | rfl | rfl | rfl | rfl <;> rfl
theorem pow_side {j : Nat} (h : j ≤ 6) : (0 : Int) < ((2 ^ j : Nat) : Int) ∧ (((2 ^ j : Nat) : Int)).natAbs.log2 < 9000 := by
  have a : 0 < 2 ^ j := Nat.two_pow_pos j
  have b : 2 ^ j ≤ 2 ^ 6 := Nat.pow_le_pow_right (by decide) h
  have e : (2 : Nat) ^ 6 = 64 := by decide
  generalize 2 ^ j = q at a b
  refine ⟨by omega, Nat.lt_of_le_of_lt (Nat.log2_le_self _) (by omega)⟩
theorem has_lcodes {cs : Nat → Addr} (T : Top K mg cs) (h__law_power : Has P w K mg base 1 "_law_power" ["_law_place"] spPower) : Has P w K mg base 2 "_law_codes" ["_law_rows_here", "_law_first"] spLCodes := by
  refine has_of T.d__law_codes sc__law_codes bd__law_codes (fun vs H Q E h => ?_) (fun f cdv A outer s H vs Q E hr h => ?_)
  · obtain ⟨a, rs, rows, f, rfl, _⟩ := h
    rfl
  · have hu := hu_of hr
    have nd := sc__law_codes.nd
    obtain ⟨a, rs, rows, fi, rfl, ha, ta, ok, k⟩ := h
    refine ⟨_, (pss_cons (ps_asg (pe_tup (pa_cons (pe_lst pa_nil) (pa_cons (pe_lc (own := [("_law_row", 8)]) (by rfl) nd (pi_list (pv 0)) (blkOk_by (own := [("_law_row", 8)]) (N := nm__law_codes) (sc := defScope s__law_codes) (by decide +kernel)) (fun _ _ _ _ _ => pg_name (i := 8) nd rfl (.inl rfl)) (fun _ _ _ _ _ => pts_one (pt_cmpR op_eq (pe_callB (len_seqK (K := K) rfl) (by rfl) T.b_len (by decide +kernel) (pa_cons (pv 8) pa_nil)) pe_int (nomark _))) (fun _ _ _ _ _ => (pe_tup (pa_cons (pe_op op_sub pe_int (pe_ix (ix_tupK (K := K) rfl) (pv 8) pe_int (fun _ _ => rfl))) pa_nil)))) (pa_cons pe_int pa_nil)))) (pg_tup (by rfl) (pgs_cons (pg_name (i := 2) nd rfl (.inl rfl)) (pgs_cons (pg_name (i := 3) nd rfl (.inl rfl)) (pgs_cons (pg_name (i := 4) nd rfl (.inr rfl)) pgs_nil)))))
    (pss_cons (ps_while PassesOwn.never (pt_cmpR op_lt (pe_has h__law_power (hr.mono (by omega)) (by rfl) (pa_cons (pv 4) pa_nil)) (pe_callB call_len_seq (by rfl) T.b_len (by decide +kernel) (pa_cons (pv 0) pa_nil)) (nomark _)) (pss_cons (ps_setLc (i := 6) (own := [("_law_at_here", 5)]) (by rfl) nd rfl rfl (sw_true rfl rfl rfl (by decide +kernel)) (pi_range1 (by rfl) T.b_range (pa_cons (pe_callB call_len_seq (by rfl) T.b_len (by decide +kernel) (pa_cons (pv 0) pa_nil)) pa_nil)) (blkOk_by (own := [("_law_at_here", 5)]) (N := nm__law_codes) (sc := defScope s__law_codes) (by decide +kernel)) (fun _ _ _ _ _ => pg_name (i := 5) nd rfl (.inl rfl)) (fun _ _ _ _ _ => pts_one (pt_cmpR op_eq (pe_op op_mod (pe_op op_fdivW (pv 5) (pe_has h__law_power (hr.mono (by omega)) (by rfl) (pa_cons (pv 4) pa_nil))) pe_int) pe_int (nomark _))) (fun _ _ _ _ _ => (pe_tup (pa_cons (pe_ix (ix_tupK (K := K) rfl) (pe_ix (ix_listK (K := K) rfl) (pv 0) (pv 5) (fun _ _ => rfl)) pe_int (fun _ _ => rfl)) pa_nil))))
    (pss_one (ps_asg (pe_tup (pa_cons (pe_op op_cat (pv 2) (pe_lst (pa_cons (pe_tup (pa_cons (pe_op op_add (pv 1) (pv 4)) (pa_cons (pe_callTy call_tuple_of (by rfl) T.b_tuple (by decide +kernel) (pa_cons (pv 6) pa_nil)) pa_nil))) pa_nil))) (pa_cons (pe_op op_add (pv 4) pe_int) pa_nil))) (pg_tup (by rfl) (pgs_cons (pg_name (i := 2) nd rfl (.inl rfl)) (pgs_cons (pg_name (i := 4) nd rfl (.inr rfl)) pgs_nil)))))))
    (pss_cons (ps_for PassesOwn.never rfl (pi_range1 (by rfl) T.b_range (pa_cons (pe_callB call_len_seq (by rfl) T.b_len (by decide +kernel) (pa_cons (pv 0) pa_nil)) pa_nil)) (pg_name (i := 5) nd rfl (.inl rfl))
      (pss_one (ps_for PassesOwn.never rfl (pi_range1 (by rfl) T.b_range (pa_cons (pe_callB call_len_seq (by rfl) T.b_len (by decide +kernel) (pa_cons (pv 2) pa_nil)) pa_nil)) (pg_name (i := 4) nd rfl (.inr rfl))
      (pss_cons (ps_set (i := 7) nd rfl (.inl rfl) (pe_ix ix_tup (pe_ix ix_list (pv 2) (pv 4) (fun _ _ => rfl)) pe_int (fun _ _ => rfl)))
    (pss_one (ps_expr (pe_bm PySem.F.plainAttrs_list PySem.F.slot_list_append PySem.F.type_list_append mt_append (pv 3) (pa_cons (pe_tup (pa_cons (pe_op op_sub pe_int (pe_ix ix_tup (pe_ix ix_list (pv 0) (pv 5) (fun _ _ => rfl)) pe_int (fun _ _ => rfl))) (pa_cons (pe_ifExp (pt_cmpR op_eq (pe_op op_mod (pe_op op_fdivW (pv 5) (pe_has h__law_power (hr.mono (by omega)) (by rfl) (pa_cons (pv 4) pa_nil))) pe_int) pe_int (nomark _)) (pv 7) (pe_op op_sub pe_int (pv 7))) pa_nil))) pa_nil))))))))
    (pss_one (ps_ret (pe_tup (pa_cons (pe_callTy call_tuple_of (by rfl) T.b_tuple (by decide +kernel) (pa_cons (pv 0) pa_nil)) (pa_cons (pe_callTy call_tuple_of (by rfl) T.b_tuple (by decide +kernel) (pa_cons (pv 2) pa_nil)) (pa_cons (pe_callTy call_tuple_of (by rfl) T.b_tuple (by decide +kernel) (pa_cons (pv 3) pa_nil)) (pa_cons (pe_tup pa_nil) pa_nil)))))))))), ?_⟩
    have line : sizeLine = 16777216 := sizeLine_eq
    have la := ta.len
    rw [List.length_map] at la
    obtain ⟨n1, n60, wide⟩ := ok
    have pp := (pl_le n1 n60).2
    have pend : ∀ j, j ≤ pl rows.length → ¬ 2 ^ j < rows.length → j = pl rows.length := fun j h1 h2 => pl_end n1 n60 h1 h2
    have plt : ¬ 2 ^ pl rows.length < rows.length := by have := (pl_le n1 n60).1; omega
    generalize pl rows.length = p at *
    refine ⟨by show 0 ≤ sizeLine; omega, fun N nN => ?_⟩
    have sN := same_new (o := .lst []) nN
    have hN0 : (upd H N (.lst [])) N = some (.lst []) := upd_same
    have ha0 := sN _ _ ha
    have ta0 := ta.kt (KT.same sN)
    generalize upd H N (.lst []) = H0 at sN hN0 ha0 ta0 ⊢
    refine ⟨_, rfl, a, rfl, ⟨_, SqL.of ha0⟩, fun C nC => lc_list (xs := rs) (fun i H' => TpT H0 H' C (lastC rows i)) (TpT.new nC) (fun i H' _ z => SqL.of (z.s _ _ ha0)) (fun i x H' hx z => ?_) (fun H' z => ?_)⟩
    · obtain ⟨pr, r, rfl, hr0, hp⟩ := row_get (ta0.kt (KT.same z.s)) hx
      have ra := rowAt_of hr0
      have wr := wide r (List.mem_of_getElem? hr0)
      have lc := lastC_len rows i
      have li := (List.getElem?_eq_some_iff.mp hr0).1
      refine ⟨rfl, _, rfl, pr, _, rfl, .inr (.inl (.inl hp)), rfl, _, rfl, ?_⟩
      rw [List.length_map]
      by_cases c : 1 < r.length
      · have e2 : r.length = 2 := by omega
        refine iteTd (by rw [e2]; rfl) ⟨_, rfl, pr, _, _, _, rfl, rfl, SqT.of hp, at_of (j := 1) rfl (get_int c), _, _, rfl, rfl, by show 1 ≤ sizeLine; omega, fun q nq => ?_⟩
        rw [lastC_next, ra, if_pos c]
        refine z.put nC (same_new nq) (by omega) (.new nq ?_)
        have e : r.getD 1 0 = h1 rows i := by
          unfold h1
          rw [ra]
        rw [e]
        exact .cons (.int _) .nil
      · refine iteFd (fun z => c ?_) ?_
        · have := V.int.inj z
          omega
        rw [lastC_next, ra, if_neg c, List.append_nil]
        exact z
    rw [la] at z
    obtain ⟨cs, hC, tC⟩ := z.ex
    have s1 := sN.trans z.s
    have hN1 := z.s _ _ hN0
    refine ⟨by show 3 ≤ sizeLine; omega, fun q nq => ⟨q, _, rfl, SqT.of upd_same, rfl, _, _, rfl, _, _, rfl, _, _, rfl, rfl, ?_⟩⟩
    have sq := same_new (o := .tup [V.ref N, .ref C, .int 0]) nq
    have s2 := s1.trans sq
    have hC2 := sq _ _ hC
    have hN2 := sq _ _ hN1
    have tC2 := tC.kt (KT.same sq)
    have nC0 : H C = none := same_freeX sN nC
    have CN0 : C ≠ N := (ne_of_none hN0 nC).symm
    generalize upd H' q (.tup [V.ref N, .ref C, .int 0]) = H2 at s2 hC2 hN2 tC2 ⊢
    have lcl := lastC_len rows rows.length
    refine ⟨fun m σ H' => ∃ (jn : Nat) (N : Addr) (ns : List V) (v6 : Option V), σ = [some (.ref a), some (.int fi), some (.ref N), some (.ref C), some (.int (jn : Int)), none, v6, none, none] ∧ Same H H' ∧ H' C = some (.lst cs) ∧ TpAll H' cs (lastC rows rows.length) ∧ H' N = some (.lst ns) ∧
      TpAll H' ns ((List.range jn).map (nmC rows fi)) ∧ jn ≤ p ∧ C ≠ N ∧ m = p - jn, ⟨_, 0, N, [], none, rfl, s2, hC2, tC2, hN2, .nil, Nat.zero_le _, CN0, rfl⟩, ?_⟩
    rintro m σ H3 ⟨jn, N, ns, v6, rfl, s3, hC, tC, hN, tN, jp, CN, rfl⟩
    have lN := tN.len
    rw [List.length_map, List.length_range] at lN
    refine ⟨_, rfl, jn, _, rfl, rfl, by omega, fun H4 s4 => ⟨_, rfl, a, _, rfl, .inl (SqL.of (s4 _ _ (s3 _ _ ha))), _, _, rfl, rfl, _, rfl, ?_⟩⟩
    rw [la]
    have s34 := s3.trans s4
    have hC := s4 _ _ hC
    have hN := s4 _ _ hN
    have tC := tC.kt (KT.same s4)
    have tN := tN.kt (KT.same s4)
    by_cases c : 2 ^ jn < rows.length
    · have jlt : jn < p := by
        by_cases z : jn = p
        · rw [z] at c
          exact absurd c plt
        · omega
      have sd := pow_side (j := jn) (by omega)
      have ha4 := s34 _ _ ha
      have ta4 := ta.kt (KT.same s34)
      refine iteTd (Int.ofNat_lt.mpr c) ⟨_, fun σ' H' h => h, ?_⟩
      refine ⟨_, rfl, a, _, rfl, .inl (SqL.of ha4), _, rfl, by omega, by omega, fun D hD => lc_range (lo := 0) (fun i H' => TpT H4 H' D (mean rows jn i)) (TpT.new hD) (fun i H5 hi z => ?_) (fun H5 z => ?_)⟩
      · have hi : i < rows.length := by omega
        obtain ⟨pr, gp, hp⟩ := row_at (ta4.kt (KT.same z.s)) hi
        have ml := mean_len rows jn i
        have wr : 1 ≤ (rowAt rows i).length := by
          have e : rows[i]? = some rows[i] := List.getElem?_eq_getElem hi
          rw [rowAt_of e]
          exact (wide _ (List.getElem_mem hi)).1
        refine ⟨rfl, _, rfl, _, rfl, jn, _, rfl, rfl, by omega, fun H6 s6 => ⟨_, _, rfl, rfl, sd, _, _, rfl, rfl, by show (0 : Int) < 2; decide, rfl, _, rfl, ?_⟩⟩
        have hd := dig_int2 i jn
        cases hb : dig i jn with
        | true =>
          refine iteTd (of_decide_eq_true (hd.trans hb)) ⟨_, rfl, _, rfl, a, _, _, _, rfl, rfl, SqL.of (s6 _ _ (z.s _ _ ha4)), at_of (j := i) (by omega) gp, pr, _, _, _, rfl, rfl, SqT.of (s6 _ _ hp), at_of (j := 0) rfl (get_int (by omega)), by show 1 ≤ sizeLine; omega, fun q nq => ?_⟩
          rw [mean_next, if_pos hb]
          refine z.put hD (s6.trans (same_new nq)) (by omega) (.new nq ?_)
          exact .cons (.int _) .nil
        | false =>
          refine iteFd (of_decide_eq_false (hd.trans hb)) ?_
          rw [mean_next, if_neg (by rw [hb]; exact Bool.false_ne_true), List.append_nil]
          obtain ⟨ls, h, t⟩ := z.ex
          exact ⟨z.s.trans s6, ls, s6 _ _ h, t.kt (KT.same s6)⟩
      rw [la, Int.toNat_natCast] at z
      obtain ⟨ms, hM, tM⟩ := z.ex
      have s5 := z.s
      refine ⟨_, rfl, _, rfl, _, rfl, _, _, rfl, rfl, _, rfl, D, _, rfl, .inl ⟨SqL.of hM, fun M nM => ⟨by show 2 ≤ sizeLine; omega, fun q nq => ⟨by show 1 ≤ sizeLine; omega, fun L nL => ?_⟩⟩⟩⟩
      have w1 : Tp (upd H5 M (.tup ms)) (.ref M) (.tuple (mean rows jn rows.length)) := .new nM tM
      have w2 : Tp (upd (upd H5 M (.tup ms)) q (.tup [.int (fi + (jn : Int)), .ref M])) (.ref q) (nmC rows fi jn) := .new nq (.cons (.int _) (.cons w1 .nil))
      have s6 := ((s5.trans (same_new (o := .tup ms) nM)).trans (same_new (o := .tup [.int (fi + (jn : Int)), .ref M]) nq)).trans (same_new (o := .lst [.ref q]) nL)
      have w2 := w2.kt (KT.new (o := .lst [.ref q]) nL)
      have hL : (upd (upd (upd H5 M (.tup ms)) q (.tup [.int (fi + (jn : Int)), .ref M])) L (.lst [.ref q])) L = some (.lst [.ref q]) := upd_same
      generalize upd (upd (upd H5 M (.tup ms)) q (.tup [.int (fi + (jn : Int)), .ref M])) L (.lst [.ref q]) = H6 at w2 s6 hL ⊢
      refine ⟨N, L, _, _, rfl, rfl, s6 _ _ hN, hL, by show ns.length + 1 ≤ sizeLine; omega, fun N' nN' => ⟨_, rfl, _, _, rfl, rfl, by show 2 ≤ sizeLine; omega, fun T nT => ⟨T, _, rfl, SqT.of upd_same, rfl, _, _, rfl, _, _, rfl, rfl, ?_⟩⟩⟩
      have s7 := (s6.trans (same_new (o := .lst (ns ++ [.ref q])) nN')).trans (same_new (o := .tup [.ref N', .int ((jn : Int) + 1)]) nT)
      have s67 := (same_new (o := .lst (ns ++ [.ref q])) nN').trans (same_new (o := .tup [.ref N', .int ((jn : Int) + 1)]) nT)
      refine ⟨p - (jn + 1), by omega, jn + 1, N', ns ++ [.ref q], _, rfl, s34.trans s7, s7 _ _ hC, tC.kt (KT.same s7), same_new nT _ _ upd_same, ?_, by omega, ne_of_none (s6 _ _ hC) nN', rfl⟩
      rw [List.range_succ, List.map_append]
      exact (tN.kt (KT.same s7)).snoc (w2.kt (KT.same s67))
    · have ej := pend jn jp c
      subst ej
      refine iteFd (fun z => c (Int.ofNat_lt.mp z)) ?_
      refine ⟨_, rfl, a, _, rfl, .inl (SqL.of (s34 _ _ ha)), _, rfl, by omega, by omega, for_range (lo := 0) (fun i σ H' => ∃ (v4 v5 v7 : Option V) (cs : List V), σ = [some (.ref a), some (.int fi), some (.ref N), some (.ref C), v4, v5, v6, v7, none] ∧ Same H H' ∧ H' C = some (.lst cs) ∧
        TpAll H' cs (lastC rows rows.length ++ clsC rows fi jn i) ∧ H' N = some (.lst ns) ∧ TpAll H' ns ((List.range jn).map (nmC rows fi))) ⟨_, _, _, cs, rfl, s34, hC, by simpa [clsC] using tC, hN, tN⟩ ?_ ?_⟩
      · rintro i σ H5 hi ⟨v4, v5, v7, cs, rfl, s5, hC, tC, hN, tN⟩
        have hi : i < rows.length := by omega
        have wr : 1 ≤ (rowAt rows i).length := by
          have e : rows[i]? = some rows[i] := List.getElem?_eq_getElem hi
          rw [rowAt_of e]
          exact (wide _ (List.getElem_mem hi)).1
        refine ⟨_, rfl, N, _, rfl, .inl (SqL.of hN), _, rfl, by omega, by omega, for_range (lo := 0) (fun j σ H' => ∃ (v4 v7 : Option V) (cs : List V), σ = [some (.ref a), some (.int fi), some (.ref N), some (.ref C), v4, some (.int (0 + (i : Int))), v6, v7, none] ∧ Same H H' ∧ H' C = some (.lst cs) ∧
          TpAll H' cs (lastC rows rows.length ++ clsC rows fi jn i ++ (List.range j).map (cl1 rows fi i)) ∧ H' N = some (.lst ns) ∧ TpAll H' ns ((List.range jn).map (nmC rows fi))) ⟨_, _, cs, rfl, s5, hC, by simpa using tC, hN, tN⟩ ?_ ?_⟩
        · rintro j σ H6 hj ⟨v4, v7, cs, rfl, s6, hC, tC, hN, tN⟩
          have hj : j < jn := by omega
          have sd := pow_side (j := j) (by omega)
          have lC := tC.len
          have cl := clsC_len rows fi jn i
          have ip : i * jn ≤ 60 * 6 := Nat.mul_le_mul (by omega) pp
          rw [List.length_append, List.length_append, List.length_map, List.length_range] at lC
          have ha6 := s6 _ _ ha
          obtain ⟨pr, gp, hp⟩ := row_at (ta.kt (KT.same s6)) hi
          obtain ⟨v, gv, tv⟩ := tN.get (show ((List.range jn).map (nmC rows fi))[j]? = some (nmC rows fi j) by rw [List.getElem?_map, List.getElem?_range hj]; rfl)
          obtain ⟨qn, u, rfl, hqn⟩ := tp_nmC tv
          refine ⟨_, rfl, _, rfl, N, _, _, _, rfl, rfl, SqL.of hN, at_of (j := j) (by omega) gv, qn, _, _, _, rfl, rfl, SqT.of hqn, at_of (j := 0) rfl rfl, ?_⟩
          refine ⟨_, rfl, .inl ⟨rfl, _, SqL.of hC⟩, _, rfl, _, rfl, a, _, _, _, rfl, rfl, SqL.of ha6, at_of (j := i) (by omega) gp, pr, _, _, _, rfl, rfl, SqT.of hp, at_of (j := 0) rfl (get_int (by omega)), _, _, rfl, rfl, ?_⟩
          refine ⟨_, rfl, _, rfl, j, _, rfl, by omega, by omega, fun H7 s7 => ⟨_, _, rfl, rfl, sd, _, _, rfl, rfl, by show (0 : Int) < 2; decide, rfl, _, rfl, ?_⟩⟩
          have fin : ∀ (q : Addr) (z : Int), H7 q = none → z = (if dig i j = true then fi + (j : Int) else 0 - (fi + (j : Int))) → ∃ (v4' v7' : Option V) (cs' : List V), [some (V.ref a), some (.int fi), some (.ref N), some (.ref C), some (.int (0 + (j : Int))), some (.int (0 + (i : Int))), v6, some (.int (fi + (j : Int))), none] = [some (.ref a), some (.int fi), some (.ref N), some (.ref C), v4', some (.int (0 + (i : Int))), v6, v7', none] ∧
              Same H (upd (upd H7 q (.tup [.int (0 - h0 rows i), .int z])) C (.lst (cs ++ [.ref q]))) ∧ (upd (upd H7 q (.tup [.int (0 - h0 rows i), .int z])) C (.lst (cs ++ [.ref q]))) C = some (.lst cs') ∧
              TpAll (upd (upd H7 q (.tup [.int (0 - h0 rows i), .int z])) C (.lst (cs ++ [.ref q]))) cs' (lastC rows rows.length ++ clsC rows fi jn i ++ (List.range (j + 1)).map (cl1 rows fi i)) ∧
              (upd (upd H7 q (.tup [.int (0 - h0 rows i), .int z])) C (.lst (cs ++ [.ref q]))) N = some (.lst ns) ∧ TpAll (upd (upd H7 q (.tup [.int (0 - h0 rows i), .int z])) C (.lst (cs ++ [.ref q]))) ns ((List.range jn).map (nmC rows fi)) := fun q z nq ez => by
            have w : Tp (upd H7 q (.tup [.int (0 - h0 rows i), .int z])) (.ref q) (cl1 rows fi i j) := by
              refine .new nq ?_
              rw [ez]
              exact .cons (.int _) (.cons (.int _) .nil)
            have sq := s7.trans (same_new (o := .tup [.int (0 - h0 rows i), .int z]) nq)
            generalize upd H7 q (.tup [.int (0 - h0 rows i), .int z]) = H8 at w sq ⊢
            have hC8 := sq _ _ hC
            have kt := KT.lst (o := .lst (cs ++ [.ref q])) hC8
            refine ⟨_, _, cs ++ [.ref q], rfl, same_mut (s6.trans sq) nC0, upd_same, ?_, ?_, (tN.kt (KT.same sq)).kt kt⟩
            · rw [clC_next, ← List.append_assoc]
              exact ((tC.kt (KT.same sq)).snoc w).kt kt
            · rw [upd_ne CN.symm]
              exact sq _ _ hN
          have hd := dig_int2 i j
          cases hb : dig i j with
          | true =>
            refine iteTd (of_decide_eq_true (hd.trans hb)) ⟨_, rfl, by show 2 ≤ sizeLine; omega, fun q nq => ⟨C, cs, .ref q, rfl, rfl, same_new nq _ _ (s7 _ _ hC), by omega, ?_⟩⟩
            exact fin q _ nq (by rw [hb, if_pos rfl])
          | false =>
            refine iteFd (of_decide_eq_false (hd.trans hb)) ⟨_, rfl, _, _, rfl, rfl, by show 2 ≤ sizeLine; omega, fun q nq => ⟨C, cs, .ref q, rfl, rfl, same_new nq _ _ (s7 _ _ hC), by omega, ?_⟩⟩
            exact fin q _ nq (by rw [hb, if_neg Bool.false_ne_true])
        · rintro σ H6 ⟨v4, v7, cs, rfl, s6, hC, tC, hN, tN⟩
          refine ⟨_, _, _, cs, rfl, s6, hC, ?_, hN, tN⟩
          rw [lN, Int.toNat_natCast] at tC
          rw [clsC_next, ← List.append_assoc]
          exact tC
      · rintro σ H5 ⟨v4, v5, v7, cs, rfl, s5, hC, tC, hN, tN⟩
        rw [la, Int.toNat_natCast] at tC
        refine ⟨_, rfl, a, _, rfl, .inl ⟨SqL.of (s5 _ _ ha), fun p1 n1 => ⟨_, rfl, N, _, rfl, .inl ⟨SqL.of (same_new n1 _ _ hN), fun p2 n2 => ⟨_, rfl, C, _, rfl, .inl ⟨SqL.of (same_new n2 _ _ (same_new n1 _ _ hC)), fun p3 n3 => ⟨by show 0 ≤ sizeLine; omega, fun p4 n4 => ⟨by show 4 ≤ sizeLine; omega, fun p5 n5 => ?_⟩⟩⟩⟩⟩⟩⟩⟩
        refine k _ _ ((((s5.trans (same_new n1)).trans (same_new n2)).trans (same_new n3)).trans ((same_new n4).trans (same_new n5))) (.new n5 ?_)
        have w1 : Tp (upd H5 p1 (.tup rs)) (.ref p1) (.tuple (rows.map tI)) := .new n1 (ta.kt (KT.same s5))
        have w2 : Tp (upd (upd H5 p1 (.tup rs)) p2 (.tup ns)) (.ref p2) (.tuple ((List.range jn).map (nmC rows fi))) := .new n2 (tN.kt (KT.new n1))
        have w3 : Tp (upd (upd (upd H5 p1 (.tup rs)) p2 (.tup ns)) p3 (.tup cs)) (.ref p3) (.tuple (lastC rows rows.length ++ clsC rows fi jn rows.length)) := .new n3 ((tC.kt (KT.new n1)).kt (KT.new n2))
        have w4 : Tp (upd (upd (upd (upd H5 p1 (.tup rs)) p2 (.tup ns)) p3 (.tup cs)) p4 (.tup [])) (.ref p4) (.tuple []) := .new n4 .nil
        exact .cons (((w1.kt (KT.new n2)).kt (KT.new n3)).kt (KT.new n4)) (.cons ((w2.kt (KT.new n3)).kt (KT.new n4)) (.cons (w3.kt (KT.new n4)) (.cons w4 .nil)))
end

/-! ### the law -/
def spLaw (K : PySem.W.Frag) : Sp := fun vs H Q _ => ∃ (a : Addr) (ns : List Int), vs = [.ref a] ∧ SqL K H a (ns.map V.int) ∧ ns.length ≤ 63 ∧ ∀ H', Q (.bl true) H'
theorem dpL {K : PySem.W.Frag} {H : Hp} {q : Addr} {ys : List V} {rows : List (List Int)} (h : H q = some (.lst ys)) (t : TpAll H ys (rows.map tI)) : Dp K H (.ref q) (.list (rows.map tI)) := .lst (SqL.of h) t.dp
theorem ones_at (ms : List Int) (i : Nat) {m : Int} (h : ms[i]? = some m) : ((ones ms).take (i + 1)).map tI = ((ones ms).take i).map tI ++ [tI [m]] := by
  unfold ones
  rw [List.take_add_one, List.getElem?_map, h, List.map_append]
  rfl
theorem sum6 {rows : List (List Int)} (hl : rows.length ≤ 6) (h : ∀ r ∈ rows, 1 ≤ r.length ∧ (r.length : Int) ≤ 4) : 0 ≤ (lens rows).sum ∧ (lens rows).sum ≤ 24 := by
  have b := lens_b h
  have L : Lens (lens rows) := (cnt6 hl h (t := 0) (by decide) (by decide)).L
  refine ⟨L.sum.1, ?_⟩
  have key : ∀ l : List Int, (∀ x ∈ l, x ≤ 4) → l.sum ≤ 4 * (l.length : Int) := by
    intro l
    induction l with
    | nil => intro _; decide
    | cons x r ih =>
      intro h
      have a := h x List.mem_cons_self
      have c := ih fun y hy => h y (List.mem_cons_of_mem _ hy)
      rw [List.sum_cons, List.length_cons]
      omega
  have z := key (lens rows) fun x hx => (b x hx).2
  rw [lens_len] at z
  omega
section
variable {P : Program} {w : World} {K : PySem.W.Frag} {mg : Str → Option Value} {base : Heap}
theorem ok_law {f : Addr} {fd : FuncData} (F : Fun K "law" "law" s_law f fd) {cs : Nat → Addr} (T : Top K mg cs) (h__law_begun : Has P w K mg base 1 "_law_begun" ["_law_script"] (spBegun K)) (h__law_draw : Has P w K mg base 1 "_law_draw" ["_law_tape", "_law_many"] spDraw)
    (h__law_pick : Has P w K mg base 2 "_law_pick" ["_law_tape", "_law_some"] (spPick K)) (h__law_marks : Has P w K mg base 3 "_law_marks" ["_law_tape", "_law_many"] spFar) (h__law_rows : Has P w K mg base 4 "_law_rows" ["_law_tape", "_law_many", "_law_longest", "_law_most"] spRows)
    (h_pairs_knot : HasX P w K mg base 7 "pairs_knot" ["rows", "most"] (spPairsX (cs 0))) (h__law_pairs : Has P w K mg base 2 "_law_pairs" ["_law_rows_here", "_law_most"] spLPairs) (h_codes_knot : Has P w K mg base 2 "codes_knot" ["rows", "first"] spCodes)
    (h__law_codes : Has P w K mg base 2 "_law_codes" ["_law_rows_here", "_law_first"] spLCodes) (h_sums_knot : HasX P w K mg base 7 "sums_knot" ["rows", "cap", "first"] (spSumsX (cs 0))) : FnG P w K mg base 9 f fd ["_law_script"] (spLaw K) := by
  refine fnG F sc_law (fun vs H Q E h => ?_) (fun cdv Ar outer s H vs Q E hr hgd h => ?_)
  · obtain ⟨a, ns, rfl, _⟩ := h
    rfl
  · have hu := hu_of hr
    have nd := sc_law.nd
    obtain ⟨a, ns, rfl, hS, hl, k⟩ := h
    refine ⟨_, (pss_cons (ps_set (i := 1) nd rfl (.inl rfl) (pe_has h__law_begun (hr.mono (by omega)) (by rfl) (pa_cons (pv 0) pa_nil)))
    (pss_cons (ps_for PassesOwn.never rfl (pi_range1 (by rfl) T.b_range (pa_cons pe_int pa_nil)) (pg_name (i := 2) nd rfl (.inl rfl))
      (pss_cons (ps_set (i := 3) nd rfl (.inl rfl) (pe_has h__law_rows (hr.mono (by omega)) (by rfl) (pa_cons (pv 1) (pa_cons (pe_op op_add pe_int (pe_has h__law_draw (hr.mono (by omega)) (by rfl) (pa_cons (pv 1) (pa_cons pe_int pa_nil)))) (pa_cons (pe_has h__law_pick (hr.mono (by omega)) (by rfl) (pa_cons (pv 1) (pa_cons (pe_lst (pa_cons pe_int (pa_cons pe_int (pa_cons pe_int (pa_cons pe_int pa_nil))))) pa_nil))) (pa_cons pe_int pa_nil))))))
    (pss_cons (ps_set (i := 4) nd rfl (.inl rfl) (pe_has h__law_pick (hr.mono (by omega)) (by rfl) (pa_cons (pv 1) (pa_cons (pe_lst (pa_cons pe_int (pa_cons pe_int (pa_cons pe_int (pa_cons (pe_callB (cr_sum rfl) (by rfl) T.b_sum (by decide +kernel) (pa_cons (pe_lc (own := [("_law_row", 11)]) (by rfl) nd (pi_list (pv 3)) (blkOk_by (own := [("_law_row", 11)]) (N := nm_law) (sc := defScope s_law) (by decide +kernel)) (fun _ _ _ _ _ => pg_name (i := 11) nd rfl (.inl rfl)) (fun _ _ _ _ _ => pts_nil) (fun _ _ _ _ _ => (pe_callB (len_seqK (K := K) rfl) (by rfl) T.b_len (by decide +kernel) (pa_cons (pv 11) pa_nil)))) pa_nil)) (pa_cons (pe_has h__law_draw (hr.mono (by omega)) (by rfl) (pa_cons (pv 1) (pa_cons pe_int pa_nil))) (pa_cons (pe_op op_add pe_int (pe_has h__law_draw (hr.mono (by omega)) (by rfl) (pa_cons (pv 1) (pa_cons pe_int pa_nil)))) pa_nil))))))) pa_nil))))
    (pss_cons (ps_set (i := 5) nd rfl (.inl rfl) (pe_callTy call_list_of (by rfl) T.b_list (by decide +kernel) (pa_cons (pv 3) pa_nil)))
    (pss_cons (ps_if (PW.pt (pw_or (pt_cmpR op_ne (pe_callB (call_reprW hgd hr.units) (by rfl) T.b_repr (by decide +kernel) (pa_cons (pe_hasX0 h_pairs_knot (hr.mono (by omega)) (by rfl) (pa_cons (pv 3) (pa_cons (pv 4) pa_nil))) pa_nil)) (pe_callB (call_reprW hgd hr.units) (by rfl) T.b_repr (by decide +kernel) (pa_cons (pe_has h__law_pairs (hr.mono (by omega)) (by rfl) (pa_cons (pv 5) (pa_cons (pv 4) pa_nil))) pa_nil)) (nomark _)) (pw_or1 (pt_cmpR (op_neD hr.units) (pv 3) (pv 5) (nomark _))))) (pss_one (ps_ret pe_bl)) pss_nil)
    (pss_cons (ps_set (i := 6) nd rfl (.inl rfl) (pe_op op_add pe_int (pe_has h__law_pick (hr.mono (by omega)) (by rfl) (pa_cons (pv 1) (pa_cons (pe_lst (pa_cons (pe_has h__law_draw (hr.mono (by omega)) (by rfl) (pa_cons (pv 1) (pa_cons pe_int pa_nil))) (pa_cons (pe_has h__law_draw (hr.mono (by omega)) (by rfl) (pa_cons (pv 1) (pa_cons pe_int pa_nil))) pa_nil))) pa_nil)))))
    (pss_cons (ps_set (i := 3) nd rfl (.inl rfl) (pe_has h__law_rows (hr.mono (by omega)) (by rfl) (pa_cons (pv 1) (pa_cons (pv 6) (pa_cons (pe_has h__law_pick (hr.mono (by omega)) (by rfl) (pa_cons (pv 1) (pa_cons (pe_lst (pa_cons pe_int (pa_cons pe_int pa_nil))) pa_nil))) (pa_cons pe_int pa_nil))))))
    (pss_cons (ps_par (i := 5) (j := 7) (by rfl) nd rfl rfl (by decide) rfl rfl (pa_cons (pe_callTy call_list_of (by rfl) T.b_list (by decide +kernel) (pa_cons (pv 3) pa_nil)) (pa_cons (pe_has h__law_pick (hr.mono (by omega)) (by rfl) (pa_cons (pv 1) (pa_cons (pe_lst (pa_cons (pe_op op_add (pe_op op_pow pe_int pe_int) pe_int) (pa_cons (pe_op op_pow pe_int pe_int) (pa_cons (pe_op op_add (pe_op op_add (pe_op op_pow pe_int pe_int) pe_int) (pe_has h__law_draw (hr.mono (by omega)) (by rfl) (pa_cons (pv 1) (pa_cons pe_int pa_nil)))) pa_nil)))) pa_nil))) pa_nil)) (by rfl))
    (pss_one (ps_if (PW.pt (pw_or (pt_cmpR op_ne (pe_callB (call_reprW hgd hr.units) (by rfl) T.b_repr (by decide +kernel) (pa_cons (pe_has h_codes_knot (hr.mono (by omega)) (by rfl) (pa_cons (pv 3) (pa_cons (pv 7) pa_nil))) pa_nil)) (pe_callB (call_reprW hgd hr.units) (by rfl) T.b_repr (by decide +kernel) (pa_cons (pe_has h__law_codes (hr.mono (by omega)) (by rfl) (pa_cons (pv 5) (pa_cons (pv 7) pa_nil))) pa_nil)) (nomark _)) (pw_or1 (pt_cmpR (op_neD hr.units) (pv 3) (pv 5) (nomark _))))) (pss_one (ps_ret pe_bl)) pss_nil))))))))))
    (pss_cons (ps_if (pt_cmpR op_gt (pe_has h__law_draw (hr.mono (by omega)) (by rfl) (pa_cons (pv 1) (pa_cons pe_int pa_nil))) pe_int (nomark _)) (pss_one (ps_ret pe_bl)) pss_nil)
    (pss_cons (ps_par (i := 3) (j := 8) (by rfl) nd rfl rfl (by decide) rfl rfl (pa_cons (pe_lc (own := [("_law_mark", 10)]) (by rfl) nd (pi_list (pe_has h__law_marks (hr.mono (by omega)) (by rfl) (pa_cons (pv 1) (pa_cons pe_int pa_nil)))) (blkOk_by (own := [("_law_mark", 10)]) (N := nm_law) (sc := defScope s_law) (by decide +kernel)) (fun _ _ _ _ _ => pg_name (i := 10) nd rfl (.inl rfl)) (fun _ _ _ _ _ => pts_nil) (fun _ _ _ _ _ => (pe_tup (pa_cons (pv 10) pa_nil)))) (pa_cons pe_non pa_nil)) (by rfl))
    (pss_cons (ps_if (pt_cmpR op_ne (pe_callB call_len_seq (by rfl) T.b_len (by decide +kernel) (pa_cons (pe_ix ix_tup (pe_hasX0 h_pairs_knot (hr.mono (by omega)) (by rfl) (pa_cons (pv 3) (pa_cons pe_int pa_nil))) pe_int (fun _ _ => rfl)) pa_nil)) pe_int (nomark _)) (pss_one (ps_ret pe_bl)) pss_nil)
    (pss_cons (ps_try_as (i := 9) rfl rfl nd rfl rfl (names_own T.k_TooMany.mg (by rfl)) takes0 (fun W pn xe tk _ =>
      (pss_one (ps_expr (pe_hasX tk h_pairs_knot (hr.mono (by omega)) (by rfl) (pa_cons (pv 3) (pa_cons pe_int pa_nil)))))) (fun a oe cls d pn hz hf =>
      (pss_one (ps_set (i := 8) nd rfl (.inl rfl) (pe_xf T.k_TooMany.xf (T.k_TooMany.no "many" (by decide)) hz hf (pv 9))))))
    (pss_cons (ps_try_as (i := 9) rfl rfl nd rfl rfl (names_own T.k_TooMany.mg (by rfl)) takes0 (fun W pn xe tk _ =>
      (pss_one (ps_expr (pe_hasX tk h_sums_knot (hr.mono (by omega)) (by rfl) (pa_cons (pv 3) (pa_cons (pe_op op_add pe_int (pe_has h__law_draw (hr.mono (by omega)) (by rfl) (pa_cons (pv 1) (pa_cons pe_int pa_nil)))) (pa_cons (pe_op op_add (pe_op op_pow pe_int pe_int) pe_int) pa_nil))))))) (fun a oe cls d pn hz hf =>
      (pss_one (ps_ret (pe_chain op_eq op_eq (pv 8) pe_int (pe_xf T.k_TooMany.xf (T.k_TooMany.no "many" (by decide)) hz hf (pv 9)))))))
    (pss_one (ps_ret pe_bl))))))))), ?_⟩
    have line : (5000000 : Nat) < sizeLine := by decide
    have cp : ∀ z : Int, 0 ≤ z → z ≤ 1000000 → CPow 10 z := fun z h0 h1 => ⟨h0, h1, by decide⟩
    refine ⟨_, rfl, a, ns, rfl, hS, hl, fun H1 t c ht hc sm tp1 => ?_⟩
    refine ⟨3, rfl, by decide, by decide, for_range (lo := 0) (fun i σ H' => ∃ v2 v3 v4 v5 v6 v7 v8 v9 v10 v11, σ = [some (.ref a), some (.ref t), v2, v3, v4, v5, v6, v7, v8, v9, v10, v11] ∧ Tape H' t c (500 * i)) ⟨none, none, none, none, none, none, none, none, none, none, rfl, tp1⟩ ?_ ?_⟩
    · rintro i σ H2 hi ⟨v2, v3, v4, v5, v6, v7, v8, v9, v10, v11, rfl, tp2⟩
      have hi2 : i < 3 := hi
      -- the rows
      refine ⟨_, rfl, _, rfl, t, c, _, _, rfl, tp2, by omega, by decide, by decide +kernel, fun H3 r3 a3 b3 tp3 kp3 => ⟨_, _, rfl, rfl, _, rfl, by show 4 ≤ sizeLine; decide, fun d4 n4 => ⟨t, c, d4, _, _, rfl, tp3.new n4, by omega, fun H' kp => .inl (SqL.of (kp d4 _ upd_same (tp3.fresh n4))), by show 0 < 4; decide, by show 4 ≤ 1000000; decide, fun H4 i4 v4' g4 tp4 kp4 => ?_⟩⟩⟩
      obtain ⟨z4, rfl, m4⟩ := pick_int (zs := [1, 1, 2, 4]) g4
      have z4b : 1 ≤ z4 ∧ z4 ≤ 4 := by
        simp only [List.mem_cons, List.not_mem_nil, or_false] at m4
        omega
      refine ⟨t, c, (1 + r3).toNat, 20, z4, _, ?e1, tp4, by omega, by omega, by omega, by omega, z4b.1, by omega, fun H5 q ys rows nq hq tq lr wide fit tp5 kp5 => ?_⟩
      case e1 =>
        show [V.ref t, V.int (1 + r3), V.int z4, V.int 20] = _
        rw [Int.toNat_of_nonneg (by omega)]
        rfl
      have lr6 : rows.length ≤ 6 := by omega
      have wide : ∀ r ∈ rows, 1 ≤ r.length ∧ (r.length : Int) ≤ 4 := fun r hr => by have := wide r hr; omega
      have s24 := sum6 lr6 wide
      have ly := tq.len
      rw [List.length_map] at ly
      have qt : q ≠ t := tp4.fresh nq
      -- most
      refine ⟨_, rfl, _, rfl, q, rfl, ⟨_, SqL.of hq⟩, fun D hD => lc_list (xs := ys) (fun i H' => TpT H5 H' D (((lens rows).take i).map PyData.int)) (TpT.new hD) (fun i H' _ z => SqL.of (z.s _ _ hq)) (fun i x H' hx z => ?_) (fun H6 z => ?_)⟩
      · obtain ⟨p, r, rfl, hr0, hp⟩ := row_get (tq.kt (KT.same z.s)) hx
        refine ⟨rfl, yes_go ⟨_, rfl, p, _, rfl, .inr (.inl (.inl hp)), ?_⟩⟩
        rw [lens_next hr0, List.length_map]
        refine z.put hD (Same.refl _) ?_ (.int _)
        have := List.length_take_le' i (lens rows)
        rw [lens_len] at this
        rw [List.length_map]
        omega
      rw [ly, ← lens_len, List.take_length] at z
      obtain ⟨ls, hD6, tD⟩ := z.ex
      rw [tpall_inv tD] at hD6
      have s56 := z.s
      have tp6 := tp5.same s56
      have hq6 := s56 _ _ hq
      have tq6 := tq.kt (KT.same s56)
      refine ⟨D, lens rows, rfl, SqL.of hD6, _, rfl, t, c, _, _, rfl, tp6, by omega, by decide, by decide +kernel, fun H7 r7 a7 b7 tp7 kp7 => ⟨_, rfl, t, c, _, _, rfl, tp7, by omega, by decide, by decide +kernel, fun H8 r8 a8 b8 tp8 kp8 => ⟨_, _, rfl, rfl, by show 6 ≤ sizeLine; decide, fun d9 n9 => ?_⟩⟩⟩
      refine ⟨t, c, d9, _, _, rfl, tp8.new n9, by omega, fun H' kp => .inl (SqL.of (kp d9 _ upd_same (tp8.fresh n9))), by show 0 < 6; decide, by show 6 ≤ 1000000; decide, fun H9 i9 v9' g9 tp9 kp9 => ?_⟩
      obtain ⟨most, rfl, m9⟩ := pick_int (zs := [0, 1, 2, (lens rows).sum, r7, 8 + r8]) g9
      have mb : 0 ≤ most ∧ most ≤ 30 := by
        simp only [List.mem_cons, List.not_mem_nil, or_false] at m9
        omega
      have k69 : Kp t H6 H9 := kp7.trans (kp8.trans ((Kp.new n9).trans kp9))
      have hq9 := tp6.sq hq6 k69
      have tq9 := tq6.kt (KT.kp tp6 k69)
      clear k69 kp7 kp8 kp9 m9 g9 n9 tp7 tp8
      have cn := cnt6 (t := most + 1) lr6 wide (by omega) (by omega)
      have sh := pairs_showy cn lr6 wide fit
      obtain ⟨ds, eds⟩ : ∃ ds, dPairs rows (most + 1) = .tuple ds := ⟨_, rfl⟩
      rw [eds] at sh
      -- kept
      refine ⟨_, rfl, q, _, rfl, .inl (SqL.of hq9), fun kq nk => ?_⟩
      have sk := same_new (o := .lst ys) nk
      have hq10 := sk _ _ hq9
      have tq10 := tq9.kt (KT.same sk)
      have hk10 : (upd H9 kq (.lst ys)) kq = some (.lst ys) := upd_same
      have tp10 := tp9.same sk
      generalize upd H9 kq (.lst ys) = H10 at hq10 tq10 hk10 tp10 ⊢
      refine ⟨_, rfl, _, rfl, q, ys, rows, most, rfl, hq10, tq10, cn.L, by omega, by omega, .inl ⟨cn, fun H11 v s11 tv => ?_⟩⟩
      rw [eds] at tv
      refine tp_reprT tv sh ⟨_, rfl, _, rfl, kq, ys, rows, most, rfl, s11 _ _ hk10, tq10.kt (KT.same s11), cn, fun H12 v' s12 tv' => ?_⟩
      rw [eds] at tv'
      show RRepr K [v'] H12 _
      refine tp_reprT tv' sh ?_
      have s2 := s11.trans s12
      refine ⟨rfl, _, rfl, iteNS rfl ⟨_, rfl, _, rfl, _, _, dpL (s2 _ _ hq10) (tq10.kt (KT.same s2)), dpL (s2 _ _ hk10) (tq10.kt (KT.same s2)), shapeL rows, shapeL rows, _, rfl, ?_⟩⟩
      rw [eqvL]
      refine iteF ?_
      have tp12 := tp10.same s2
      clear hq10 tq10 hk10 sk s11 s12 tv tv' sh cn
      -- how many
      refine ⟨_, rfl, _, rfl, t, c, _, _, rfl, tp12, by omega, by decide, by decide +kernel, fun H13 r13 a13 b13 tp13 kp13 => ⟨_, rfl, t, c, _, _, rfl, tp13, by omega, by decide, by decide +kernel, fun H14 r14 a14 b14 tp14 kp14 => ⟨by show 2 ≤ sizeLine; decide, fun d15 n15 => ?_⟩⟩⟩
      refine ⟨t, c, d15, _, _, rfl, tp14.new n15, by omega, fun H' kp => .inl (SqL.of (kp d15 _ upd_same (tp14.fresh n15))), by show 0 < 2; decide, by show 2 ≤ 1000000; decide, fun H15 i15 v15 g15 tp15 kp15 => ?_⟩
      obtain ⟨z15, rfl, m15⟩ := pick_int (zs := [r13, r14]) g15
      have zb : 0 ≤ z15 ∧ z15 < 40 := by
        simp only [List.mem_cons, List.not_mem_nil, or_false] at m15
        omega
      clear m15 g15 n15 kp13 kp14 kp15
      refine ⟨_, _, rfl, rfl, _, rfl, _, rfl, _, rfl, by show 2 ≤ sizeLine; decide, fun d16 n16 => ⟨t, c, d16, _, _, rfl, tp15.new n16, by omega, fun H' kp => .inl (SqL.of (kp d16 _ upd_same (tp15.fresh n16))), by show 0 < 2; decide, by show 2 ≤ 1000000; decide, fun H16 i16 v16 g16 tp16 kp16 => ?_⟩⟩
      obtain ⟨z16, rfl, m16⟩ := pick_int (zs := [1, 2]) g16
      have z16b : 1 ≤ z16 ∧ z16 ≤ 2 := by
        simp only [List.mem_cons, List.not_mem_nil, or_false] at m16
        omega
      refine ⟨t, c, (1 + z15).toNat, 60, z16, _, ?e2, tp16, by omega, by omega, by omega, by omega, z16b.1, by omega, fun H17 q2 ys2 rows2 nq2 hq2 tq2 lr2 wide2 fit2 tp17 kp17 => ?_⟩
      case e2 =>
        show [V.ref t, V.int (1 + z15), V.int z16, V.int 60] = _
        rw [Int.toNat_of_nonneg (by omega)]
        rfl
      have w2 : ∀ r ∈ rows2, 1 ≤ r.length ∧ r.length ≤ 2 := fun r hr => by have := wide2 r hr; omega
      have ok2 : RowsOk rows2 := ⟨by omega, by omega, w2⟩
      -- kept, the first name
      refine ⟨_, rfl, q2, _, rfl, .inl (SqL.of hq2), fun kq2 nk2 => ?_⟩
      have sk2 := same_new (o := .lst ys2) nk2
      have hq18 := sk2 _ _ hq2
      have tq18 := tq2.kt (KT.same sk2)
      have hk18 : (upd H17 kq2 (.lst ys2)) kq2 = some (.lst ys2) := upd_same
      have tp18 := tp17.same sk2
      generalize upd H17 kq2 (.lst ys2) = H18 at hq18 tq18 hk18 tp18 ⊢
      refine ⟨_, rfl, _, _, rfl, rfl, cp _ (by decide) (by decide), _, _, rfl, rfl, _, _, rfl, rfl, cp _ (by decide) (by decide), _, _, rfl, rfl, cp _ (by decide) (by decide), _, _, rfl, rfl, _, rfl, t, c, _, _, rfl, tp18, by omega, by decide, by decide +kernel, fun H19 r19 a19 b19 tp19 kp19 => ⟨_, _, rfl, rfl, by show 3 ≤ sizeLine; decide, fun d20 n20 => ?_⟩⟩
      refine ⟨t, c, d20, _, _, rfl, tp19.new n20, by omega, fun H' kp => .inl (SqL.of (kp d20 _ upd_same (tp19.fresh n20))), by show 0 < 3; decide, by show 3 ≤ 1000000; decide, fun H20 i20 v20 g20 tp20 kp20 => ?_⟩
      obtain ⟨f20, rfl, m20⟩ := pick_int (zs := [10 ^ (9 : Int).toNat + 1, 10 ^ (10 : Int).toNat, 10 ^ (9 : Int).toNat + 5 + r19]) g20
      have fb : 0 ≤ f20 ∧ f20 ≤ 10 ^ 11 := by
        have p9 : (10 : Int) ^ (9 : Int).toNat = 1000000000 := by decide
        have p10 : (10 : Int) ^ (10 : Int).toNat = 10000000000 := by decide
        have p11 : (10 : Int) ^ 11 = 100000000000 := by decide
        simp only [List.mem_cons, List.not_mem_nil, or_false] at m20
        omega
      have k20 : Kp t H18 H20 := kp19.trans ((Kp.new n20).trans kp20)
      have hq20 := tp18.sq hq18 k20
      have hk20 := tp18.sq hk18 k20
      have tq20 := tq18.kt (KT.kp tp18 k20)
      clear eds
      obtain ⟨ds2, eds⟩ : ∃ ds, dCodes rows2 f20 (pl rows2.length) = .tuple ds := ⟨_, rfl⟩
      have sh := codes_showy (f := f20) (p := pl rows2.length) ok2.2.1 (fun r hr => (w2 r hr).2) fit2 (pl_le ok2.1 ok2.2.1).2 fb
      rw [eds] at sh
      refine ⟨_, _, rfl, _, rfl, _, rfl, q2, ys2, rows2, f20, rfl, hq20, tq20, ok2, fun H21 v s21 tv => ?_⟩
      rw [eds] at tv
      show RRepr K [v] H21 _
      refine tp_reprT tv sh ⟨_, rfl, _, rfl, kq2, ys2, rows2, f20, rfl, s21 _ _ hk20, tq20.kt (KT.same s21), ok2, fun H22 v' s22 tv' => ?_⟩
      rw [eds] at tv'
      show RRepr K [v'] H22 _
      refine tp_reprT tv' sh ?_
      have s3 := s21.trans s22
      refine ⟨rfl, _, rfl, iteNS rfl ⟨_, rfl, _, rfl, _, _, dpL (s3 _ _ hq20) (tq20.kt (KT.same s3)), dpL (s3 _ _ hk20) (tq20.kt (KT.same s3)), shapeL rows2, shapeL rows2, _, rfl, ?_⟩⟩
      rw [eqvL]
      exact iteF ⟨_, _, _, _, _, _, _, _, _, _, rfl, (tp20.same s3).le (by omega)⟩
    · rintro σ H2 ⟨v2, v3, v4, v5, v6, v7, v8, v9, v10, v11, rfl, tp2⟩
      refine ⟨_, rfl, t, c, _, _, rfl, tp2, by omega, by decide, by decide +kernel, fun H3 r3 a3 b3 tp3 kp3 => ⟨_, _, rfl, rfl, _, rfl, ite2 (fun _ => k H3) (fun _ => ?_)⟩⟩
      -- fourteen marks
      refine ⟨_, rfl, t, c, 14, _, rfl, tp3, by omega, by decide, by decide, fun H4 p ms np hp lm un tp4 kp4 => ⟨p, rfl, ⟨_, SqL.of hp⟩, fun D hD => lc_list (xs := ms.map V.int) (fun i H' => TpT H4 H' D (((ones ms).take i).map tI)) (TpT.new hD) (fun i H' _ z => SqL.of (z.s _ _ hp)) (fun i x H' hx z => ?_) (fun H5 z => ?_)⟩⟩
      · obtain ⟨m, rfl, hm⟩ := int_at hx
        have li := (List.getElem?_eq_some_iff.mp hm).1
        have lm : ms.length = 14 := lm
        refine ⟨rfl, yes_go ⟨_, rfl, by show 1 ≤ sizeLine; decide, fun q nq => ?_⟩⟩
        rw [ones_at ms i hm]
        refine z.put hD (same_new nq) ?_ (.new nq (.cons (.int _) .nil))
        have := List.length_take_le' i (ones ms)
        have lo : (ones ms).length = ms.length := List.length_map _
        rw [List.length_map]
        omega
      have lm : ms.length = 14 := lm
      have lo : (ones ms).length = ms.length := List.length_map _
      rw [List.length_map, ← lo, List.take_length] at z
      obtain ⟨ys, hD5, tD5⟩ := z.ex
      have tp5 := tp4.same z.s
      have cn := cnt14 lm (t := 6) (by decide) (by decide)
      have el := lens_ones ms
      rw [lm] at el
      have w6 : wAll (lens (ones ms)) 6 = 3003 := by rw [el]; exact w14.2.2.2.2.2.1
      have w7 : wAll (lens (ones ms)) 7 = 3432 := by rw [el]; exact w14.2.2.2.2.2.2
      -- as many as may be
      refine ⟨_, _, rfl, _, rfl, D, ys, ones ms, 5, rfl, hD5, tD5, cn.L, by decide, by decide, .inl ⟨cn, fun H6 v s6 tv => ?_⟩⟩
      cases tv with
      | tup hv rv =>
        rename_i av xs
        cases rv with
        | cons w1 rv =>
          cases rv with
          | cons w2 rv =>
            cases rv with
            | cons w3 rv =>
              cases rv with
              | cons w4 rv =>
                cases rv
                cases w3 with
                | tup hc3 r3 =>
                  rename_i ac zs
                  have lz := r3.len
                  rw [List.length_map] at lz
                  have lz6 : zs.length = (mng (ones ms) 6).length := lz
                  have lm6 := mng_len (rows := ones ms) (t := 6) (by decide)
                  rw [w6] at lm6
                  refine ⟨av, _, _, _, rfl, rfl, SqT.of hv, at_of (j := 2) rfl rfl, ac, _, rfl, .inr (.inl (.inl hc3)), rfl, _, rfl, iteNS (congrArg V.int (by omega)) ?_⟩
                  -- one more
                  have hD6 := s6 _ _ hD5
                  have tD6 := tD5.kt (KT.same s6)
                  refine ⟨_, rfl, D, ys, ones ms, 6, rfl, hD6, tD6, cn.L, by decide, by decide, .inr ⟨by show 3003 < wAll (lens (ones ms)) 7; rw [w7]; decide, by show wAll (lens (ones ms)) 7 < 10 ^ 18; rw [w7]; decide, fun H7 d7 s7 nd7 hd7 => ⟨true, exm_self T.k_TooMany (base_I.flat _), fun _ ex nex => ?_, fun z => by cases z⟩⟩⟩
                  refine ⟨_, rfl, rfl, rfl, d7, _, _, rfl, hd7, rfl, ?_⟩
                  have tp7 := (tp5.same s6).same s7
                  refine ⟨_, rfl, _, rfl, t, c, _, _, rfl, tp7, by omega, by decide, by decide +kernel, fun H8 r8 a8 b8 tp8 kp8 => ⟨_, _, rfl, rfl, _, _, rfl, rfl, cp _ (by decide) (by decide), _, _, rfl, rfl, ?_⟩⟩
                  have hD8 := tp7.sq (s7 _ _ hD6) kp8
                  have tD8 := (tD6.kt (KT.same s7)).kt (KT.kp tp7 kp8)
                  refine ⟨D, ys, ones ms, 7 + r8, _, 6, rfl, hD8, tD8, sumx14 lm (by omega), fun H9 d9 s9 nd9 hd9 => ⟨true, exm_self T.k_TooMany (base_I.flat _), fun _ ex nex => ?_, fun z => by cases z⟩⟩
                  refine ⟨_, rfl, rfl, _, rfl, iteTd (congrArg V.int w7) ⟨_, rfl, rfl, rfl, d9, _, _, rfl, hd9, rfl, rfl, ?_⟩⟩
                  have e : decide (V.int 3432 = V.int (wAll (lens (ones ms)) (((6 : Nat) : Int) + 1))) = true := decide_eq_true (congrArg V.int w7.symm)
                  have kk := k H9
                  rw [← e] at kk
                  exact kk
theorem at_law {f : Addr} {fd : FuncData} (F : Fun K "law" "law" s_law f fd) {cs : Nat → Addr} (T : Top K mg cs) : RunAt P w K mg base f fd ["_law_script"] (spLaw K) :=
  have d := has_draw T
  have p := has_pick T d
  have m := has_far T d p
  have ch := has_choices T (hc_TooMany T) (has_how T (has_ways T (has_one T)))
  have ct := has_counted T ch (has_marksAt T)
  (ok_law F T (has_begun T) d p m (has_rows T d m) (has_pairs T ct (has_others T)) (has_lpairs T (has_lchs T) (has_lat T) (has_turned T)) (has_codes T (has_dig T)) (has_lcodes T (has_power T)) (has_sums T ct (has_clsOf T (has_others T)))).at_ ⟨rfl, by decide, by decide⟩
end


theorem all_mk {l : PySem.W.OpenLaw} {w : World} {K : PySem.W.Frag} {h : Heap} {mg : Str → Option Value} {fa : Addr} (X : K.In h) (G : h.Ns mainGlobals mg) (hfa : mg "law" = some (.ref fa))
    {f0 : Addr} {od0 an0 : Option Addr} {sl0 : Array (Option Value)} {oc0 kV0 dc0 pm0 cd0 ct0 : Value}
    (a0 : PySem.W.nsIn K mainGlobals "ways" = some (some (.ref f0))) (l0 : K.lookup f0 = some ⟨oc0, od0, .func (PySem.W.fnOf "ways" "ways" (defArgs s_ways) (defBody s_ways) (defScope s_ways) .none kV0 dc0 pm0 an0 cd0 ct0), sl0⟩) (cc0 : PySem.W.codeIn K cd0 "ways" = true) (k0 : PySem.W.keepIn K (.ref f0) = true)
    {f1 : Addr} {od1 an1 : Option Addr} {sl1 : Array (Option Value)} {oc1 kV1 dc1 pm1 cd1 ct1 : Value}
    (a1 : PySem.W.nsIn K mainGlobals "how_many" = some (some (.ref f1))) (l1 : K.lookup f1 = some ⟨oc1, od1, .func (PySem.W.fnOf "how_many" "how_many" (defArgs s_how_many) (defBody s_how_many) (defScope s_how_many) .none kV1 dc1 pm1 an1 cd1 ct1), sl1⟩) (cc1 : PySem.W.codeIn K cd1 "how_many" = true) (k1 : PySem.W.keepIn K (.ref f1) = true)
    {f2 : Addr} {od2 an2 : Option Addr} {sl2 : Array (Option Value)} {oc2 kV2 dc2 pm2 cd2 ct2 : Value}
    (a2 : PySem.W.nsIn K mainGlobals "choices" = some (some (.ref f2))) (l2 : K.lookup f2 = some ⟨oc2, od2, .func (PySem.W.fnOf "choices" "choices" (defArgs s_choices) (defBody s_choices) (defScope s_choices) .none kV2 dc2 pm2 an2 cd2 ct2), sl2⟩) (cc2 : PySem.W.codeIn K cd2 "choices" = true) (k2 : PySem.W.keepIn K (.ref f2) = true)
    {f3 : Addr} {od3 an3 : Option Addr} {sl3 : Array (Option Value)} {oc3 kV3 dc3 pm3 cd3 ct3 : Value}
    (a3 : PySem.W.nsIn K mainGlobals "_with_one_more" = some (some (.ref f3))) (l3 : K.lookup f3 = some ⟨oc3, od3, .func (PySem.W.fnOf "_with_one_more" "_with_one_more" (defArgs s__with_one_more) (defBody s__with_one_more) (defScope s__with_one_more) .none kV3 dc3 pm3 an3 cd3 ct3), sl3⟩) (cc3 : PySem.W.codeIn K cd3 "_with_one_more" = true) (k3 : PySem.W.keepIn K (.ref f3) = true)
    {f4 : Addr} {od4 an4 : Option Addr} {sl4 : Array (Option Value)} {oc4 kV4 dc4 pm4 cd4 ct4 : Value}
    (a4 : PySem.W.nsIn K mainGlobals "others" = some (some (.ref f4))) (l4 : K.lookup f4 = some ⟨oc4, od4, .func (PySem.W.fnOf "others" "others" (defArgs s_others) (defBody s_others) (defScope s_others) .none kV4 dc4 pm4 an4 cd4 ct4), sl4⟩) (cc4 : PySem.W.codeIn K cd4 "others" = true) (k4 : PySem.W.keepIn K (.ref f4) = true)
    {f5 : Addr} {od5 an5 : Option Addr} {sl5 : Array (Option Value)} {oc5 kV5 dc5 pm5 cd5 ct5 : Value}
    (a5 : PySem.W.nsIn K mainGlobals "sums_knot" = some (some (.ref f5))) (l5 : K.lookup f5 = some ⟨oc5, od5, .func (PySem.W.fnOf "sums_knot" "sums_knot" (defArgs s_sums_knot) (defBody s_sums_knot) (defScope s_sums_knot) .none kV5 dc5 pm5 an5 cd5 ct5), sl5⟩) (cc5 : PySem.W.codeIn K cd5 "sums_knot" = true) (k5 : PySem.W.keepIn K (.ref f5) = true)
    {f6 : Addr} {od6 an6 : Option Addr} {sl6 : Array (Option Value)} {oc6 kV6 dc6 pm6 cd6 ct6 : Value}
    (a6 : PySem.W.nsIn K mainGlobals "pairs_knot" = some (some (.ref f6))) (l6 : K.lookup f6 = some ⟨oc6, od6, .func (PySem.W.fnOf "pairs_knot" "pairs_knot" (defArgs s_pairs_knot) (defBody s_pairs_knot) (defScope s_pairs_knot) .none kV6 dc6 pm6 an6 cd6 ct6), sl6⟩) (cc6 : PySem.W.codeIn K cd6 "pairs_knot" = true) (k6 : PySem.W.keepIn K (.ref f6) = true)
    {f7 : Addr} {od7 an7 : Option Addr} {sl7 : Array (Option Value)} {oc7 kV7 dc7 pm7 cd7 ct7 : Value}
    (a7 : PySem.W.nsIn K mainGlobals "codes_knot" = some (some (.ref f7))) (l7 : K.lookup f7 = some ⟨oc7, od7, .func (PySem.W.fnOf "codes_knot" "codes_knot" (defArgs s_codes_knot) (defBody s_codes_knot) (defScope s_codes_knot) .none kV7 dc7 pm7 an7 cd7 ct7), sl7⟩) (cc7 : PySem.W.codeIn K cd7 "codes_knot" = true) (k7 : PySem.W.keepIn K (.ref f7) = true)
    {f8 : Addr} {od8 an8 : Option Addr} {sl8 : Array (Option Value)} {oc8 kV8 dc8 pm8 cd8 ct8 : Value}
    (a8 : PySem.W.nsIn K mainGlobals "counted" = some (some (.ref f8))) (l8 : K.lookup f8 = some ⟨oc8, od8, .func (PySem.W.fnOf "counted" "counted" (defArgs s_counted) (defBody s_counted) (defScope s_counted) .none kV8 dc8 pm8 an8 cd8 ct8), sl8⟩) (cc8 : PySem.W.codeIn K cd8 "counted" = true) (k8 : PySem.W.keepIn K (.ref f8) = true)
    {f9 : Addr} {od9 an9 : Option Addr} {sl9 : Array (Option Value)} {oc9 kV9 dc9 pm9 cd9 ct9 : Value}
    (a9 : PySem.W.nsIn K mainGlobals "clauses_of_count" = some (some (.ref f9))) (l9 : K.lookup f9 = some ⟨oc9, od9, .func (PySem.W.fnOf "clauses_of_count" "clauses_of_count" (defArgs s_clauses_of_count) (defBody s_clauses_of_count) (defScope s_clauses_of_count) .none kV9 dc9 pm9 an9 cd9 ct9), sl9⟩) (cc9 : PySem.W.codeIn K cd9 "clauses_of_count" = true) (k9 : PySem.W.keepIn K (.ref f9) = true)
    {f10 : Addr} {od10 an10 : Option Addr} {sl10 : Array (Option Value)} {oc10 kV10 dc10 pm10 cd10 ct10 : Value}
    (a10 : PySem.W.nsIn K mainGlobals "_marks_at" = some (some (.ref f10))) (l10 : K.lookup f10 = some ⟨oc10, od10, .func (PySem.W.fnOf "_marks_at" "_marks_at" (defArgs s__marks_at) (defBody s__marks_at) (defScope s__marks_at) .none kV10 dc10 pm10 an10 cd10 ct10), sl10⟩) (cc10 : PySem.W.codeIn K cd10 "_marks_at" = true) (k10 : PySem.W.keepIn K (.ref f10) = true)
    {f11 : Addr} {od11 an11 : Option Addr} {sl11 : Array (Option Value)} {oc11 kV11 dc11 pm11 cd11 ct11 : Value}
    (a11 : PySem.W.nsIn K mainGlobals "_has_digit" = some (some (.ref f11))) (l11 : K.lookup f11 = some ⟨oc11, od11, .func (PySem.W.fnOf "_has_digit" "_has_digit" (defArgs s__has_digit) (defBody s__has_digit) (defScope s__has_digit) .none kV11 dc11 pm11 an11 cd11 ct11), sl11⟩) (cc11 : PySem.W.codeIn K cd11 "_has_digit" = true) (k11 : PySem.W.keepIn K (.ref f11) = true)
    {f12 : Addr} {od12 an12 : Option Addr} {sl12 : Array (Option Value)} {oc12 kV12 dc12 pm12 cd12 ct12 : Value}
    (a12 : PySem.W.nsIn K mainGlobals "_law_begun" = some (some (.ref f12))) (l12 : K.lookup f12 = some ⟨oc12, od12, .func (PySem.W.fnOf "_law_begun" "_law_begun" (defArgs s__law_begun) (defBody s__law_begun) (defScope s__law_begun) .none kV12 dc12 pm12 an12 cd12 ct12), sl12⟩) (cc12 : PySem.W.codeIn K cd12 "_law_begun" = true) (k12 : PySem.W.keepIn K (.ref f12) = true)
    {f13 : Addr} {od13 an13 : Option Addr} {sl13 : Array (Option Value)} {oc13 kV13 dc13 pm13 cd13 ct13 : Value}
    (a13 : PySem.W.nsIn K mainGlobals "_law_draw" = some (some (.ref f13))) (l13 : K.lookup f13 = some ⟨oc13, od13, .func (PySem.W.fnOf "_law_draw" "_law_draw" (defArgs s__law_draw) (defBody s__law_draw) (defScope s__law_draw) .none kV13 dc13 pm13 an13 cd13 ct13), sl13⟩) (cc13 : PySem.W.codeIn K cd13 "_law_draw" = true) (k13 : PySem.W.keepIn K (.ref f13) = true)
    {f14 : Addr} {od14 an14 : Option Addr} {sl14 : Array (Option Value)} {oc14 kV14 dc14 pm14 cd14 ct14 : Value}
    (a14 : PySem.W.nsIn K mainGlobals "_law_pick" = some (some (.ref f14))) (l14 : K.lookup f14 = some ⟨oc14, od14, .func (PySem.W.fnOf "_law_pick" "_law_pick" (defArgs s__law_pick) (defBody s__law_pick) (defScope s__law_pick) .none kV14 dc14 pm14 an14 cd14 ct14), sl14⟩) (cc14 : PySem.W.codeIn K cd14 "_law_pick" = true) (k14 : PySem.W.keepIn K (.ref f14) = true)
    {f15 : Addr} {od15 an15 : Option Addr} {sl15 : Array (Option Value)} {oc15 kV15 dc15 pm15 cd15 ct15 : Value}
    (a15 : PySem.W.nsIn K mainGlobals "_law_marks" = some (some (.ref f15))) (l15 : K.lookup f15 = some ⟨oc15, od15, .func (PySem.W.fnOf "_law_marks" "_law_marks" (defArgs s__law_marks) (defBody s__law_marks) (defScope s__law_marks) .none kV15 dc15 pm15 an15 cd15 ct15), sl15⟩) (cc15 : PySem.W.codeIn K cd15 "_law_marks" = true) (k15 : PySem.W.keepIn K (.ref f15) = true)
    {f16 : Addr} {od16 an16 : Option Addr} {sl16 : Array (Option Value)} {oc16 kV16 dc16 pm16 cd16 ct16 : Value}
    (a16 : PySem.W.nsIn K mainGlobals "_law_rows" = some (some (.ref f16))) (l16 : K.lookup f16 = some ⟨oc16, od16, .func (PySem.W.fnOf "_law_rows" "_law_rows" (defArgs s__law_rows) (defBody s__law_rows) (defScope s__law_rows) .none kV16 dc16 pm16 an16 cd16 ct16), sl16⟩) (cc16 : PySem.W.codeIn K cd16 "_law_rows" = true) (k16 : PySem.W.keepIn K (.ref f16) = true)
    {f17 : Addr} {od17 an17 : Option Addr} {sl17 : Array (Option Value)} {oc17 kV17 dc17 pm17 cd17 ct17 : Value}
    (a17 : PySem.W.nsIn K mainGlobals "_law_choices" = some (some (.ref f17))) (l17 : K.lookup f17 = some ⟨oc17, od17, .func (PySem.W.fnOf "_law_choices" "_law_choices" (defArgs s__law_choices) (defBody s__law_choices) (defScope s__law_choices) .none kV17 dc17 pm17 an17 cd17 ct17), sl17⟩) (cc17 : PySem.W.codeIn K cd17 "_law_choices" = true) (k17 : PySem.W.keepIn K (.ref f17) = true)
    {f18 : Addr} {od18 an18 : Option Addr} {sl18 : Array (Option Value)} {oc18 kV18 dc18 pm18 cd18 ct18 : Value}
    (a18 : PySem.W.nsIn K mainGlobals "_law_at" = some (some (.ref f18))) (l18 : K.lookup f18 = some ⟨oc18, od18, .func (PySem.W.fnOf "_law_at" "_law_at" (defArgs s__law_at) (defBody s__law_at) (defScope s__law_at) .none kV18 dc18 pm18 an18 cd18 ct18), sl18⟩) (cc18 : PySem.W.codeIn K cd18 "_law_at" = true) (k18 : PySem.W.keepIn K (.ref f18) = true)
    {f19 : Addr} {od19 an19 : Option Addr} {sl19 : Array (Option Value)} {oc19 kV19 dc19 pm19 cd19 ct19 : Value}
    (a19 : PySem.W.nsIn K mainGlobals "_law_turned" = some (some (.ref f19))) (l19 : K.lookup f19 = some ⟨oc19, od19, .func (PySem.W.fnOf "_law_turned" "_law_turned" (defArgs s__law_turned) (defBody s__law_turned) (defScope s__law_turned) .none kV19 dc19 pm19 an19 cd19 ct19), sl19⟩) (cc19 : PySem.W.codeIn K cd19 "_law_turned" = true) (k19 : PySem.W.keepIn K (.ref f19) = true)
    {f20 : Addr} {od20 an20 : Option Addr} {sl20 : Array (Option Value)} {oc20 kV20 dc20 pm20 cd20 ct20 : Value}
    (a20 : PySem.W.nsIn K mainGlobals "_law_pairs" = some (some (.ref f20))) (l20 : K.lookup f20 = some ⟨oc20, od20, .func (PySem.W.fnOf "_law_pairs" "_law_pairs" (defArgs s__law_pairs) (defBody s__law_pairs) (defScope s__law_pairs) .none kV20 dc20 pm20 an20 cd20 ct20), sl20⟩) (cc20 : PySem.W.codeIn K cd20 "_law_pairs" = true) (k20 : PySem.W.keepIn K (.ref f20) = true)
    {f21 : Addr} {od21 an21 : Option Addr} {sl21 : Array (Option Value)} {oc21 kV21 dc21 pm21 cd21 ct21 : Value}
    (a21 : PySem.W.nsIn K mainGlobals "_law_power" = some (some (.ref f21))) (l21 : K.lookup f21 = some ⟨oc21, od21, .func (PySem.W.fnOf "_law_power" "_law_power" (defArgs s__law_power) (defBody s__law_power) (defScope s__law_power) .none kV21 dc21 pm21 an21 cd21 ct21), sl21⟩) (cc21 : PySem.W.codeIn K cd21 "_law_power" = true) (k21 : PySem.W.keepIn K (.ref f21) = true)
    {f22 : Addr} {od22 an22 : Option Addr} {sl22 : Array (Option Value)} {oc22 kV22 dc22 pm22 cd22 ct22 : Value}
    (a22 : PySem.W.nsIn K mainGlobals "_law_codes" = some (some (.ref f22))) (l22 : K.lookup f22 = some ⟨oc22, od22, .func (PySem.W.fnOf "_law_codes" "_law_codes" (defArgs s__law_codes) (defBody s__law_codes) (defScope s__law_codes) .none kV22 dc22 pm22 an22 cd22 ct22), sl22⟩) (cc22 : PySem.W.codeIn K cd22 "_law_codes" = true) (k22 : PySem.W.keepIn K (.ref f22) = true)
    {f23 : Addr} {od23 an23 : Option Addr} {sl23 : Array (Option Value)} {oc23 kV23 dc23 pm23 cd23 ct23 : Value}
    (a23 : PySem.W.nsIn K mainGlobals "law" = some (some (.ref f23))) (l23 : K.lookup f23 = some ⟨oc23, od23, .func (PySem.W.fnOf "law" "law" (defArgs s_law) (defBody s_law) (defScope s_law) .none kV23 dc23 pm23 an23 cd23 ct23), sl23⟩) (cc23 : PySem.W.codeIn K cd23 "law" = true) (k23 : PySem.W.keepIn K (.ref f23) = true)
    {C0 G0 : Addr} {nm0 q0 : Str} {N0 : Addr} {bs0 : List Value} {sn0 : List Str} {sub0 : List Value} {ab0 : Bool} {col0 : Option Bool} {dd0 : Option Addr} {ka0 kb0 kc0 kd0 ke0 : Option Value}
    {mod0 man0 : Option Addr} {msl0 : Array (Option Value)} {moc0 mkV0 mdc0 mpm0 mcd0 mct0 : Value}
    (m0 : PySem.W.nsIn K mainGlobals "TooMany" = some (some (.ref C0))) (o0 : K.lookup C0 = some (excClassObj nm0 q0 C0 N0 bs0 bmI true sn0 sub0 ab0 col0 dd0 ka0 kb0 kc0 kd0 ke0 "IndexError.__new__"))
    (i0 : PySem.W.findIn K (.ref C0) "__init__" = some (some (.ref G0))) (t0 : PySem.W.typeIn K (.ref G0) = some (.type "function"))
    (ml0 : K.lookup G0 = some ⟨moc0, mod0, .func (PySem.W.fnOf "__init__" "TooMany.__init__" (defArgs s_TooMany___init__) (defBody s_TooMany___init__) (defScope s_TooMany___init__) .none mkV0 mdc0 mpm0 man0 mcd0 mct0), msl0⟩) (mc0 : PySem.W.codeIn K mcd0 "TooMany.__init__" = true) (mk0 : PySem.W.keepIn K (.ref G0) = true)
    (sa0 : PySem.W.findIn K (.ref C0) "__setattr__" = some (some (.builtin "object.__setattr__")))
    (sb0 : PySem.W.subIn K (.ref C0) (.type "BaseException") = some true)
    (sc0 : PySem.W.typeIn K (.ref C0) = some (.type "type"))
    (sd0 : PySem.W.keepIn K (.ref C0) = true)
    (se0 : PySem.W.findIn K (.ref C0) "__getattribute__" = some (some (.builtin "BaseException.__getattribute__")))
    (sf0 : PySem.W.findIn K (.ref C0) "__getattr__" = some none)
    (sg0 : PySem.W.hasDictIn K C0 = true)
    (sh0 : PySem.W.findIn K (.ref C0) "__class__" = some (some (.builtin "object.__class__")))
    (si0 : PySem.W.mroIn K C0 (.type "object") = some true)
    (fn0_0 : PySem.W.findIn K (.ref C0) "many" = some none)
    (nd : [C0].Nodup)
    (ea : PySem.W.specialIn K (.builtin "object.__class__") "__get__" = some (some (.builtin "getset_descriptor.__get__"))) (eb : PySem.W.takesIn K (.builtin "object.__class__") = some true)
    (u0 : PySem.W.findCls K (.type "ValueError") (.type "type") "__init__" = some (.val (.builtin "ValueError.__init__")))
    (u1 : PySem.W.findCls K (.type "IndexError") (.type "type") "__init__" = some (.val (.builtin "IndexError.__init__")))
    (u2 : PySem.W.findCls K (.type "KeyError") (.type "type") "__init__" = some (.val (.builtin "KeyError.__init__")))
    (u3 : PySem.W.findCls K (.type "LookupError") (.type "type") "__init__" = some (.val (.builtin "LookupError.__init__")))
    {tk0 : Tok} (v0 : PySem.W.nsIn K mainGlobals "MOST_CHOICES" = some (some (.int 3003 tk0)))
    (z0 : PySem.W.nsIn K mainGlobals "len" = some none)
    (z1 : PySem.W.nsIn K mainGlobals "sum" = some none)
    (z2 : PySem.W.nsIn K mainGlobals "range" = some none)
    (z3 : PySem.W.nsIn K mainGlobals "min" = some none)
    (z4 : PySem.W.nsIn K mainGlobals "max" = some none)
    (z5 : PySem.W.nsIn K mainGlobals "tuple" = some none)
    (z6 : PySem.W.nsIn K mainGlobals "enumerate" = some none)
    (z7 : PySem.W.nsIn K mainGlobals "zip" = some none)
    (z8 : PySem.W.nsIn K mainGlobals "list" = some none)
    (z9 : PySem.W.nsIn K mainGlobals "repr" = some none)
    (z10 : PySem.W.nsIn K mainGlobals "IndexError" = some none)
    : ∃ fd : FuncData, (∀ (s : Shared) (v : Value), BindsTo s fd ⟨[v], []⟩ [("_law_script", v)]) ∧ ∀ base : Heap, K.In base → base.Ns mainGlobals mg → RunAt l.prog w K mg base fa fd ["_law_script"] (spLaw K) := by
  have e := hfa.symm.trans (PySem.W.mg_of X G a23)
  cases e
  have T : Top K mg (fun i => [C0].getD i 0) := ⟨⟨⟨_, _, PySem.W.mg_of X G a0, fun_mk (st := s_ways) l0 cc0 k0⟩⟩, ⟨⟨_, _, PySem.W.mg_of X G a1, fun_mk (st := s_how_many) l1 cc1 k1⟩⟩, ⟨⟨_, _, PySem.W.mg_of X G a2, fun_mk (st := s_choices) l2 cc2 k2⟩⟩, ⟨⟨_, _, PySem.W.mg_of X G a3, fun_mk (st := s__with_one_more) l3 cc3 k3⟩⟩, ⟨⟨_, _, PySem.W.mg_of X G a4, fun_mk (st := s_others) l4 cc4 k4⟩⟩, ⟨⟨_, _, PySem.W.mg_of X G a5, fun_mk (st := s_sums_knot) l5 cc5 k5⟩⟩, ⟨⟨_, _, PySem.W.mg_of X G a6, fun_mk (st := s_pairs_knot) l6 cc6 k6⟩⟩, ⟨⟨_, _, PySem.W.mg_of X G a7, fun_mk (st := s_codes_knot) l7 cc7 k7⟩⟩, ⟨⟨_, _, PySem.W.mg_of X G a8, fun_mk (st := s_counted) l8 cc8 k8⟩⟩, ⟨⟨_, _, PySem.W.mg_of X G a9, fun_mk (st := s_clauses_of_count) l9 cc9 k9⟩⟩, ⟨⟨_, _, PySem.W.mg_of X G a10, fun_mk (st := s__marks_at) l10 cc10 k10⟩⟩, ⟨⟨_, _, PySem.W.mg_of X G a11, fun_mk (st := s__has_digit) l11 cc11 k11⟩⟩, ⟨⟨_, _, PySem.W.mg_of X G a12, fun_mk (st := s__law_begun) l12 cc12 k12⟩⟩, ⟨⟨_, _, PySem.W.mg_of X G a13, fun_mk (st := s__law_draw) l13 cc13 k13⟩⟩, ⟨⟨_, _, PySem.W.mg_of X G a14, fun_mk (st := s__law_pick) l14 cc14 k14⟩⟩, ⟨⟨_, _, PySem.W.mg_of X G a15, fun_mk (st := s__law_marks) l15 cc15 k15⟩⟩, ⟨⟨_, _, PySem.W.mg_of X G a16, fun_mk (st := s__law_rows) l16 cc16 k16⟩⟩, ⟨⟨_, _, PySem.W.mg_of X G a17, fun_mk (st := s__law_choices) l17 cc17 k17⟩⟩, ⟨⟨_, _, PySem.W.mg_of X G a18, fun_mk (st := s__law_at) l18 cc18 k18⟩⟩, ⟨⟨_, _, PySem.W.mg_of X G a19, fun_mk (st := s__law_turned) l19 cc19 k19⟩⟩, ⟨⟨_, _, PySem.W.mg_of X G a20, fun_mk (st := s__law_pairs) l20 cc20 k20⟩⟩, ⟨⟨_, _, PySem.W.mg_of X G a21, fun_mk (st := s__law_power) l21 cc21 k21⟩⟩, ⟨⟨_, _, PySem.W.mg_of X G a22, fun_mk (st := s__law_codes) l22 cc22 k22⟩⟩, ⟨⟨_, _, PySem.W.mg_of X G a23, fun_mk (st := s_law) l23 cc23 k23⟩⟩, cls_mk base_I (PySem.W.mg_of X G m0) o0 i0 t0 (fun_mk (st := s_TooMany___init__) ml0 mc0 mk0) sa0 sb0 sc0 sd0 se0 sf0 sg0 sh0 si0 ea eb (no1 fn0_0), getD_inj nd, u0, u1, u2, u3, ⟨_, PySem.W.mg_of X G v0⟩, PySem.W.mg_none_of X G z0, PySem.W.mg_none_of X G z1, PySem.W.mg_none_of X G z2, PySem.W.mg_none_of X G z3, PySem.W.mg_none_of X G z4, PySem.W.mg_none_of X G z5, PySem.W.mg_none_of X G z6, PySem.W.mg_none_of X G z7, PySem.W.mg_none_of X G z8, PySem.W.mg_none_of X G z9, PySem.W.mg_none_of X G z10⟩
  exact ⟨_, fun s v => .of_eq rfl, fun base _ _ => at_law (fun_mk (st := s_law) l23 cc23 k23) T⟩
end Mc
open PySem PySem.W PyProof.Rows
set_option maxRecDepth 100000 in
set_option maxHeartbeats 0 in
theorem PySem.Challenge.cw_mostclauses_k19_last_knots_holds : PySem.Challenge.rw_mostclauses_k19_last_knots.Holds := by
  w_on; o_law; k_head; (case hw => w_witness2)
  k_fill
  refine Mc.walk_at (l := PySem.Challenge.rw_mostclauses_k19_last_knots) (n := 63) (x := "_law_script") (sp := fun w => Mc.spLaw _) rfl (by decide) rfl (fun w h Y => PySem.W.kIn_of Y) ?F (fun _ _ a ns hl _ hS => ⟨a, ns, rfl, hS, hl, fun _ => rfl⟩)
  case F =>
    intro w mg fa h KX G hmg
    refine' Mc.all_mk KX G hmg ?a0 ?l0 ?cc0 ?k0 ?a1 ?l1 ?cc1 ?k1 ?a2 ?l2 ?cc2 ?k2 ?a3 ?l3 ?cc3 ?k3 ?a4 ?l4 ?cc4 ?k4 ?a5 ?l5 ?cc5 ?k5 ?a6 ?l6 ?cc6 ?k6 ?a7 ?l7 ?cc7 ?k7 ?a8 ?l8 ?cc8 ?k8 ?a9 ?l9 ?cc9 ?k9 ?a10 ?l10 ?cc10 ?k10 ?a11 ?l11 ?cc11 ?k11 ?a12 ?l12 ?cc12 ?k12 ?a13 ?l13 ?cc13 ?k13 ?a14 ?l14 ?cc14 ?k14 ?a15 ?l15 ?cc15 ?k15 ?a16 ?l16 ?cc16 ?k16 ?a17 ?l17 ?cc17 ?k17 ?a18 ?l18 ?cc18 ?k18 ?a19 ?l19 ?cc19 ?k19 ?a20 ?l20 ?cc20 ?k20 ?a21 ?l21 ?cc21 ?k21 ?a22 ?l22 ?cc22 ?k22 ?a23 ?l23 ?cc23 ?k23 ?m0 ?o0 ?i0 ?t0 ?ml0 ?mc0 ?mk0 ?sa0 ?sb0 ?sc0 ?sd0 ?se0 ?sf0 ?sg0 ?sh0 ?si0 ?fn0_0 ?nd ?ea ?eb ?u0 ?u1 ?u2 ?u3 ?v0 ?z0 ?z1 ?z2 ?z3 ?z4 ?z5 ?z6 ?z7 ?z8 ?z9 ?z10
    (case a0 => k_is)
    (case l0 => k_is)
    (case cc0 => k_is)
    (case k0 => k_is)
    (case a1 => k_is)
    (case l1 => k_is)
    (case cc1 => k_is)
    (case k1 => k_is)
    (case a2 => k_is)
    (case l2 => k_is)
    (case cc2 => k_is)
    (case k2 => k_is)
    (case a3 => k_is)
    (case l3 => k_is)
    (case cc3 => k_is)
    (case k3 => k_is)
    (case a4 => k_is)
    (case l4 => k_is)
    (case cc4 => k_is)
    (case k4 => k_is)
    (case a5 => k_is)
    (case l5 => k_is)
    (case cc5 => k_is)
    (case k5 => k_is)
    (case a6 => k_is)
    (case l6 => k_is)
    (case cc6 => k_is)
    (case k6 => k_is)
    (case a7 => k_is)
    (case l7 => k_is)
    (case cc7 => k_is)
    (case k7 => k_is)
    (case a8 => k_is)
    (case l8 => k_is)
    (case cc8 => k_is)
    (case k8 => k_is)
    (case a9 => k_is)
    (case l9 => k_is)
    (case cc9 => k_is)
    (case k9 => k_is)
    (case a10 => k_is)
    (case l10 => k_is)
    (case cc10 => k_is)
    (case k10 => k_is)
    (case a11 => k_is)
    (case l11 => k_is)
    (case cc11 => k_is)
    (case k11 => k_is)
    (case a12 => k_is)
    (case l12 => k_is)
    (case cc12 => k_is)
    (case k12 => k_is)
    (case a13 => k_is)
    (case l13 => k_is)
    (case cc13 => k_is)
    (case k13 => k_is)
    (case a14 => k_is)
    (case l14 => k_is)
    (case cc14 => k_is)
    (case k14 => k_is)
    (case a15 => k_is)
    (case l15 => k_is)
    (case cc15 => k_is)
    (case k15 => k_is)
    (case a16 => k_is)
    (case l16 => k_is)
    (case cc16 => k_is)
    (case k16 => k_is)
    (case a17 => k_is)
    (case l17 => k_is)
    (case cc17 => k_is)
    (case k17 => k_is)
    (case a18 => k_is)
    (case l18 => k_is)
    (case cc18 => k_is)
    (case k18 => k_is)
    (case a19 => k_is)
    (case l19 => k_is)
    (case cc19 => k_is)
    (case k19 => k_is)
    (case a20 => k_is)
    (case l20 => k_is)
    (case cc20 => k_is)
    (case k20 => k_is)
    (case a21 => k_is)
    (case l21 => k_is)
    (case cc21 => k_is)
    (case k21 => k_is)
    (case a22 => k_is)
    (case l22 => k_is)
    (case cc22 => k_is)
    (case k22 => k_is)
    (case a23 => k_is)
    (case l23 => k_is)
    (case cc23 => k_is)
    (case k23 => k_is)
    (case m0 => k_is)
    (case o0 => k_is)
    (case i0 => k_is)
    (case t0 => k_is)
    (case ml0 => k_is)
    (case mc0 => k_is)
    (case mk0 => k_is)
    (case sa0 => k_is)
    (case sb0 => k_is)
    (case sc0 => k_is)
    (case sd0 => k_is)
    (case se0 => k_is)
    (case sf0 => k_is)
    (case sg0 => k_is)
    (case sh0 => k_is)
    (case si0 => k_is)
    (case fn0_0 => k_is)
    (case nd => decide)
    (case ea => k_is)
    (case eb => k_is)
    (case u0 => k_is)
    (case u1 => k_is)
    (case u2 => k_is)
    (case u3 => k_is)
    (case v0 => k_is)
    (case z0 => k_is)
    (case z1 => k_is)
    (case z2 => k_is)
    (case z3 => k_is)
    (case z4 => k_is)
    (case z5 => k_is)
    (case z6 => k_is)
    (case z7 => k_is)
    (case z8 => k_is)
    (case z9 => k_is)
    (case z10 => k_is)
