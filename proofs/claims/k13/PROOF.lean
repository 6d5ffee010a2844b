import PyProof.Rows.All
import Wide.All
import OpenK.AllK
import Wide.FinOn
import HandS.ForMost
import HandS.Flow
import HandS.Wide
import HandS.Small
import HandS.Style
import HandS.IsInst
import HandS.RaiseMore
import HandS.Codes
import HandS.TupMul
import HandS.Iter
import HandS.Text
import HandS.TupAny
import HandS.Conv
import HandS.Deep
import PyProof.P3In
import PyProof.P3Eq
import PyProof.ReprBulk
import PyProof.ReprRoads
import PyProof.Rows.ReprShort
import HandS.ReplaceLit
import HandS.FStr
import HandS.Strs
import PyProof.StrLawsReplace
import PyProof.StrLawsWords2
import PySem.Challenge.RW_mostclauses_k13_plans_as_texts
set_option Elab.async false
set_option linter.all false
set_option maxRecDepth 100000
set_option maxHeartbeats 4000000
namespace Mc
open PySem PySem.Spec PyProof.Rows L2
/-! ### the text by places -/
def top (i : Nat) : Stmt := PySem.Challenge.pw_mostclauses_k13_plans_as_texts.main.body.getD i (.Pass ⟨0, 0, 0, 0⟩)

abbrev s_is_whole : Stmt := top 3
abbrev nm_is_whole : List Str := ["thing"]
theorem sc_is_whole : FnScope nm_is_whole ["thing"] (defScope s_is_whole) := ⟨rfl, rfl, rfl, by decide +kernel, rfl, by decide +kernel, by decide +kernel⟩
abbrev s_is_part : Stmt := top 7
abbrev nm_is_part : List Str := ["thing"]
theorem sc_is_part : FnScope nm_is_part ["thing"] (defScope s_is_part) := ⟨rfl, rfl, rfl, by decide +kernel, rfl, by decide +kernel, by decide +kernel⟩
abbrev s_is_plan : Stmt := top 8
abbrev nm_is_plan : List Str := ["thing"]
theorem sc_is_plan : FnScope nm_is_plan ["thing"] (defScope s_is_plan) := ⟨rfl, rfl, rfl, by decide +kernel, rfl, by decide +kernel, by decide +kernel⟩
abbrev s_size_of : Stmt := top 9
abbrev nm_size_of : List Str := ["part", "ones", "waiting", "thing"]
theorem sc_size_of : FnScope nm_size_of ["part"] (defScope s_size_of) := ⟨rfl, rfl, rfl, by decide +kernel, rfl, by decide +kernel, by decide +kernel⟩
abbrev s_show_plan : Stmt := top 10
abbrev nm_show_plan : List Str := ["part", "inner", "one"]
theorem sc_show_plan : FnScope nm_show_plan ["part"] (defScope s_show_plan) := ⟨rfl, rfl, rfl, by decide +kernel, rfl, by decide +kernel, by decide +kernel⟩
abbrev s_read_plan : Stmt := top 11
abbrev nm_read_plan : List Str := ["text", "thing"]
theorem sc_read_plan : FnScope nm_read_plan ["text"] (defScope s_read_plan) := ⟨rfl, rfl, rfl, by decide +kernel, rfl, by decide +kernel, by decide +kernel⟩
abbrev s__are_parts : Stmt := top 12
abbrev nm__are_parts : List Str := ["things", "around", "ones", "thing", "waiting", "outer", "part"]
theorem sc__are_parts : FnScope nm__are_parts ["things", "around"] (defScope s__are_parts) := ⟨rfl, rfl, rfl, by decide +kernel, rfl, by decide +kernel, by decide +kernel⟩
abbrev s__is_joined : Stmt := top 13
abbrev nm__is_joined : List Str := ["thing"]
theorem sc__is_joined : FnScope nm__is_joined ["thing"] (defScope s__is_joined) := ⟨rfl, rfl, rfl, by decide +kernel, rfl, by decide +kernel, by decide +kernel⟩
abbrev s__first_in : Stmt := top 14
abbrev nm__first_in : List Str := ["text", "opened", "word", "inner"]
theorem sc__first_in : FnScope nm__first_in ["text"] (defScope s__first_in) := ⟨rfl, rfl, rfl, by decide +kernel, rfl, by decide +kernel, by decide +kernel⟩
abbrev s__law_begun : Stmt := top 16
abbrev nm__law_begun : List Str := ["_law_script"]
theorem sc__law_begun : FnScope nm__law_begun ["_law_script"] (defScope s__law_begun) := ⟨rfl, rfl, rfl, by decide +kernel, rfl, by decide +kernel, by decide +kernel⟩
abbrev s__law_draw : Stmt := top 17
abbrev nm__law_draw : List Str := ["_law_tape", "_law_many", "_law_spot", "_law_most", "_law_cell", "_law_found"]
theorem sc__law_draw : FnScope nm__law_draw ["_law_tape", "_law_many"] (defScope s__law_draw) := ⟨rfl, rfl, rfl, by decide +kernel, rfl, by decide +kernel, by decide +kernel⟩
abbrev s__law_pick : Stmt := top 18
abbrev nm__law_pick : List Str := ["_law_tape", "_law_some"]
theorem sc__law_pick : FnScope nm__law_pick ["_law_tape", "_law_some"] (defScope s__law_pick) := ⟨rfl, rfl, rfl, by decide +kernel, rfl, by decide +kernel, by decide +kernel⟩
abbrev s__law_part : Stmt := top 19
abbrev nm__law_part : List Str := ["_law_tape", "_law_many", "_law_deep", "_law_cut", "_law_word", "_law_some", "_law_one"]
theorem sc__law_part : FnScope nm__law_part ["_law_tape", "_law_many", "_law_deep"] (defScope s__law_part) := ⟨rfl, rfl, rfl, by decide +kernel, rfl, by decide +kernel, by decide +kernel⟩
abbrev s__law_plan : Stmt := top 20
abbrev nm__law_plan : List Str := ["_law_tape", "_law_many", "_law_most", "_law_word", "_law_deep", "_law_way", "_law_cut", "_law_lens", "_law_one"]
theorem sc__law_plan : FnScope nm__law_plan ["_law_tape", "_law_many", "_law_most"] (defScope s__law_plan) := ⟨rfl, rfl, rfl, by decide +kernel, rfl, by decide +kernel, by decide +kernel⟩
abbrev s__law_written : Stmt := top 21
abbrev nm__law_written : List Str := ["_law_part_here", "_law_one"]
theorem sc__law_written : FnScope nm__law_written ["_law_part_here"] (defScope s__law_written) := ⟨rfl, rfl, rfl, by decide +kernel, rfl, by decide +kernel, by decide +kernel⟩
abbrev s_law : Stmt := top 22
abbrev nm_law : List Str := ["_law_script", "_law_tape", "_law_turn", "_law_many", "_law_part_here", "_law_k", "_law_text"]
theorem sc_law : FnScope nm_law ["_law_script"] (defScope s_law) := ⟨rfl, rfl, rfl, by decide +kernel, rfl, by decide +kernel, by decide +kernel⟩
/-! ### a def that stands in the top and keeps a promise -/
structure At (K : PySem.W.Frag) (mg : Str → Option Value) (x : Str) (st : Stmt) : Prop where
  ex : ∃ f fd, mg x = some (.ref f) ∧ Fun K x x st f fd
structure Has (P : Program) (w : World) (K : PySem.W.Frag) (mg : Str → Option Value) (base : Heap) (k : Nat) (x : Str) (ps : List Str) (sp : Sp) : Prop where
  ex : ∃ f fd, mg x = some (.ref f) ∧ PySem.W.keepIn K (.ref f) = true ∧ Binds K fd ps [] ∧ FnOk P w K mg base CX0 k f fd ps sp
theorem pe_has {X : Cx} {k : Nat} {x : Str} {ps : List Str} {sp : Sp} {e : Expr} {es : List Expr} {t : TA} {p pos : Pos} (h : Has X.prog X.w X.K X.mg X.base k x ps sp) (hr : Room k X.A) (hg : Gl X x) (ha : PA X (e :: es) t)
    (hdb : (x == ("__debug__" : Str)) = false := by decide) (he : starEach (e :: es) X.env = (false, eval e X.env) :: starEach es X.env := by rfl) (hpl : (backTo pos (starEach es X.env)).any (·.1) = false := by rfl) :
    PE X (.Call (.Name x p) (e :: es) [] pos) (tCall sp [] E0 t) := by
  obtain ⟨f, fd, hm, hk, hb, F⟩ := h.ex
  exact pe_call F hr hg hm hk hb .nil pass0 ha hdb he hpl
abbrev BindsAll (x : Str) (st : Stmt) (ps : List Str) : Prop :=
  ∀ (kV doc pm : Value) (an : Option Addr) (cdv ct : Value) (us : List Value), us.length = ps.length → bindArgs (PySem.W.fnOf x x (defArgs st) (defBody st) (defScope st) .none kV doc pm an cdv ct) ⟨us, []⟩ = pure (ps.zip us)
section
variable {P : Program} {w : World} {K : PySem.W.Frag} {mg : Str → Option Value} {base : Heap}
theorem has_of {x : Str} {st : Stmt} {N ps : List Str} {k : Nat} {sp : Sp} (A : At K mg x st) (S : FnScope N ps (defScope st)) (B : BindsAll x st ps) (len : ∀ vs H Q E, sp vs H Q E → vs.length = ps.length)
    (hbody : ∀ (f : Addr) (cdv : Value) (A : Around) (outer : List Env) (s : Shared) (H : Hp) (vs : List V) (Q : VK) (E : XK), Room k (A.deeper (envOfC x (defScope st) s.heap.objs.size f cdv)) → sp vs H Q E →
      ∃ t, PSs (cxOf CX0 P w K mg base N x (defScope st) f cdv A outer s H E).nox (defBody st) t ∧ t { nx := fun _ H' => Q .non H', rt := Q } (start N vs) H) : Has P w K mg base (k + 1) x ps sp := by
  obtain ⟨f, fd, hm, F⟩ := A.ex
  exact ⟨f, fd, hm, F.kp, F.binds B, F.ok S len fun cdv A outer s H vs Q E hr h => hbody f cdv A outer s H vs Q E hr h⟩
end
theorem pe_const {X : Cx} {x : Str} {i : Int} {pos : Pos} (hm : ∃ t, X.mg x = some (.int i t)) (hg : Gl X x) (hd : (x == ("__debug__" : Str)) = false := by decide) : PE X (.Name x pos) (tC (.int i)) := by
  obtain ⟨t, hm⟩ := hm
  exact pe_glob hg hm ⟨t, rfl⟩ hd
/-! ### repr of a truth -/
def boolText (b : Bool) : Str := if b then "True" else "False"
theorem boolText_inj {a b : Bool} (h : boolText a = boolText b) : a = b := by
  cases a <;> cases b <;> first | rfl | exact absurd h (by decide +kernel)
theorem call_repr_bool {X : Cx} : CallR X (.builtin "repr") (fun xs H Q => ∃ b, xs = [.bl b] ∧ Q (.str (boolText b)) H) := by
  intro pins s σ H xs us Q I r h
  obtain ⟨b, rfl, q⟩ := h
  obtain ⟨u, rfl, ru⟩ := vals1 r
  cases ru
  cases b with
  | true => exact PySem.P.repr_of_bool ⟨.str (boolText true), H, I.tok _, ⟨_, rfl⟩, q⟩
  | false => exact PySem.P.repr_of_bool ⟨.str (boolText false), H, I.tok _, ⟨_, rfl⟩, q⟩
/-! ### heaps -/
/-- all that is known stays, but for what stands at t -/
def Kp (t : Addr) (H H' : Hp) : Prop := ∀ b o, H b = some o → b ≠ t → H' b = some o
theorem Kp.refl {t : Addr} (H : Hp) : Kp t H H := fun _ _ h _ => h
theorem Kp.trans {t : Addr} {H H1 H2 : Hp} (a : Kp t H H1) (b : Kp t H1 H2) : Kp t H H2 := fun c o h n => b c o (a c o h n) n
theorem Kp.new {t p : Addr} {H : Hp} {o : HO} (h : H p = none) : Kp t H (upd H p o) := fun b u e _ => by
  rw [upd_ne (ne_of_none e h)]
  exact e
theorem Kp.at {t : Addr} {H : Hp} {o : HO} : Kp t H (upd H t o) := fun b u e n => by
  rw [upd_ne n]
  exact e
theorem Kp.same {t : Addr} {H H' : Hp} (s : Same H H') : Kp t H H' := fun b o e _ => s b o e
theorem same_new {H : Hp} {p : Addr} {o : HO} (h : H p = none) : Same H (upd H p o) := fun b u e => by
  rw [upd_ne (ne_of_none e h)]
  exact e
/-! ### the tape -/
def tk (c : Addr) (spot left : Int) : List (Key × V) := [(.inr "cells", .ref c), (.inr "spot", .int spot), (.inr "left", .int left)]
structure TapeC (H : Hp) (t c : Addr) (ns : List Int) (spot left : Int) : Prop where
  d : H t = some (.dK (tk c spot left))
  l : H c = some (.lst (ns.map V.int))
  ne : 0 < ns.length
  lt : ns.length ≤ 63
  s0 : 0 ≤ spot
  l0 : 0 ≤ left
/-- a tape at t, its cells at c, of which at most n draws are taken -/
def Tape (H : Hp) (t c : Addr) (n : Nat) : Prop := ∃ ns spot left, TapeC H t c ns spot left ∧ spot ≤ n
theorem Tape.ne {H : Hp} {t c : Addr} {n : Nat} (h : Tape H t c n) : t ≠ c := by
  obtain ⟨ns, spot, left, h, _⟩ := h
  exact ne_of h.d h.l (by intro z; cases z)
theorem Tape.le {H : Hp} {t c : Addr} {n m : Nat} (h : Tape H t c n) (l : n ≤ m) : Tape H t c m := by
  obtain ⟨ns, spot, left, h, e⟩ := h
  exact ⟨ns, spot, left, h, by omega⟩
theorem Tape.stay {H H' : Hp} {t c : Addr} {n : Nat} (h : Tape H t c n) (k : ∀ b o, H b = some o → b = t ∨ b = c → H' b = some o) : Tape H' t c n := by
  obtain ⟨ns, spot, left, h, e⟩ := h
  exact ⟨ns, spot, left, ⟨k _ _ h.d (.inl rfl), k _ _ h.l (.inr rfl), h.ne, h.lt, h.s0, h.l0⟩, e⟩
theorem Tape.same {H H' : Hp} {t c : Addr} {n : Nat} (h : Tape H t c n) (s : Same H H') : Tape H' t c n := h.stay fun b o e _ => s b o e
theorem Tape.new {H : Hp} {t c p : Addr} {n : Nat} {o : HO} (h : Tape H t c n) (hp : H p = none) : Tape (upd H p o) t c n := h.same (same_new hp)
theorem Tape.at_t {H : Hp} {t c : Addr} {n : Nat} (h : Tape H t c n) : ∃ o, H t = some o := by
  obtain ⟨ns, spot, left, h, _⟩ := h
  exact ⟨_, h.d⟩
theorem Tape.at_c {H : Hp} {t c : Addr} {n : Nat} (h : Tape H t c n) : ∃ o, H c = some o := by
  obtain ⟨ns, spot, left, h, _⟩ := h
  exact ⟨_, h.l⟩
theorem k_cells : ¬ (("cells" : Str) = "spot") := by decide +kernel
theorem k_cells2 : ¬ (("cells" : Str) = "left") := by decide +kernel
theorem k_spot : ¬ (("spot" : Str) = "left") := by decide +kernel
theorem tk_cells (c : Addr) (a b : Int) : valV (tk c a b) (Sum.inr "cells" : Key) = some (.ref c) := valV_pos rfl
theorem tk_spot (c : Addr) (a b : Int) : valV (tk c a b) (Sum.inr "spot" : Key) = some (.int a) := by
  unfold tk
  rw [valV_neg (fun e => k_cells (Sum.inr.inj e)), valV_pos rfl]
theorem tk_left (c : Addr) (a b : Int) : valV (tk c a b) (Sum.inr "left" : Key) = some (.int b) := by
  unfold tk
  rw [valV_neg (fun e => k_cells2 (Sum.inr.inj e)), valV_neg (fun e => k_spot (Sum.inr.inj e)), valV_pos rfl]
theorem tk_put_spot (c : Addr) (a b x : Int) : putK (tk c a b) (Sum.inr "spot" : Key) (.int x) = tk c x b := by
  rfl
theorem tk_put_left (c : Addr) (a b x : Int) : putK (tk c a b) (Sum.inr "left" : Key) (.int x) = tk c a x := by
  rfl
theorem dg_cells {H : Hp} {t c : Addr} {a b : Int} (h : H t = some (.dK (tk c a b))) : DGet H t (.str "cells") (some (.ref c)) := by
  have g := DGet.k (k := (Sum.inr "cells" : Key)) h
  rw [tk_cells] at g
  exact g
theorem dg_spot {H : Hp} {t c : Addr} {a b : Int} (h : H t = some (.dK (tk c a b))) : DGet H t (.str "spot") (some (.int a)) := by
  have g := DGet.k (k := (Sum.inr "spot" : Key)) h
  rw [tk_spot] at g
  exact g
theorem dg_left {H : Hp} {t c : Addr} {a b : Int} (h : H t = some (.dK (tk c a b))) : DGet H t (.str "left") (some (.int b)) := by
  have g := DGet.k (k := (Sum.inr "left" : Key)) h
  rw [tk_left] at g
  exact g
theorem dp_spot {H : Hp} {t c : Addr} {a b : Int} (x : Int) (h : H t = some (.dK (tk c a b))) : DPut H t (.str "spot") (.int x) (upd H t (.dK (tk c x b))) := by
  have g := DPut.k (k := (Sum.inr "spot" : Key)) (v := .int x) h (small1000 (by show 3 ≤ 1000; decide))
  rw [tk_put_spot] at g
  exact g
theorem dp_left {H : Hp} {t c : Addr} {a b : Int} (x : Int) (h : H t = some (.dK (tk c a b))) : DPut H t (.str "left") (.int x) (upd H t (.dK (tk c a x))) := by
  have g := DPut.k (k := (Sum.inr "left" : Key)) (v := .int x) h (small1000 (by show 3 ≤ 1000; decide))
  rw [tk_put_left] at g
  exact g
theorem Tape.fresh {H : Hp} {t c p : Addr} {n : Nat} (h : Tape H t c n) (hp : H p = none) : p ≠ t := by
  obtain ⟨o, e⟩ := h.at_t
  exact (ne_of_none e hp).symm
theorem Tape.fresh_c {H : Hp} {t c p : Addr} {n : Nat} (h : Tape H t c n) (hp : H p = none) : p ≠ c := by
  obtain ⟨o, e⟩ := h.at_c
  exact (ne_of_none e hp).symm
/-! ### a list beside the empty list -/
section
variable {X : Cx}
def rEqNil (K : PySem.W.Frag) (neg : Bool) : R2 := fun x y H Q => ∃ a b xs, x = .ref a ∧ y = .ref b ∧ SqL K H a xs ∧ SqL K H b [] ∧ Q (.bl (if neg = true then !xs.isEmpty else xs.isEmpty)) H
theorem op_eqNil (hu : X.A.units + 1 < cLine) : OpR X (compareOp .Eq) (rEqNil X.K false) := by
  intro pins s σ H x y v u Q I rx ry h
  obtain ⟨a, b, xs, rfl, rfl, ha, hb, q⟩ := h
  cases rx
  cases ry
  obtain ⟨us, vs, pl, _⟩ := I.list ha
  obtain ⟨ws, vs2, pl2, _⟩ := I.list hb
  cases vs2
  have l := vs.length
  cases xs with
  | nil =>
    cases vs
    exact SeqAt.RcAt.lists (e := fun _ => true) pl.isList pl2.isList rfl (by omega) (fun j h1 => absurd h1 (Nat.not_lt_zero _)) _ _ _ _ ⟨.bl true, H, I, rfl, q⟩
  | cons z zs => exact SeqAt.RcAt.lists_lengths pl.isList pl2.isList (by rw [List.size_toArray, ← l]; rfl) (by omega) _ _ _ _ ⟨.bl false, H, I, rfl, q⟩
theorem op_neNil (hu : X.A.units + 1 < cLine) : OpR X (compareOp .NotEq) (rEqNil X.K true) := by
  intro pins s σ H x y v u Q I rx ry h
  obtain ⟨a, b, xs, rfl, rfl, ha, hb, q⟩ := h
  cases rx
  cases ry
  obtain ⟨us, vs, pl, _⟩ := I.list ha
  obtain ⟨ws, vs2, pl2, _⟩ := I.list hb
  cases vs2
  have l := vs.length
  cases xs with
  | nil =>
    cases vs
    exact SeqAt.RcNeAt.lists (e := fun _ => true) pl.isList pl2.isList rfl (by omega) (fun j h1 => absurd h1 (Nat.not_lt_zero _)) _ _ _ _ ⟨.bl false, H, I, rfl, q⟩
  | cons z zs => exact SeqAt.RcNeAt.lists_lengths pl.isList pl2.isList (by rw [List.size_toArray, ← l]; rfl) (by omega) _ _ _ _ ⟨.bl true, H, I, rfl, q⟩
end
/-! ### comprehensions that leave what is known as it is -/
theorem take_sel {α β : Type} (t : α → Bool) (f : α → β) {xs : List α} {i : Nat} {x : α} (h : xs[i]? = some x) :
    ((xs.take (i + 1)).filter t).map f = ((xs.take i).filter t).map f ++ (if t x = true then [f x] else []) := by
  rw [List.take_add_one, h, List.filter_append, List.map_append]
  by_cases ht : t x = true
  · rw [if_pos ht]
    simp [ht]
  · rw [if_neg ht]
    simp [ht]
section
variable {K : PySem.W.Frag} {a : Addr} {xs : List V} {tt : TT} {te : TE} {vs : List Nat} {σ : L2.St} {H : Hp} {D : Addr} {Qd : Hp → Prop} {j : Nat}
/-- what a turn asks: the test, the item -/
structure SelT (H : Hp) (σ : L2.St) (vs : List Nat) (j : Nat) (tt : TT) (te : TE) (x : V) (b : Bool) (y : V) : Prop where
  wip : wipe ((wipe σ vs).set j (some x)) vs = wipe σ vs
  tst : ∀ H', Same H H' → ∀ R : Bool → Hp → Prop, (∀ H'', Same H' H'' → R b H'') → tt ((wipe σ vs).set j (some x)) H' R
  elt : b = true → ∀ H', Same H H' → ∀ R : VK, (∀ H'', Same H' H'' → R y H'') → te ((wipe σ vs).set j (some x)) H' R
theorem sel_turn {x y : V} {b : Bool} {acc : List V} {H' : Hp} {P : Hp → Prop} (hD : H D = none) (s : SelT H σ vs j tt te x b y) (hs : Same H H') (ha : H' D = some (.lst acc)) (hz : acc.length < sizeLine)
    (k : ∀ H'', Same H H'' → H'' D = some (.lst (acc ++ (if b = true then [y] else []))) → P H'') :
    gName j x (wipe σ vs) H' fun σ2 H2 => wipe σ2 vs = wipe σ vs ∧ tt σ2 H2 fun c H3 => if c = true then te σ2 H3 fun y H4 => ∃ acc, H4 D = some (.lst acc) ∧ acc.length < sizeLine ∧ P (upd H4 D (.lst (acc ++ [y]))) else P H3 := by
  refine ⟨s.wip, s.tst H' hs _ fun H3 s3 => ?_⟩
  have h3 := s3 D _ ha
  cases b with
  | false =>
    refine iteF (k H3 (hs.trans s3) ?_)
    rw [h3, if_neg Bool.false_ne_true, List.append_nil]
  | true =>
    refine iteT (s.elt rfl H3 (hs.trans s3) _ fun H4 s4 => ⟨acc, s4 D _ h3, hz, k _ (fun c o e => ?_) ?_⟩)
    · rw [upd_ne (ne_of_none e hD)]
      exact s4 c o (s3 c o (hs c o e))
    · rw [upd_same, if_pos rfl]
theorem lc_sel_list (t : V → Bool) (f : V → V) (hx : SqL K H a xs) (hD : H D = none) (hz : xs.length ≤ 1000000) (hs : ∀ x ∈ xs, SelT H σ vs j tt te x (t x) (f x)) (k : ∀ H', Same H H' → H' D = some (.lst ((xs.filter t).map f)) → Qd H') :
    ∃ W : Nat → Nat → Hp → Prop, (∃ m, W 0 m (upd H D (.lst []))) ∧ ∀ i m H, W i m H →
      ((Itl K a).stop i H ∧ Qd H) ∨ ((Itl K a).go i H ∧ ∃ Nx : Hp → Prop, (∀ H', Nx H' → ∃ m', m' < m ∧ W (i + 1) m' H') ∧ ∀ x H', (Itl K a).yld i H x H' → gName j x (wipe σ vs) H' fun σ2 H2 => wipe σ2 vs = wipe σ vs ∧ tt σ2 H2 fun b H3 =>
        if b = true then te σ2 H3 fun y H4 => ∃ acc, H4 D = some (.lst acc) ∧ acc.length < sizeLine ∧ Nx (upd H4 D (.lst (acc ++ [y]))) else Nx H3) := by
  have line : 1000000 < sizeLine := by decide
  refine lc_list (xs := xs) (fun i H' => Same H H' ∧ H' D = some (.lst (((xs.take i).filter t).map f))) ⟨same_new hD, upd_same⟩ (fun i H' _ p => p.1.seq hx) (fun i x H' hi p => ?_) fun H' p => k H' p.1 (by rw [p.2, List.take_length])
  refine sel_turn hD (hs x (List.mem_of_getElem? hi)) p.1 p.2 ?_ fun H'' s'' e => ⟨s'', by rw [e, take_sel t f hi]⟩
  have l1 := List.length_filter_le t (xs.take i)
  have l2 := List.length_take_le i xs
  have l3 : (xs.take i).length ≤ xs.length := by rw [List.length_take]; omega
  rw [List.length_map]
  omega
theorem Same.seqT {H H' : Hp} (e : Same H H') (h : SqT K H a xs) : SqT K H' a xs := by
  rcases h with (h | ⟨o, h⟩) | h
  · exact .inl (.inl (e _ _ h))
  · exact .inl (.inr ⟨o, e _ _ h⟩)
  · exact .inr h
theorem lc_sel_tup (t : V → Bool) (f : V → V) (hx : SqT K H a xs) (hD : H D = none) (hz : xs.length ≤ 1000000) (hs : ∀ x ∈ xs, SelT H σ vs j tt te x (t x) (f x)) (k : ∀ H', Same H H' → H' D = some (.lst ((xs.filter t).map f)) → Qd H') :
    ∃ W : Nat → Nat → Hp → Prop, (∃ m, W 0 m (upd H D (.lst []))) ∧ ∀ i m H, W i m H →
      ((Itt K a).stop i H ∧ Qd H) ∨ ((Itt K a).go i H ∧ ∃ Nx : Hp → Prop, (∀ H', Nx H' → ∃ m', m' < m ∧ W (i + 1) m' H') ∧ ∀ x H', (Itt K a).yld i H x H' → gName j x (wipe σ vs) H' fun σ2 H2 => wipe σ2 vs = wipe σ vs ∧ tt σ2 H2 fun b H3 =>
        if b = true then te σ2 H3 fun y H4 => ∃ acc, H4 D = some (.lst acc) ∧ acc.length < sizeLine ∧ Nx (upd H4 D (.lst (acc ++ [y]))) else Nx H3) := by
  have line : 1000000 < sizeLine := by decide
  refine lc_tup (xs := xs) (fun i H' => Same H H' ∧ H' D = some (.lst (((xs.take i).filter t).map f))) ⟨same_new hD, upd_same⟩ (fun i H' _ p => Same.seqT p.1 hx) (fun i x H' hi p => ?_) fun H' p => k H' p.1 (by rw [p.2, List.take_length])
  refine sel_turn hD (hs x (List.mem_of_getElem? hi)) p.1 p.2 ?_ fun H'' s'' e => ⟨s'', by rw [e, take_sel t f hi]⟩
  have l1 := List.length_filter_le t (xs.take i)
  have l3 : (xs.take i).length ≤ xs.length := by rw [List.length_take]; omega
  rw [List.length_map]
  omega
theorem take_range {n i : Nat} (h : i < n) : (List.range n)[i]? = some i := by
  rw [List.getElem?_range h]
theorem lc_sel_range {lo : Int} {n : Nat} (t : Nat → Bool) (f : Nat → V) (hD : H D = none) (hz : n ≤ 1000000) (hs : ∀ i, i < n → SelT H σ vs j tt te (.int (lo + i)) (t i) (f i)) (k : ∀ H', Same H H' → H' D = some (.lst (((List.range n).filter t).map f)) → Qd H') :
    ∃ W : Nat → Nat → Hp → Prop, (∃ m, W 0 m (upd H D (.lst []))) ∧ ∀ i m H, W i m H →
      ((Itr lo n).stop i H ∧ Qd H) ∨ ((Itr lo n).go i H ∧ ∃ Nx : Hp → Prop, (∀ H', Nx H' → ∃ m', m' < m ∧ W (i + 1) m' H') ∧ ∀ x H', (Itr lo n).yld i H x H' → gName j x (wipe σ vs) H' fun σ2 H2 => wipe σ2 vs = wipe σ vs ∧ tt σ2 H2 fun b H3 =>
        if b = true then te σ2 H3 fun y H4 => ∃ acc, H4 D = some (.lst acc) ∧ acc.length < sizeLine ∧ Nx (upd H4 D (.lst (acc ++ [y]))) else Nx H3) := by
  have line : 1000000 < sizeLine := by decide
  refine lc_range (fun i H' => Same H H' ∧ H' D = some (.lst ((((List.range n).take i).filter t).map f))) ⟨same_new hD, upd_same⟩ (fun i H' hi p => ?_) fun H' p => k H' p.1 (by rw [p.2, List.take_of_length_le (by rw [List.length_range]; omega)])
  refine sel_turn hD (hs i hi) p.1 p.2 ?_ fun H'' s'' e => ⟨s'', by rw [e, take_sel t f (take_range hi)]⟩
  have l1 := List.length_filter_le t ((List.range n).take i)
  have l3 : ((List.range n).take i).length ≤ n := by rw [List.length_take, List.length_range]; omega
  rw [List.length_map]
  omega
end
theorem filter_all {α : Type} (xs : List α) : xs.filter (fun _ => true) = xs := List.filter_eq_self.mpr fun _ _ => rfl
theorem Kp.free {t D : Addr} {H H' : Hp} (k : Kp t H H') (h : H' D = none) (n : D ≠ t) : H D = none := by
  cases e : H D with
  | none => rfl
  | some o =>
    rw [k D o e n] at h
    cases h
theorem Kp.mut {t p : Addr} {H H' : Hp} {o : HO} (k : Kp t H H') (h : H p = none) : Kp t H (upd H' p o) := fun b u e n => by
  rw [upd_ne (ne_of_none e h)]
  exact k b u e n
theorem Tape.mut {H : Hp} {t c p : Addr} {n : Nat} {o : HO} (h : Tape H t c n) (n1 : p ≠ t) (n2 : p ≠ c) : Tape (upd H p o) t c n := h.stay fun b u e z => by
  rw [upd_ne]
  · exact e
  · rcases z with rfl | rfl
    · exact n1.symm
    · exact n2.symm
theorem yes_go {σ : L2.St} {H : Hp} {A B : Hp → Prop} (h : A H) : tYes σ H (fun b H' => if b = true then A H' else B H') := by
  show (if true = true then A H else B H)
  rw [if_pos rfl]
  exact h
/-! ### d.update(e) of two dicts -/
theorem mt_update {X : Cx} : MtR X "dict.update" (fun x xs H Q => ∃ (a b : Addr) (ks ms : List (Key × V)), x = .ref a ∧ xs = [.ref b] ∧ H a = some (.dK ks) ∧ H b = some (.dK ms) ∧ a ≠ b ∧ ks.length + ms.length ≤ sizeLine ∧
    Q .non (upd H a (.dK (mergeK ks ms)))) := by
  intro pins s σ H x xs v us Q I rx rxs h
  obtain ⟨a, b, ks, ms, rfl, rfl, ha, hb, ne, few, q⟩ := h
  cases rx
  obtain ⟨u, rfl, ru⟩ := vals1 rxs
  cases ru
  obtain ⟨za, da, va, ra, dda⟩ := dk_of I.hok ha
  obtain ⟨zb, db, vb, rb, ddb⟩ := dk_of I.hok hb
  refine call_meetsIn PySem.F.slot_dict_update dda.typeIs PySem.F.entry_dict_update (PySem.F.args_dict_update_2 _ _) (meets_dict_update (mixKind X.prog X.w) a b ne db) ⟨va, vb, dda, ddb, by rw [← ra.length, ← rb.length]; exact few, fun h' d1 d2 same => ?_⟩
  have there : ∃ o, h'.get? a = some o := by
    obtain ⟨o, _, _, ho, _⟩ := id d1
    exact ⟨o, ho⟩
  have small : (mergeK ks ms).length ≤ sizeLine := Nat.le_trans (length_mergeK ms ks) few
  exact ⟨.non, _, d_write (t' := s.toks) I (by rw [ha]; exact True.intro) same there (dk_new small da (rb.merge ra) d1), rfl, q⟩
/-! ### rules whose reading names the written part, for use within a comprehension -/
section
variable {X : Cx} {K : PySem.W.Frag}
theorem op_inK (h : X.K = K) : OpR X (compareOp .In) (rIn K false) := h ▸ op_in_seq
theorem op_notInK (h : X.K = K) : OpR X (compareOp .NotIn) (rIn K true) := h ▸ op_notIn_seq
theorem op_eqNilK (h : X.K = K) (hu : X.A.units + 1 < cLine) : OpR X (compareOp .Eq) (rEqNil K false) := h ▸ op_eqNil hu
theorem op_neNilK (h : X.K = K) (hu : X.A.units + 1 < cLine) : OpR X (compareOp .NotEq) (rEqNil K true) := h ▸ op_neNil hu
theorem ix_listK (h : X.K = K) : IxR X (rIxL K) := h ▸ ix_list
theorem ix_tupK (h : X.K = K) : IxR X (rIxT K) := h ▸ ix_tup
theorem ix_seqK (h : X.K = K) : IxR X (rIx K) := h ▸ ix_seq
theorem len_seqK (h : X.K = K) : CallR X (.builtin "len") (fun xs H Q => ∃ p ys, xs = [.ref p] ∧ (SqL K H p ys ∨ SqT K H p ys) ∧ Q (.int (ys.length : Nat)) H) := h ▸ call_len_seq
theorem pi_listK {tg l : Expr} {tl : TE} (h : X.K = K) (hl : PE X l tl) : PI X tg l (iList K tl) := h ▸ pi_list hl
theorem pi_tupK {tg l : Expr} {tl : TE} (h : X.K = K) (hl : PE X l tl) : PI X tg l (iTup K tl) := h ▸ pi_tup hl
theorem sl_listK (h : X.K = K) : SlR X (rSlL K) := h ▸ sl_list
theorem sl_tupK (h : X.K = K) : SlR X (rSlT K) := h ▸ sl_tup
theorem cr_sumK (h : X.K = K) (hc : X.calm = true) : CallR X (.builtin "sum") (rSum K) := h ▸ cr_sum hc
theorem cr_maxL (h : X.K = K) (hc : X.calm = true) : CallR X (.builtin "max") (rMax K) := h ▸ cr_max hc
theorem cr_minL (h : X.K = K) (hc : X.calm = true) : CallR X (.builtin "min") (rMin K) := h ▸ cr_min hc
theorem cr_allK (h : X.K = K) (hc : X.calm = true) : CallR X (.builtin "all") (rAll K) := h ▸ cr_all hc
theorem cr_anyK (h : X.K = K) (hc : X.calm = true) : CallR X (.builtin "any") (rAny K) := h ▸ cr_any hc
theorem call_list_ofK (h : X.K = K) : CallR X (.type "list") (fun xs H Q => ∃ p ys, xs = [.ref p] ∧ (SqL K H p ys ∨ SqT K H p ys) ∧ ∀ l, H l = none → Q (.ref l) (upd H l (.lst ys))) := h ▸ call_list_of
theorem call_tuple_ofK (h : X.K = K) : CallR X (.type "tuple") (fun xs H Q => ∃ p ys, xs = [.ref p] ∧ ((SqL K H p ys ∧ ∀ l, H l = none → Q (.ref l) (upd H l (.tup ys))) ∨ (SqT K H p ys ∧ Q (.ref p) H))) := h ▸ call_tuple_of
theorem op_catTK (h : X.K = K) : OpR X (binaryOp .Add) (rCatT K) := h ▸ op_catT
end
theorem bd_is_whole : BindsAll "is_whole" s_is_whole ["thing"] := fun _ _ _ _ _ _ us hl => match us, hl with | [_], _ => rfl
theorem bd_is_part : BindsAll "is_part" s_is_part ["thing"] := fun _ _ _ _ _ _ us hl => match us, hl with | [_], _ => rfl
theorem bd_is_plan : BindsAll "is_plan" s_is_plan ["thing"] := fun _ _ _ _ _ _ us hl => match us, hl with | [_], _ => rfl
theorem bd_size_of : BindsAll "size_of" s_size_of ["part"] := fun _ _ _ _ _ _ us hl => match us, hl with | [_], _ => rfl
theorem bd_show_plan : BindsAll "show_plan" s_show_plan ["part"] := fun _ _ _ _ _ _ us hl => match us, hl with | [_], _ => rfl
theorem bd_read_plan : BindsAll "read_plan" s_read_plan ["text"] := fun _ _ _ _ _ _ us hl => match us, hl with | [_], _ => rfl
theorem bd__are_parts : BindsAll "_are_parts" s__are_parts ["things", "around"] := fun _ _ _ _ _ _ us hl => match us, hl with | [_, _], _ => rfl
theorem bd__is_joined : BindsAll "_is_joined" s__is_joined ["thing"] := fun _ _ _ _ _ _ us hl => match us, hl with | [_], _ => rfl
theorem bd__first_in : BindsAll "_first_in" s__first_in ["text"] := fun _ _ _ _ _ _ us hl => match us, hl with | [_], _ => rfl
theorem bd__law_begun : BindsAll "_law_begun" s__law_begun ["_law_script"] := fun _ _ _ _ _ _ us hl => match us, hl with | [_], _ => rfl
theorem bd__law_draw : BindsAll "_law_draw" s__law_draw ["_law_tape", "_law_many"] := fun _ _ _ _ _ _ us hl => match us, hl with | [_, _], _ => rfl
theorem bd__law_pick : BindsAll "_law_pick" s__law_pick ["_law_tape", "_law_some"] := fun _ _ _ _ _ _ us hl => match us, hl with | [_, _], _ => rfl
theorem bd__law_part : BindsAll "_law_part" s__law_part ["_law_tape", "_law_many", "_law_deep"] := fun _ _ _ _ _ _ us hl => match us, hl with | [_, _, _], _ => rfl
theorem bd__law_plan : BindsAll "_law_plan" s__law_plan ["_law_tape", "_law_many", "_law_most"] := fun _ _ _ _ _ _ us hl => match us, hl with | [_, _, _], _ => rfl
theorem bd__law_written : BindsAll "_law_written" s__law_written ["_law_part_here"] := fun _ _ _ _ _ _ us hl => match us, hl with | [_], _ => rfl
theorem bd_law : BindsAll "law" s_law ["_law_script"] := fun _ _ _ _ _ _ us hl => match us, hl with | [_], _ => rfl
structure Top (K : PySem.W.Frag) (mg : Str → Option Value) : Prop where
  d_is_whole : At K mg "is_whole" s_is_whole
  d_is_part : At K mg "is_part" s_is_part
  d_is_plan : At K mg "is_plan" s_is_plan
  d_size_of : At K mg "size_of" s_size_of
  d_show_plan : At K mg "show_plan" s_show_plan
  d_read_plan : At K mg "read_plan" s_read_plan
  d__are_parts : At K mg "_are_parts" s__are_parts
  d__is_joined : At K mg "_is_joined" s__is_joined
  d__first_in : At K mg "_first_in" s__first_in
  d__law_begun : At K mg "_law_begun" s__law_begun
  d__law_draw : At K mg "_law_draw" s__law_draw
  d__law_pick : At K mg "_law_pick" s__law_pick
  d__law_part : At K mg "_law_part" s__law_part
  d__law_plan : At K mg "_law_plan" s__law_plan
  d__law_written : At K mg "_law_written" s__law_written
  d_law : At K mg "law" s_law
  c_MOST_ONES : ∃ t, mg "MOST_ONES" = some (.int 60 t)
  c_MOST_TUPLES : ∃ t, mg "MOST_TUPLES" = some (.int 60 t)
  b_isinstance : mg "isinstance" = none
  b_bool : mg "bool" = none
  b_int : mg "int" = none
  b_len : mg "len" = none
  b_tuple : mg "tuple" = none
  b_max : mg "max" = none
  b_range : mg "range" = none
  b_repr : mg "repr" = none
/-! ### the law's own def, run where the law is asked: nothing is being shown there -/
def RunAt (P : Program) (w : World) (K : PySem.W.Frag) (mg : Str → Option Value) (base : Heap) (f : Addr) (fd : FuncData) (ps : List Str) (sp : Sp) : Prop :=
  ∀ (s : Shared) (H : Hp) (us : List Value) (vs : List V) (Q : VK) (E : XK), Env0 P w K mg base callerA [] s H → BindsTo s fd ⟨us, []⟩ (ps.zip us) → Vals vs us → sp vs H Q E → codeAny (model P w) callerA (.call (.ref f) ⟨us, []⟩) (CR CX0 [] P w H s Q E) s
section
variable {P : Program} {w : World} {K : PySem.W.Frag} {mg : Str → Option Value} {base : Heap}
theorem run_at {x qual : Str} {st : Stmt} {f : Addr} {fd : FuncData} {N ps : List Str} {k : Nat} {sp : Sp} (F : Fun K x qual st f fd) (S : FnScope N ps (defScope st)) (room : Room (k + 1) callerA) (len : ∀ vs H Q E, sp vs H Q E → vs.length = ps.length)
    (body : ∀ (cdv : Value) (s : Shared) (H : Hp) (vs : List V) (Q : VK) (E : XK), Room k (callerA.deeper (envOfC qual (defScope st) s.heap.objs.size f cdv)) → sp vs H Q E →
      ∃ t, PSs (cxOf CX0 P w K mg base N qual (defScope st) f cdv callerA [] s H E).nox (defBody st) t ∧ t { nx := fun _ H' => Q .non H', rt := Q } (start N vs) H) : RunAt P w K mg base f fd ps sp := by
  obtain ⟨oc, od, kV, doc, pm, an, cdv, ct, osl, rfl, lk, hcd⟩ := F.ex
  intro s H us vs Q E e0 hb r hsp
  have few := len _ _ _ _ hsp
  have kin : K.In s.heap := e0.mod.kin.keeps fun b o z => (e0.bs b o z).1
  have lim : s.heap.NoLimit := e0.mod.nolimit.keeps fun b o z => (e0.bs b o z).1
  have kinds : ∀ z ∈ ps.zip us, (defScope st).names.lookup z.1 = some .local ∨ ((defScope st).names.lookup z.1 = some .cell ∧ ((cellsFrom (s.heap.objs.size + 1) (defScope st).names []).lookup z.1).isSome = true) := by
    rintro ⟨n, v⟩ hz
    rcases S.par n (List.of_mem_zip hz).1 with z | z
    · exact .inl z
    · exact .inr ⟨z, PySem.W.cellsFrom_some _ _ _ (.inl z)⟩
  refine codeAny_call_function room.depth (kin _ _ lk) rfl S.co S.gen rfl (PySem.W.codeRec_of kin hcd) (hb _ _ _ _ ?_)
  refine wpAny_newFunctionEnv_cells S.kind kinds fun env he s1 z => ?_
  subst he
  refine ⟨lim.keeps z.toInCall.keep, codeAny_func ?_⟩
  obtain ⟨t, ht, hq⟩ := body cdv s H vs Q E (room.deeper _) hsp
  have I : Inv (cxOf CX0 P w K mg base N qual (defScope st) f cdv callerA [] s H E) [] (start N vs) H s1 := inv_start S room.hd e0 few r z
  refine wpAny_mono (ht.nox.run [] s1 (start N vs) H _ I hq) (fun fl s2 hs => ?_) fun e s2 hs => hs
  cases fl with
  | ret u =>
    obtain ⟨v, σ2, H2, J, rv, q⟩ := hs
    exact ⟨v, H2, J.os, J.bare, J.base, J.hok, rv, q⟩
  | next =>
    obtain ⟨σ2, H2, J, q⟩ := hs
    exact ⟨.non, H2, J.os, J.bare, J.base, J.hok, rfl, q⟩
  | brk =>
    obtain ⟨_, _, _, q⟩ := hs
    exact q.elim
  | cont =>
    obtain ⟨_, _, _, q⟩ := hs
    exact q.elim
theorem law_at {mb : Str → Option Value} {fa p : Addr} {fd : FuncData} {x : Str} {sp : Sp} {s1 : Shared} {vs : List Value} {ns : List Int}
    (kin : K.In s1.heap) (hns : s1.heap.Ns mainGlobals mg) (hb : s1.heap.Ns builtinsNs mb) (hbb : ∀ y : Str, y ≠ "__name__" → mb y = bootBuiltins y) (hlim : s1.heap.NoLimit) (hg : s1.gens = #[])
    (hp : s1.heap.get? p = some { cls := .type "list", data := .seq vs.toArray }) (hi : IntsAre vs ns) (few : ns.length ≤ sizeLine)
    (F : ∀ base : Heap, K.In base → base.Ns mainGlobals mg → RunAt P w K mg base fa fd [x] sp) (binds : ∀ (s : Shared) (u : Value), BindsTo s fd ⟨[u], []⟩ [(x, u)])
    (hsp : ∀ H : Hp, Only H → SqL K H p (ns.map V.int) → sp [.ref p] H (fun v _ => v = .bl true) fun _ _ _ => False) :
    codeAny (model P w) callerA (.call (.ref fa) ⟨[.ref p], []⟩) (fun r s2 => r = .ok (.ret (.bool true)) ∧ OldK s1.heap s2.heap ∧ s2.os = s1.os ∧ AllBare s2.gens) s1 := by
  have rv := vals_ints hi
  have core : ∀ H : Hp, Only H → SqL K H p (ns.map V.int) → HOk P w H s1.heap → (∀ b, H b ≠ none → b = p) → (H p ≠ none → K.lookup p = none) →
      codeAny (model P w) callerA (.call (.ref fa) ⟨[.ref p], []⟩) (fun r s2 => r = .ok (.ret (.bool true)) ∧ OldK s1.heap s2.heap ∧ s2.os = s1.os ∧ AllBare s2.gens) s1 := by
    intro H only seq hok one hK
    have below : ∀ {b : Addr} {o : Obj}, s1.heap.get? b = some o → H b = none → (hidT s1.heap H).get? b = some o := fun e n => hidT_get e n
    have dicts : ∀ {b : Addr} {o : Obj} {es : Array DictEntry} {ep : Nat}, s1.heap.get? b = some o → o.data = .dict es ep → H b = none := by
      intro b o es ep e d
      cases q : H b with
      | none => rfl
      | some u =>
        obtain rfl : b = p := one b (by rw [q]; simp)
        rw [hp] at e
        cases e
        cases (show Data.seq vs.toArray _ = Data.dict es ep from d)
    have spaces : ∀ {b : Addr} {m : Str → Option Value}, s1.heap.Ns b m → (hidT s1.heap H).Ns b m := by
      rintro b m ⟨o, es, ep, e, d, r⟩
      exact ⟨o, es, ep, below e (dicts e d), d, r⟩
    have kin2 : K.In (hidT s1.heap H) := fun b o e => by
      refine below (kin b o e) ?_
      cases q : H b with
      | none => rfl
      | some u =>
        obtain rfl : b = p := one b (by rw [q]; simp)
        rw [hK (by rw [q]; simp)] at e
        cases e
    have mod : Mod K mg (hidT s1.heap H) := by
      obtain ⟨mc, c1, c2⟩ := hlim
      exact ⟨kin2, spaces hns, ⟨mb, spaces hb, hbb⟩, ⟨mc, spaces c1, c2⟩⟩
    have e0 : Env0 P w K mg (hidT s1.heap H) callerA [] s1 H :=
      ⟨rfl, mod, fun b o e => of_hidT e, Nat.le_of_eq (hidT_size _ _), trivial, fun b z => absurd (show b ∈ ([] : List Addr) from z) (by simp), hok, .of_eq hg⟩
    refine codeAny_mono (F _ kin2 (spaces hns) s1 H [.ref p] [.ref p] _ _ e0 (binds s1 (.ref p)) (.cons rfl .nil) (hsp H only seq)) fun r s2 h => ?_
    cases r with
    | error e => exact h.elim
    | ok fl =>
      cases fl with
      | next => exact h.elim
      | brk => exact h.elim
      | cont => exact h.elim
      | ret u =>
        obtain ⟨v, H2, os, bare, un, hok2, rel, q⟩ := h
        obtain rfl : v = .bl true := q
        obtain rfl : u = Value.bool true := rel
        refine ⟨rfl, OldK.of_keep fun b o e => ?_, os, bare⟩
        cases q : H b with
        | none => exact un.keep b o e q (fun z => absurd (show b ∈ ([] : List Addr) from z) (by simp)) (by simp)
        | some u =>
          rcases only b with z | ⟨ob, xs, z⟩
          · rw [q] at z
            cases z
          · obtain ⟨a1, _⟩ := hok b _ z
            obtain ⟨a2, _⟩ := hok2 b _ (un.frzs b ob _ z)
            rw [e] at a1
            cases a1
            exact a2
  cases hk : K.lookup p with
  | some o =>
    have e := kin p o hk
    rw [hp] at e
    cases e
    have lv := hi.length
    refine core (fun _ => none) (fun _ => .inl rfl) (.inr ⟨_, vs.toArray, _, hk, rfl, rfl, rfl, ?_, by simpa using rv⟩) (fun b u z => ?_) (fun b z => absurd rfl z) fun z => absurd rfl z
    · rw [List.size_toArray, lv]
      exact few
    · cases (show (none : Option HO) = some u from z)
  | none =>
    refine core (fun b => if b = p then some (.frz { cls := .type "list", data := .seq vs.toArray } (.lst (ns.map V.int))) else none) (fun b => ?_) (.inl (.inr ⟨{ cls := .type "list", data := .seq vs.toArray }, if_pos rfl⟩)) (fun b u z => ?_) (fun b z => ?_) fun _ => hk
    · by_cases hb : b = p
      · exact .inr ⟨_, _, if_pos hb⟩
      · exact .inl (if_neg hb)
    · by_cases hb : b = p
      · subst hb
        cases (if_pos rfl).symm.trans z
        refine ⟨hp, ?_, vs, _, rv, hp⟩
        rw [List.length_map]
        exact few
      · cases (if_neg hb).symm.trans z
    · by_cases hb : b = p
      · exact hb
      · exact absurd (if_neg hb) z
end
theorem walk_at {l : PySem.W.OpenLaw} {n : Nat} {q : Program} {loose : List Str} {XP : (Str → Option Value) → Heap → Prop} {YP : World → Heap → Prop} {d : DefRec} {K : Params → PySem.W.Frag} {sp : World → Sp} {x : Str}
    (hn : l.most = some n) (hn2 : n ≤ sizeLine) (hdf : d.params.defaults = []) (hY : ∀ (w : World) (h : Heap), YP w h → (K w.params).In h)
    (F : ∀ (w : World) (mg : Str → Option Value) (fa : Addr) (h : Heap), (K w.params).In h → h.Ns mainGlobals mg → mg d.name = some (.ref fa) →
      ∃ fd : FuncData, (∀ (s : Shared) (u : Value), BindsTo s fd ⟨[u], []⟩ [(x, u)]) ∧ ∀ base : Heap, (K w.params).In base → base.Ns mainGlobals mg → RunAt l.prog w (K w.params) mg base fa fd [x] (sp w))
    (hsp : ∀ (w : World) (H : Hp) (a : Addr) (ns : List Int), ns.length ≤ n → Only H → SqL (K w.params) H a (ns.map V.int) → sp w [.ref a] H (fun v _ => v = .bl true) fun _ _ _ => False) :
    PySem.W.WalkO q loose XP YP l.row.toRowW d [] (fun f vs => PySem.call f vs) := by
  refine Att.attach_call hn hdf fun w s0 s1 mg mb fa o pm cd doc a vs ns G Y ho hd hcd hmg hobj hints hlen hg => ?_
  obtain ⟨fd, hb, hF⟩ := F w mg fa _ (hY w _ Y) G.T.g hmg
  exact law_at (hY w _ Y) G.T.g G.T.b G.T.builtins G.T.nolimit hg hobj hints (Nat.le_trans hlen hn2) hF hb fun H only seq => hsp w H a ns hlen only seq

/-! ### promises that hold where nothing is being shown -/
structure FnG (P : Program) (w : World) (K : PySem.W.Frag) (mg : Str → Option Value) (base : Heap) (k : Nat) (f : Addr) (fd : FuncData) (ps : List Str) (sp : Sp) : Prop where
  len : ∀ vs H Q E, sp vs H Q E → vs.length = ps.length
  run : ∀ (A : Around) (out : List Env) (s : Shared) (H : Hp) (us : List Value) (vs : List V) (Q : VK) (E : XK), Room k A → A.guards = some [] → Env0 P w K mg base A out s H → BindsTo s fd ⟨us, []⟩ (ps.zip us) → Vals vs us → sp vs H Q E →
    codeAny (model P w) A (.call (.ref f) ⟨us, []⟩) (CR CX0 out P w H s Q E) s
structure HasG (P : Program) (w : World) (K : PySem.W.Frag) (mg : Str → Option Value) (base : Heap) (k : Nat) (x : Str) (ps : List Str) (sp : Sp) : Prop where
  ex : ∃ f fd, mg x = some (.ref f) ∧ PySem.W.keepIn K (.ref f) = true ∧ Binds K fd ps [] ∧ FnG P w K mg base k f fd ps sp
section
variable {P : Program} {w : World} {K : PySem.W.Frag} {mg : Str → Option Value} {base : Heap}
theorem fnG {x qual : Str} {st : Stmt} {f : Addr} {fd : FuncData} {N ps : List Str} {k : Nat} {sp : Sp} (F : Fun K x qual st f fd) (S : FnScope N ps (defScope st)) (len : ∀ vs H Q E, sp vs H Q E → vs.length = ps.length)
    (body : ∀ (cdv : Value) (A : Around) (out : List Env) (s : Shared) (H : Hp) (vs : List V) (Q : VK) (E : XK), Room k (A.deeper (envOfC qual (defScope st) s.heap.objs.size f cdv)) → (A.deeper (envOfC qual (defScope st) s.heap.objs.size f cdv)).guards = some [] → sp vs H Q E →
      ∃ t, PSs (cxOf CX0 P w K mg base N qual (defScope st) f cdv A out s H E).nox (defBody st) t ∧ t { nx := fun _ H' => Q .non H', rt := Q } (start N vs) H) : FnG P w K mg base (k + 1) f fd ps sp := by
  obtain ⟨oc, od, kV, doc, pm, an, cdv, ct, osl, rfl, lk, hcd⟩ := F.ex
  refine ⟨len, fun A out s H us vs Q E room calm e0 hb r hsp => ?_⟩
  have few := len _ _ _ _ hsp
  have kin : K.In s.heap := e0.mod.kin.keeps fun b o z => (e0.bs b o z).1
  have lim : s.heap.NoLimit := e0.mod.nolimit.keeps fun b o z => (e0.bs b o z).1
  have kinds : ∀ z ∈ ps.zip us, (defScope st).names.lookup z.1 = some .local ∨ ((defScope st).names.lookup z.1 = some .cell ∧ ((cellsFrom (s.heap.objs.size + 1) (defScope st).names []).lookup z.1).isSome = true) := by
    rintro ⟨n, v⟩ hz
    rcases S.par n (List.of_mem_zip hz).1 with z | z
    · exact .inl z
    · exact .inr ⟨z, PySem.W.cellsFrom_some _ _ _ (.inl z)⟩
  refine codeAny_call_function room.depth (kin _ _ lk) rfl S.co S.gen rfl (PySem.W.codeRec_of kin hcd) (hb _ _ _ _ ?_)
  refine wpAny_newFunctionEnv_cells S.kind kinds fun env he s1 z => ?_
  subst he
  refine ⟨lim.keeps z.toInCall.keep, codeAny_func ?_⟩
  obtain ⟨t, ht, hq⟩ := body cdv A out s H vs Q E (room.deeper _) calm hsp
  have I : Inv (cxOf CX0 P w K mg base N qual (defScope st) f cdv A out s H E) [] (start N vs) H s1 := inv_start S room.hd e0 few r z
  refine wpAny_mono (ht.nox.run [] s1 (start N vs) H _ I hq) (fun fl s2 hs => ?_) fun e s2 hs => hs
  cases fl with
  | ret u =>
    obtain ⟨v, σ2, H2, J, rv, q⟩ := hs
    exact ⟨v, H2, J.os, J.bare, J.base, J.hok, rv, q⟩
  | next =>
    obtain ⟨σ2, H2, J, q⟩ := hs
    exact ⟨.non, H2, J.os, J.bare, J.base, J.hok, rfl, q⟩
  | brk =>
    obtain ⟨_, _, _, q⟩ := hs
    exact q.elim
  | cont =>
    obtain ⟨_, _, _, q⟩ := hs
    exact q.elim
theorem has_ofG {x : Str} {st : Stmt} {N ps : List Str} {k : Nat} {sp : Sp} (A : At K mg x st) (S : FnScope N ps (defScope st)) (B : BindsAll x st ps) (len : ∀ vs H Q E, sp vs H Q E → vs.length = ps.length)
    (body : ∀ (f : Addr) (cdv : Value) (A : Around) (out : List Env) (s : Shared) (H : Hp) (vs : List V) (Q : VK) (E : XK), Room k (A.deeper (envOfC x (defScope st) s.heap.objs.size f cdv)) → (A.deeper (envOfC x (defScope st) s.heap.objs.size f cdv)).guards = some [] → sp vs H Q E →
      ∃ t, PSs (cxOf CX0 P w K mg base N x (defScope st) f cdv A out s H E).nox (defBody st) t ∧ t { nx := fun _ H' => Q .non H', rt := Q } (start N vs) H) : HasG P w K mg base (k + 1) x ps sp := by
  obtain ⟨f, fd, hm, F⟩ := A.ex
  exact ⟨f, fd, hm, F.kp, F.binds B, fnG F S len fun cdv A out s H vs Q E hr hg h => body f cdv A out s H vs Q E hr hg h⟩
theorem FnG.at_ {f : Addr} {fd : FuncData} {ps : List Str} {k : Nat} {sp : Sp} (G : FnG P w K mg base k f fd ps sp) (room : Room k callerA) : RunAt P w K mg base f fd ps sp :=
  fun s H us vs Q E e0 hb r hsp => G.run callerA [] s H us vs Q E room rfl e0 hb r hsp
end
section
variable {X : Cx} {k : Nat} {x : Str} {ps : List Str} {sp : Sp} {e : Expr} {es : List Expr} {t : TA} {p pos : Pos}
theorem pe_hasG (h : HasG X.prog X.w X.K X.mg X.base k x ps sp) (hr : Room k X.A) (hgd : X.A.guards = some []) (hg : Gl X x) (ha : PA X (e :: es) t)
    (hdb : (x == ("__debug__" : Str)) = false := by decide) (he : starEach (e :: es) X.env = (false, eval e X.env) :: starEach es X.env := by rfl) (hpl : (backTo pos (starEach es X.env)).any (·.1) = false := by rfl) :
    PE X (.Call (.Name x p) (e :: es) [] pos) (tCall sp [] E0 t) := by
  obtain ⟨f, fd, hm, hk, hb, F⟩ := h.ex
  refine ⟨fun pins s σ H Q I hw => ?_⟩
  refine wpAny_Call_Name_kw (ld_glob I hg hm ?_ hdb)
  refine PySem.W.callWith_K (h₀ := X.base) I.ok.mod.kin hk (thn (ha.run pos pins s σ H _ I hw) fun us s1 ⟨vs, H1, I1, r1, q⟩ => ⟨I1.kIn, ?_⟩) he hpl
  have q : sp vs H1 Q E0 := by
    have z : sp (vs ++ []) H1 Q E0 := q
    rwa [List.append_nil] at z
  have bd := hb s1 us I1.kIn (by rw [List.append_nil, ← r1.length]; exact F.len _ _ _ _ q)
  rw [List.append_nil] at bd
  refine wpAny_call (codeAny_mono (F.run X.A X.stack s1 H1 us vs Q E0 hr hgd I1.env0 bd r1 q) fun r s2 hq => ?_)
  cases r with
  | error e => exact pass0 pins σ H1 s1 e s2 I1 hq
  | ok fl =>
    cases fl with
    | ret u => exact I1.after hq
    | next => exact hq.elim
    | brk => exact hq.elim
    | cont => exact hq.elim
end
/-! ### repr of None, of a whole number, of a list -/
structure Showy (x : PyData) : Prop where
  s : x.showable = true
  n : x.hasDict = false
  d : x.depth ≤ 60
  l : x.shown.length ≤ sizeLine
theorem call_reprV {X : Cx} (hgd : X.A.guards = some []) (hu : X.A.units + 64 < cLine) : CallR X (.builtin "repr") (fun xs H Q => (xs = [.non] ∧ Q (.str "None") H) ∨ (∃ i, xs = [.int i] ∧ i.natAbs.log2 < 1920 ∧ Q (.str (toString i)) H) ∨
    ∃ a d, xs = [.ref a] ∧ Dp X.K H (.ref a) d ∧ Showy d ∧ Q (.str d.shown) H) := by
  intro pins s σ H xs us Q I r h
  rcases h with ⟨rfl, q⟩ | ⟨i, rfl, hi, q⟩ | ⟨a, d, rfl, hd, sh, q⟩
  · obtain ⟨u, rfl, ru⟩ := vals1 r
    cases ru
    exact PySem.P.repr_of_none ⟨.str "None", H, I.tok _, ⟨_, rfl⟩, q⟩
  · obtain ⟨u, rfl, t, rfl⟩ := vals1 r
    exact PySem.P.repr_of_int hi ⟨.str (toString i), H, I.tok _, ⟨_, rfl⟩, q⟩
  · obtain ⟨u, rfl, ru⟩ := vals1 r
    cases ru
    obtain ⟨as, rd⟩ := Dp.reads I d (.ref a) (.ref a) hd rfl
    have h3 := sh.d
    exact repr_of_reads' (s := s) rd sh.s (fun z => by rw [sh.n] at z; cases z) hgd (by omega) (fun _ _ z => z) (fun h2 u tk k => ⟨.str d.shown, H, I.kept (t' := tk) k, ⟨_, rfl⟩, q⟩) sh.l

/-! ### the draws -/
def spDraw : Sp := fun vs H Q _ => ∃ (t c : Addr) (m : Int) (n : Nat), vs = [.ref t, .int m] ∧ Tape H t c n ∧ n < 2 ^ 40 ∧ 0 < m ∧ m < 2 ^ 8000 ∧
  ∀ (H' : Hp) (r : Int), 0 ≤ r → r < m → Tape H' t c (n + 1) → Kp t H H' → Q (.int r) H'
theorem cell_at {ns : List Int} {spot : Int} (h0 : 0 < ns.length) (hs : 0 ≤ spot) : ∃ x, atI (ns.map V.int) (spot % ((ns.map V.int).length : Int)) = some (.int x) := by
  rw [List.length_map]
  have hp : (0 : Int) < (ns.length : Int) := by omega
  have h1 := Int.emod_nonneg spot (show (ns.length : Int) ≠ 0 by omega)
  have h2 := Int.emod_lt_of_pos spot hp
  have h3 : (spot % (ns.length : Int)).toNat < ns.length := by omega
  refine ⟨ns[(spot % (ns.length : Int)).toNat], at_of (j := (spot % (ns.length : Int)).toNat) (by omega) ?_⟩
  rw [List.getElem?_map, List.getElem?_eq_getElem h3]
  rfl
theorem log2_small {m : Int} (h0 : 0 < m) (h : m < 2 ^ 8000) : m.natAbs.log2 < 9000 := by
  have h2 : m.natAbs < 2 ^ 8000 := by
    have e : ((2 ^ 8000 : Nat) : Int) = (2 : Int) ^ 8000 := by rw [Int.natCast_pow]; rfl
    omega
  exact Nat.lt_of_lt_of_le (PySem.Flt.log2_lt_of (by decide) h2) (by decide)
theorem pow_ok {x spot : Int} {n : Nat} (h0 : 0 ≤ spot) (h1 : spot ≤ n) (h2 : n < 2 ^ 40) : CPow (x % 2147483647 + 69621 * spot + 48271) 17 := by
  have a := Int.emod_nonneg x (show (2147483647 : Int) ≠ 0 by decide)
  have b := Int.emod_lt_of_pos x (show (0 : Int) < 2147483647 by decide)
  refine ⟨by decide, by decide, ?_⟩
  have e : (2 : Nat) ^ 64 = 18446744073709551616 := by decide
  rw [e]
  omega
section
variable {P : Program} {w : World} {K : PySem.W.Frag} {mg : Str → Option Value} {base : Heap}
theorem has_draw (T : Top K mg) : Has P w K mg base 1 "_law_draw" ["_law_tape", "_law_many"] spDraw := by
  refine has_of T.d__law_draw sc__law_draw bd__law_draw (fun vs H Q E h => ?_) (fun f cdv A outer s H vs Q E hr h => ?_)
  · obtain ⟨t, c, m, n, rfl, _⟩ := h
    rfl
  · have hu := hu_of hr
    have nd := sc__law_draw.nd
    obtain ⟨t, c, m, n, rfl, ⟨ns, spot, left, tp, hs⟩, hn, hm, hm2, k⟩ := h
    refine ⟨_, (C8.pss_cut (ps_if (pt_cmpR op_lt (pe_dget hu (pv 0) pe_str (fun _ _ => rfl)) (pv 1) (nomark _)) (pss_cons (ps_par (i := 2) (j := 3) (by rfl) nd rfl rfl (by decide) rfl rfl (pa_cons (pe_dget hu (pv 0) pe_str (fun _ _ => rfl)) (pa_cons (pe_callB call_len_seq (by rfl) T.b_len (by decide +kernel) (pa_cons (pe_dget hu (pv 0) pe_str (fun _ _ => rfl)) pa_nil)) pa_nil)) (by rfl))
    (pss_cons (ps_asg (pe_tup (pa_cons (pe_ix ix_list (pe_dget hu (pv 0) pe_str (fun _ _ => rfl)) (pe_op op_mod (pv 2) (pv 3)) (fun _ _ => rfl)) (pa_cons (pe_op op_add (pv 2) pe_int) pa_nil))) (pg_tup (by rfl) (pgs_cons (pg_name (i := 4) nd rfl (.inl rfl)) (pgs_cons (pg_sub (pv 0) pe_str (set_dict hu)) pgs_nil))))
    (pss_cons (ps_dput hu (pv 0) pe_str (pe_op op_mod (pe_op op_pow (pe_op op_add (pe_op op_add (pe_op op_mod (pv 4) pe_int) (pe_op op_mul pe_int (pv 2))) pe_int) pe_int) (pe_op op_add (pe_op op_pow pe_int pe_int) pe_int)) rfl)
    (pss_one (ps_if (PW.pt (pw_and (pt_cmpR op_ge (pv 4) (pe_op op_pow pe_int pe_int) (nomark _)) (pw_and1 (pt_cmpR op_lt (pv 2) (pv 3) (nomark _))))) (pss_one (ps_dput hu (pv 0) pe_str (pe_op op_sub (pv 4) (pe_op op_pow pe_int pe_int)) rfl)) pss_nil))))) pss_nil)
    (pss_cons (ps_asg (pe_tup (pa_cons (pe_op op_mod (pe_dget hu (pv 0) pe_str (fun _ _ => rfl)) (pv 1)) (pa_cons (pe_op op_fdivW (pe_dget hu (pv 0) pe_str (fun _ _ => rfl)) (pv 1)) pa_nil))) (pg_tup (by rfl) (pgs_cons (pg_name (i := 5) nd rfl (.inl rfl)) (pgs_cons (pg_sub (pv 0) pe_str (set_dict hu)) pgs_nil))))
    (pss_one (ps_ret (pv 5))))), ?_⟩
    refine ⟨fun σ' H' => ∃ (v2 v3 v4 v5 : Option V) (spot' left' : Int), σ' = [some (.ref t), some (.int m), v2, v3, v4, v5] ∧ TapeC H' t c ns spot' left' ∧ spot' ≤ ((n + 1 : Nat) : Int) ∧ Kp t H H', ?_, ?_⟩
    · refine ⟨_, rfl, t, _, rfl, dg_left tp.d, _, rfl, _, _, rfl, rfl, _, rfl, ite2 (fun _ => ?_) (fun _ => ?_)⟩
      · obtain ⟨x, hx⟩ := cell_at tp.ne tp.s0
        refine ⟨_, rfl, t, _, rfl, dg_spot tp.d, _, rfl, t, _, rfl, dg_cells tp.d, c, _, rfl, .inl (SqL.of tp.l), _, _, rfl, ?_⟩
        refine ⟨_, rfl, t, _, rfl, dg_cells tp.d, _, rfl, _, rfl, _, _, rfl, rfl, ?_, c, _, _, _, rfl, rfl, SqL.of tp.l, hx, _, rfl, _, _, rfl, rfl, by show 2 ≤ sizeLine; decide, fun p hp => ?_⟩
        · show (0 : Int) < ((ns.map V.int).length : Int)
          rw [List.length_map]
          have := tp.ne
          omega
        have h1 : (upd H p (.tup [.int x, .int (spot + 1)])) t = some (.dK (tk c spot left)) := by
          rw [upd_ne (ne_of_none tp.d hp)]
          exact tp.d
        refine ⟨p, _, rfl, SqT.of upd_same, rfl, _, _, rfl, _, _, rfl, _, rfl, t, _, rfl, dp_spot _ h1, rfl, ?_⟩
        have c1 : (upd (upd H p (.tup [.int x, .int (spot + 1)])) t (.dK (tk c (spot + 1) left))) c = some (.lst (ns.map V.int)) := by
          rw [upd_ne (show c ≠ t from ne_of tp.l tp.d (by intro z; cases z)), upd_ne (ne_of_none tp.l hp)]
          exact tp.l
        refine ⟨_, rfl, _, _, rfl, rfl, by show (0 : Int) < 2147483647; decide, _, rfl, _, _, rfl, rfl, .inl ⟨by decide, by decide⟩, _, _, rfl, rfl, _, _, rfl, rfl, _, _, rfl, rfl, pow_ok tp.s0 hs hn, _, _, rfl, rfl, ⟨by decide, by decide, by decide⟩, _, _, rfl, rfl, _, _, rfl, rfl, ?_, _, rfl, t, _, rfl, dp_left _ upd_same, ?_⟩
        · show (0 : Int) < 10 ^ (50 : Int).toNat + 151
          decide
        have kp : ∀ z, Kp t H (upd (upd (upd H p (.tup [.int x, .int (spot + 1)])) t (.dK (tk c (spot + 1) left))) t (.dK (tk c (spot + 1) z))) := fun z => ((Kp.new hp).trans Kp.at).trans Kp.at
        have tq : ∀ z, 0 ≤ z → TapeC (upd (upd (upd H p (.tup [.int x, .int (spot + 1)])) t (.dK (tk c (spot + 1) left))) t (.dK (tk c (spot + 1) z))) t c ns (spot + 1) z := fun z hz =>
          ⟨upd_same, by rw [upd_ne (show c ≠ t from ne_of tp.l tp.d (by intro z; cases z))]; exact c1, tp.ne, tp.lt, by have := tp.s0; omega, hz⟩
        have h0 : ∀ a : Int, 0 ≤ a % (10 ^ (50 : Int).toNat + 151) := fun a => Int.emod_nonneg _ (by decide)
        refine ⟨_, rfl, _, _, rfl, rfl, ⟨by decide, by decide, by decide⟩, _, _, rfl, rfl, _, rfl, ite2 (fun hc => ?_) (fun _ => iteF ?_)⟩
        · refine ⟨_, rfl, _, rfl, _, _, rfl, rfl, _, rfl, ite2 (fun _ => ?_) (fun _ => ?_)⟩
          · refine ⟨_, rfl, _, _, rfl, rfl, ⟨by decide, by decide, by decide⟩, _, _, rfl, rfl, _, rfl, t, _, rfl, dp_left _ upd_same, ?_⟩
            have hz : (10 : Int) ^ (18 : Int).toNat ≤ x := of_decide_eq_true hc
            exact ⟨_, _, _, _, spot + 1, x - 10 ^ (18 : Int).toNat, rfl, ⟨upd_same, by rw [upd_ne (show c ≠ t from ne_of tp.l tp.d (by intro z; cases z))]; exact (tq _ (h0 _)).l, tp.ne, tp.lt, by have := tp.s0; omega, by omega⟩, by omega, (kp _).trans Kp.at⟩
          · exact ⟨_, _, _, _, _, _, rfl, tq _ (h0 _), by omega, kp _⟩
        · exact ⟨_, _, _, _, _, _, rfl, tq _ (h0 _), by omega, kp _⟩
      · exact ⟨_, _, _, _, _, _, rfl, tp, by omega, Kp.refl _⟩
    · rintro σ' H' ⟨v2, v3, v4, v5, spot', left', rfl, tp', hs', kp⟩
      refine ⟨_, rfl, t, _, rfl, dg_left tp'.d, _, rfl, _, _, rfl, rfl, hm, _, rfl, t, _, rfl, dg_left tp'.d, _, rfl, _, _, rfl, rfl, ⟨hm, ?_⟩, by show 2 ≤ sizeLine; decide, fun p hp => ?_⟩
      · exact log2_small hm hm2
      have h1 : ∀ o, (upd H' p o) t = some (.dK (tk c spot' left')) := fun o => by
          rw [upd_ne (ne_of_none tp'.d hp)]
          exact tp'.d
      refine ⟨p, _, rfl, SqT.of upd_same, rfl, _, _, rfl, _, _, rfl, _, rfl, t, _, rfl, dp_left _ (h1 _), rfl, ?_⟩
      refine ⟨_, rfl, k _ _ (Int.emod_nonneg _ (by omega)) (Int.emod_lt_of_pos _ hm) ?_ ?_⟩
      · exact ⟨ns, spot', _, ⟨upd_same, by rw [upd_ne (show c ≠ t from ne_of tp'.l tp'.d (by intro z; cases z)), upd_ne (ne_of_none tp'.l hp)]; exact tp'.l, tp'.ne, tp'.lt, tp'.s0, Int.ediv_nonneg tp'.l0 (by omega)⟩, hs'⟩
      · exact (kp.trans (Kp.new hp)).trans Kp.at
/-- a pick from a list or a tuple -/
def spPick (K : PySem.W.Frag) : Sp := fun vs H Q _ => ∃ (t c a : Addr) (xs : List V) (n : Nat), vs = [.ref t, .ref a] ∧ Tape H t c n ∧ n < 2 ^ 40 ∧ (∀ H', Kp t H H' → SqL K H' a xs ∨ SqT K H' a xs) ∧ 0 < xs.length ∧ xs.length ≤ 1000000 ∧
  ∀ (H' : Hp) (i : Nat) (v : V), xs[i]? = some v → Tape H' t c (n + 1) → Kp t H H' → Q v H'
theorem atI_ofN {α : Type} {xs : List α} {z : Int} {j : Nat} {v : α} (e : z = (j : Int)) (h : xs[j]? = some v) : atI xs z = some v := by
  rw [e]
  exact atI_nat h
/-- a pick from a text -/
def spPickS : Sp := fun vs H Q _ => ∃ (t c : Addr) (z : Str) (n : Nat), vs = [.ref t, .str z] ∧ Tape H t c n ∧ n < 2 ^ 40 ∧ 0 < z.length ∧ z.length ≤ 1000000 ∧
  ∀ (H' : Hp) (i u : Nat), z.cps.toList[i]? = some u → Tape H' t c (n + 1) → Kp t H H' → Q (.str ⟨#[u]⟩) H'
def spPick2 (K : PySem.W.Frag) : Sp := fun vs H Q E => spPick K vs H Q E ∨ spPickS vs H Q E
theorem call_len_any {X : Cx} : CallR X (.builtin "len") (fun xs H Q => (∃ p ys, xs = [.ref p] ∧ (SqL X.K H p ys ∨ SqT X.K H p ys) ∧ Q (.int (ys.length : Nat)) H) ∨ ∃ z : Str, xs = [.str z] ∧ z.length ≤ sizeLine ∧ Q (.int z.length) H) := by
  intro pins s σ H xs us Q I r h
  rcases h with h | h
  · exact call_len_seq pins s σ H xs us Q I r h
  · exact call_len_str pins s σ H xs us Q I r h
theorem has_pick (T : Top K mg) (h__law_draw : Has P w K mg base 1 "_law_draw" ["_law_tape", "_law_many"] spDraw) : Has P w K mg base 2 "_law_pick" ["_law_tape", "_law_some"] (spPick2 K) := by
  refine has_of T.d__law_pick sc__law_pick bd__law_pick (fun vs H Q E h => ?_) (fun f cdv A outer s H vs Q E hr h => ?_)
  · rcases h with ⟨t, c, a, xs, n, rfl, _⟩ | ⟨t, c, z, n, rfl, _⟩ <;> rfl
  · have hu := hu_of hr
    have nd := sc__law_pick.nd
    refine ⟨_, (pss_one (ps_ret (pe_ix ix_seq (pv 1) (pe_has h__law_draw (hr.mono (by omega)) (by rfl) (pa_cons (pv 0) (pa_cons (pe_callB call_len_any (by rfl) T.b_len (by decide +kernel) (pa_cons (pv 1) pa_nil)) pa_nil))) (fun _ _ => rfl)))), ?_⟩
    rcases h with ⟨t, c, a, xs, n, rfl, tp, hn, hs, h0, h1, k⟩ | ⟨t, c, z, n, rfl, tp, hn, h0, h1, k⟩
    · refine ⟨_, rfl, _, rfl, _, rfl, .inl ⟨a, xs, rfl, hs H (Kp.refl _), t, c, _, n, rfl, tp, hn, by omega, ?_, fun H' r r0 r1 tp' kp => ?_⟩⟩
      · exact Int.lt_of_le_of_lt (Int.ofNat_le.mpr h1) (by decide +kernel)
      have hi : r.toNat < xs.length := by omega
      have g : xs[r.toNat]? = some xs[r.toNat] := List.getElem?_eq_getElem hi
      rcases hs H' kp with z | z
      · exact .inl ⟨a, xs, r, _, rfl, rfl, z, at_of (by omega) g, k H' _ _ g tp' kp⟩
      · exact .inr (.inl ⟨a, xs, r, _, rfl, rfl, z, at_of (by omega) g, k H' _ _ g tp' kp⟩)
    · have lin : z.length ≤ sizeLine := Nat.le_trans h1 (by decide)
      refine ⟨_, rfl, _, rfl, _, rfl, .inr ⟨z, rfl, lin, t, c, _, n, rfl, tp, hn, by omega, ?_, fun H' r r0 r1 tp' kp => ?_⟩⟩
      · exact Int.lt_of_le_of_lt (Int.ofNat_le.mpr h1) (by decide +kernel)
      have hi : r.toNat < z.cps.toList.length := by
        have e : z.cps.toList.length = z.length := by rw [Array.length_toList]; rfl
        omega
      have g : z.cps.toList[r.toNat]? = some z.cps.toList[r.toNat] := List.getElem?_eq_getElem hi
      refine .inr (.inr ⟨z, r, _, rfl, rfl, lin, ?_, k H' _ _ g tp' kp⟩)
      exact atI_ofN (by omega) g
/-- the tape's beginning -/
def spBegun (K : PySem.W.Frag) : Sp := fun vs H Q _ => ∃ (a : Addr) (ns : List Int), vs = [.ref a] ∧ SqL K H a (ns.map V.int) ∧ ns.length ≤ 63 ∧
  ∀ (H' : Hp) (t c : Addr), H t = none → H c = none → Same H H' → Tape H' t c 0 → Q (.ref t) H'
theorem has_begun (T : Top K mg) : Has P w K mg base 1 "_law_begun" ["_law_script"] (spBegun K) := by
  refine has_of T.d__law_begun sc__law_begun bd__law_begun (fun vs H Q E h => ?_) (fun f cdv A outer s H vs Q E hr h => ?_)
  · obtain ⟨a, ns, rfl, _⟩ := h
    rfl
  · have hu := hu_of hr
    have nd := sc__law_begun.nd
    obtain ⟨a, ns, rfl, hS, hl, k⟩ := h
    refine ⟨_, (pss_one (ps_ret (pe_disp (pps_cons pe_str (pe_orT (pe_slice sl_list (pv 0) po_none (po_some pe_int)) (pe_one (pe_lst (pa_cons pe_int pa_nil)))) (pps_cons pe_str pe_int (pps_cons pe_str pe_int pps_nil))) (by rfl) (by rfl) (fun z => by cases z) (by decide)))), ?_⟩
    intro t ht
    have s1 := same_new (o := .dK []) ht
    refine ⟨_, rfl, 63, rfl, a, _, rfl, s1.seq hS, fun q hq => ?_⟩
    have ec : cutV (ns.map V.int) none (some 63) = ns.map V.int := by
      unfold cutV
      rw [HT.sIx_none, show HT.sIx (ns.map V.int).length (ns.map V.int).length (some 63) = min 63 (ns.map V.int).length from HT.sIx_nat _ _ 63, List.drop_zero, List.length_map]
      refine List.take_of_length_le ?_
      rw [List.length_map]
      omega
    rw [ec]
    have nqt : q ≠ t := fun e => by
      rw [e, upd_same] at hq
      cases hq
    have nq : H q = none := by
      rw [← hq, upd_ne nqt]
    cases hns : ns with
    | cons z zs =>
      refine ⟨true, .inl ⟨_, SqL.of upd_same, rfl⟩, iteT ?_⟩
      refine ⟨by rw [upd_ne nqt.symm]; exact upd_same, tk q 0 0, rfl, by show 3 ≤ 15; decide, ?_⟩
      refine k _ t q ht nq (fun b o e => ?_) ⟨z :: zs, 0, 0, ⟨upd_same, by rw [upd_ne nqt]; exact upd_same, by rw [List.length_cons]; omega, by rw [← hns]; exact hl, by decide, by decide⟩, by decide⟩
      rw [upd_ne (ne_of_none e ht), upd_ne (ne_of_none e nq), upd_ne (ne_of_none e ht)]
      exact e
    | nil =>
      refine ⟨false, .inl ⟨_, SqL.of upd_same, rfl⟩, iteF ?_⟩
      refine ⟨by show 1 ≤ sizeLine; decide, fun p hp => ?_⟩
      have npq : p ≠ q := fun e => by
        rw [e, upd_same] at hp
        cases hp
      have npt : p ≠ t := fun e => by
        rw [e, upd_ne nqt.symm, upd_same] at hp
        cases hp
      have np : H p = none := by
        rw [← hp, upd_ne npq, upd_ne npt]
      refine ⟨by rw [upd_ne npt.symm, upd_ne nqt.symm]; exact upd_same, tk p 0 0, rfl, by show 3 ≤ 15; decide, ?_⟩
      refine k _ t p ht np (fun b o e => ?_) ⟨[0], 0, 0, ⟨upd_same, by rw [upd_ne npt]; exact upd_same, by decide, by decide, by decide, by decide⟩, by decide⟩
      rw [upd_ne (ne_of_none e ht), upd_ne (ne_of_none e np), upd_ne (ne_of_none e nq), upd_ne (ne_of_none e ht)]
      exact e
end

/-! ### small things -/
theorem int_at {rs : List Int} {i : Nat} {x : V} (h : (rs.map V.int)[i]? = some x) : ∃ r, x = .int r ∧ rs[i]? = some r := by
  rw [List.getElem?_map] at h
  cases e : rs[i]? with
  | none =>
    rw [e] at h
    cases h
  | some r =>
    rw [e] at h
    exact ⟨r, (Option.some.inj h).symm, rfl⟩
/-- the truth that is told of a number of a clause -/
theorem pick_int {zs : List Int} {i : Nat} {v : V} (h : (zs.map V.int)[i]? = some v) : ∃ z, v = .int z ∧ z ∈ zs := by
  obtain ⟨r, e, hr⟩ := int_at h
  exact ⟨r, e, List.mem_of_getElem? hr⟩
theorem seq_in {n : Nat} {i : Int} (h0 : 0 ≤ i) (h1 : i < n) : seqIndex? i n = some i.toNat := by
  have e : ixN n i = some i.toNat := by
    unfold ixN
    rw [if_pos h0, if_pos h1]
  exact (ixN_seq e).1
theorem pow8000 {x : Int} (h : x ≤ 1000000) : x < 2 ^ 8000 := Int.lt_of_le_of_lt h (by decide +kernel)
theorem Tape.sq {H : Hp} {t c p : Addr} {n : Nat} {xs : List V} (h : Tape H t c n) (e : H p = some (.lst xs)) {H' : Hp} (k : Kp t H H') : H' p = some (.lst xs) := k p _ e (by
  obtain ⟨ns, spot, left, tc, _⟩ := h
  exact ne_of e tc.d (by intro z; cases z))
theorem Tape.ne_lst' {H : Hp} {t c p : Addr} {n : Nat} {xs : List V} (h : Tape H t c n) (e : H p = some (.lst xs)) : p ≠ t := by
  obtain ⟨ns, spot, left, tc, _⟩ := h
  exact ne_of e tc.d (by intro z; cases z)
theorem getElem_snoc {α : Type} {xs : List α} {x y : α} {i : Nat} (h : (xs ++ [x])[i]? = some y) : (i < xs.length ∧ xs[i]? = some y) ∨ (i = xs.length ∧ x = y) := by
  by_cases c : i < xs.length
  · rw [List.getElem?_append_left c] at h
    exact .inl ⟨c, h⟩
  · rw [List.getElem?_append_right (by omega)] at h
    have l := (List.getElem?_eq_some_iff.mp h).1
    simp only [List.length_cons, List.length_nil] at l
    have e : i - xs.length = 0 := by omega
    rw [e] at h
    exact .inr ⟨by omega, Option.some.inj h⟩
theorem same_mut {H H' : Hp} {D : Addr} {o : HO} (s : Same H H') (h : H D = none) : Same H (upd H' D o) := fun b u e => by
  rw [upd_ne (ne_of_none e h)]
  exact s b u e
theorem take_snoc {xs : List Int} {i : Nat} {x : Int} (h : xs[i]? = some x) : xs.take (i + 1) = xs.take i ++ [x] := by
  rw [List.take_add_one, h]
  rfl

/-! ### rules: a text a few times, a tuple a few times -/
theorem op_repTK {X : Cx} {K : PySem.W.Frag} (h : X.K = K) : OpR X (binaryOp .Mult) (rRepT K) := h ▸ op_repT
def repS (k : Int) (z : Str) : Str := ⟨(List.replicate k.toNat z.cps).foldl (· ++ ·) #[]⟩
theorem op_repS {X : Cx} : OpR X (binaryOp .Mult) (fun x y H Q => ∃ (z : Str) (k : Int), x = .str z ∧ y = .int k ∧ 2 ≤ k ∧ k ≤ 1000 ∧ 1 ≤ z.length ∧ z.length ≤ 1000 ∧ (repS k z).length ≤ sizeLine ∧ Q (.str (repS k z)) H) := by
  intro pins s σ H x y v u Q I rx ry h
  obtain ⟨z, k, rfl, rfl, h1, h2, h3, h4, h5, q⟩ := h
  obtain ⟨t, rfl⟩ := rx
  obtain ⟨t', rfl⟩ := ry
  have c1 : ¬ k < 1 := by omega
  have c2 : (k == 1 || z.length == 0) = false := by
    rw [Bool.or_eq_false_iff]
    exact ⟨by simp; omega, by simp; omega⟩
  refine PySem.P.mul_str ?_ (fun _ _ => ?_) (fun _ _ => ?_) ?_
  · rw [Bool.or_eq_false_iff]
    exact ⟨decide_eq_false (by omega), decide_eq_false (by omega)⟩
  · have e : (1000 : Int) ≤ (2 ^ 63 - 1) / k := (Int.le_ediv_iff_mul_le (by omega)).mpr (by omega)
    omega
  · have e : z.length * k.toNat ≤ 1000 * 1000 := Nat.mul_le_mul h4 (by omega)
    have e2 : sizeLine = 16777216 := sizeLine_eq
    show decide (_ > sizeLine) = false
    refine decide_eq_false ?_
    omega
  · rw [if_neg c1, if_neg (by rw [c2]; exact Bool.false_ne_true)]
    exact ⟨h5, .str (repS k z), H, I.tok _, ⟨_, rfl⟩, q⟩
/-- a def whose promise can't be asked -/
theorem has_zero {P : Program} {w : World} {K : PySem.W.Frag} {mg : Str → Option Value} {base : Heap} {x : Str} {st : Stmt} {ps : List Str} {sp : Sp} (A : At K mg x st) (B : BindsAll x st ps) (no : ∀ vs H Q E, ¬ sp vs H Q E) : Has P w K mg base 0 x ps sp := by
  obtain ⟨f, fd, hm, F⟩ := A.ex
  exact ⟨f, fd, hm, F.kp, F.binds B, fun vs H Q E h => absurd h (no _ _ _ _), fun A out s H args us vs Q E _ _ _ _ h => absurd h (no _ _ _ _)⟩
/-! ### data made of tuples: they stay whatever becomes of lists -/
mutual
inductive Tp (H : Hp) : V → PyData → Prop
  | non : Tp H .non .none
  | bl (b : Bool) : Tp H (.bl b) (.bool b)
  | int (i : Int) : Tp H (.int i) (.int i)
  | str (x : Str) : Tp H (.str x) (.str x)
  | tup {a : Addr} {xs : List V} {ds : List PyData} : H a = some (.tup xs) → TpAll H xs ds → Tp H (.ref a) (.tuple ds)
inductive TpAll (H : Hp) : List V → List PyData → Prop
  | nil : TpAll H [] []
  | cons {v : V} {vs : List V} {d : PyData} {ds : List PyData} : Tp H v d → TpAll H vs ds → TpAll H (v :: vs) (d :: ds)
end
/-- tuples stay -/
def KT (H H' : Hp) : Prop := ∀ a xs, H a = some (.tup xs) → H' a = some (.tup xs)
theorem KT.refl {H : Hp} : KT H H := fun _ _ h => h
theorem KT.trans {H H1 H2 : Hp} (a : KT H H1) (b : KT H1 H2) : KT H H2 := fun c xs h => b c xs (a c xs h)
theorem KT.same {H H' : Hp} (s : Same H H') : KT H H' := fun a xs h => s a _ h
theorem KT.kp {H H' : Hp} {t c : Addr} {n : Nat} (tp : Tape H t c n) (k : Kp t H H') : KT H H' := fun a xs h => by
  obtain ⟨ns', sp', lf', tc, _⟩ := tp
  exact k _ _ h (ne_of h tc.d (by intro z; cases z))
theorem KT.lst {H : Hp} {D : Addr} {xs : List V} {o : HO} (h : H D = some (.lst xs)) : KT H (upd H D o) := fun a ys e => by
  rw [upd_ne (ne_of e h (by intro z; cases z))]
  exact e
theorem KT.new {H : Hp} {p : Addr} {o : HO} (h : H p = none) : KT H (upd H p o) := KT.same (same_new h)
mutual
theorem Tp.kt {H H' : Hp} (s : KT H H') : ∀ {v : V} {d : PyData}, Tp H v d → Tp H' v d
  | _, _, .non => .non
  | _, _, .bl b => .bl b
  | _, _, .int i => .int i
  | _, _, .str x => .str x
  | _, _, .tup h r => .tup (s _ _ h) (TpAll.kt s r)
theorem TpAll.kt {H H' : Hp} (s : KT H H') : ∀ {vs : List V} {ds : List PyData}, TpAll H vs ds → TpAll H' vs ds
  | _, _, .nil => .nil
  | _, _, .cons h r => .cons (Tp.kt s h) (TpAll.kt s r)
end
mutual
theorem Tp.dp {K : PySem.W.Frag} {H : Hp} : ∀ {v : V} {d : PyData}, Tp H v d → Dp K H v d
  | _, _, .non => .non
  | _, _, .bl b => .bl b
  | _, _, .int i => .int i
  | _, _, .str x => .str x
  | _, _, .tup h r => .tup (SqT.of h) (TpAll.dp r)
theorem TpAll.dp {K : PySem.W.Frag} {H : Hp} : ∀ {vs : List V} {ds : List PyData}, TpAll H vs ds → DpAll K H vs ds
  | _, _, .nil => .nil
  | _, _, .cons h r => .cons (Tp.dp h) (TpAll.dp r)
end
theorem TpAll.snoc {H : Hp} {v : V} {d : PyData} : ∀ {vs : List V} {ds : List PyData}, TpAll H vs ds → Tp H v d → TpAll H (vs ++ [v]) (ds ++ [d])
  | _, _, .nil, h => .cons h .nil
  | _, _, .cons a r, h => .cons a (r.snoc h)
theorem TpAll.app {H : Hp} {ws : List V} {es : List PyData} : ∀ {vs : List V} {ds : List PyData}, TpAll H vs ds → TpAll H ws es → TpAll H (vs ++ ws) (ds ++ es)
  | _, _, .nil, h => h
  | _, _, .cons a r, h => .cons a (r.app h)
theorem TpAll.len {H : Hp} : ∀ {vs : List V} {ds : List PyData}, TpAll H vs ds → vs.length = ds.length
  | _, _, .nil => rfl
  | _, _, .cons _ r => by rw [List.length_cons, List.length_cons, r.len]
theorem TpAll.get {H : Hp} : ∀ {vs : List V} {ds : List PyData} {i : Nat} {d : PyData}, TpAll H vs ds → ds[i]? = some d → ∃ v, vs[i]? = some v ∧ Tp H v d
  | _, _, _, _, .nil, e => by cases e
  | _, _, 0, _, .cons a _, e => ⟨_, rfl, by cases e; exact a⟩
  | _, _, i + 1, _, .cons _ r, e => r.get e
theorem tp_rep {H : Hp} {v : V} {d : PyData} (h : Tp H v d) : ∀ n, TpAll H (List.replicate n v) (List.replicate n d)
  | 0 => .nil
  | n + 1 => .cons h (tp_rep h n)
theorem Tp.new {H : Hp} {p : Addr} {xs : List V} {ds : List PyData} (n : H p = none) (r : TpAll H xs ds) : Tp (upd H p (.tup xs)) (.ref p) (.tuple ds) := .tup upd_same (r.kt (KT.new n))
theorem flat_one {v : V} : ∀ n : Nat, (List.replicate n [v]).flatten = List.replicate n v
  | 0 => rfl
  | n + 1 => by
    rw [List.replicate_succ, List.flatten_cons, flat_one n]
    rfl
/-! ### a comprehension over a range, whose items are new -/
section
variable {K : PySem.W.Frag} {tt : TT} {te : TE} {vs : List Nat} {σ : L2.St} {H : Hp} {D : Addr} {Qd : Hp → Prop} {j : Nat}
theorem lc_rangeC {lo c : Int} {n : Nat} {g : TG} (Pv : Nat → Hp → Prop) (h0 : Pv 0 (upd H D (.lst [])))
    (hs : ∀ i H, i < n → Pv i H → g (.int (lo + (i : Nat) * c)) (wipe σ vs) H fun σ2 H2 => wipe σ2 vs = wipe σ vs ∧ tt σ2 H2 fun b H3 =>
      if b = true then te σ2 H3 fun y H4 => ∃ acc, H4 D = some (.lst acc) ∧ acc.length < sizeLine ∧ Pv (i + 1) (upd H4 D (.lst (acc ++ [y]))) else Pv (i + 1) H3) (hd : ∀ H, Pv n H → Qd H) :
    ∃ W : Nat → Nat → Hp → Prop, (∃ m, W 0 m (upd H D (.lst []))) ∧ ∀ i m H, W i m H →
      ((Itc lo c n).stop i H ∧ Qd H) ∨ ((Itc lo c n).go i H ∧ ∃ Nx : Hp → Prop, (∀ H', Nx H' → ∃ m', m' < m ∧ W (i + 1) m' H') ∧ ∀ x H', (Itc lo c n).yld i H x H' → g x (wipe σ vs) H' fun σ2 H2 => wipe σ2 vs = wipe σ vs ∧ tt σ2 H2 fun b H3 =>
        if b = true then te σ2 H3 fun y H4 => ∃ acc, H4 D = some (.lst acc) ∧ acc.length < sizeLine ∧ Nx (upd H4 D (.lst (acc ++ [y]))) else Nx H3) := by
  refine ⟨fun i m H => m = n - i ∧ i ≤ n ∧ Pv i H, ⟨n, by simp, Nat.zero_le _, h0⟩, ?_⟩
  rintro i m H ⟨rfl, hi, p⟩
  by_cases hlt : i < n
  · refine .inr ⟨hlt, Pv (i + 1), fun H' p' => ⟨n - (i + 1), by omega, rfl, hlt, p'⟩, fun x H' y => ?_⟩
    obtain ⟨rfl, rfl⟩ := y
    exact hs i H' hlt p
  · have e : i = n := by omega
    subst e
    exact .inl ⟨Nat.le_refl _, hd H p⟩
/-- what stands at a turn: so many items that are data -/
structure TpT (H H' : Hp) (D : Addr) (ds : List PyData) : Prop where
  s : Same H H'
  ex : ∃ xs, H' D = some (.lst xs) ∧ TpAll H' xs ds
theorem TpT.new (hD : H D = none) : TpT H (upd H D (.lst [])) D [] := ⟨same_new hD, [], upd_same, .nil⟩
/-- an item more -/
theorem TpT.put {H1 H2 : Hp} {y : V} {d : PyData} {ds : List PyData} (hD : H D = none) (p : TpT H H1 D ds) (s : Same H1 H2) (small : ds.length < sizeLine) (hy : Tp H2 y d) :
    ∃ acc, H2 D = some (.lst acc) ∧ acc.length < sizeLine ∧ TpT H (upd H2 D (.lst (acc ++ [y]))) D (ds ++ [d]) := by
  obtain ⟨xs, e, r⟩ := p.ex
  have e2 := s _ _ e
  refine ⟨xs, e2, by rw [r.len]; exact small, same_mut (p.s.trans s) hD, _, upd_same, ?_⟩
  exact ((r.kt (KT.same s)).snoc hy).kt (KT.lst e2)
end

/-! ### how parts are shown -/
mutual
inductive Lf : PyData → Prop
  | int (i : Int) (h : i.natAbs < 10 ^ 13) : Lf (.int i)
  | str (x : Str) (h : (x.cps.toList.all fun c => decide (c < 16 ^ 8)) = true) : Lf (.str x)
  | tup {ds : List PyData} : LfAll ds → Lf (.tuple ds)
inductive LfAll : List PyData → Prop
  | nil : LfAll []
  | cons {d : PyData} {ds : List PyData} : Lf d → LfAll ds → LfAll (d :: ds)
end
theorem lf_one : Lf (.int 1) := .int 1 (by decide)
mutual
theorem Lf.shows : ∀ {d : PyData}, Lf d → d.showable = true ∧ d.hasDict = false ∧ PyData.leavesShort 14 d = true
  | _, .int i h => by
    have lg : i.natAbs.log2 < 44 := PySem.Flt.log2_lt_of (by decide) (Nat.lt_trans h (by decide))
    refine ⟨?_, by rw [PyData.hasDict], ?_⟩
    · rw [PyData.showable]
      exact decide_eq_true (by omega)
    · rw [PyData.leavesShort]
      refine decide_eq_true ?_
      show (Str.ofString (toString i)).length ≤ 14
      rw [PySem.ofString_length]
      exact int_text_length_le10 (k := 13) (by decide) h
  | _, .str x h => ⟨by rw [PyData.showable], by rw [PyData.hasDict], by rw [PyData.leavesShort]; exact h⟩
  | _, .tup r => by
    obtain ⟨a, b, c⟩ := LfAll.shows r
    exact ⟨by rw [PyData.showable]; exact a, by rw [PyData.hasDict]; exact b, by rw [PyData.leavesShort]; exact c⟩
theorem LfAll.shows : ∀ {ds : List PyData}, LfAll ds → PyData.showableAll ds = true ∧ PyData.hasDictAll ds = false ∧ PyData.leavesShortAll 14 ds = true
  | _, .nil => ⟨rfl, rfl, rfl⟩
  | _, .cons h r => by
    obtain ⟨a, b, c⟩ := Lf.shows h
    obtain ⟨a2, b2, c2⟩ := LfAll.shows r
    exact ⟨by rw [PyData.showableAll, a, a2]; rfl, by rw [PyData.hasDictAll, b, b2]; rfl, by rw [PyData.leavesShortAll, c, c2]; rfl⟩
end
theorem Lf.showy {d : PyData} (h : Lf d) (dp : d.depth ≤ 60) (wt : d.weight ≤ 100000) : Showy d := by
  obtain ⟨a, b, c⟩ := h.shows
  refine ⟨a, b, dp, ?_⟩
  have z := PyData.shown_le 14 (by decide) d c
  have e : sizeLine = 16777216 := sizeLine_eq
  omega
theorem lf_rep {d : PyData} (h : Lf d) : ∀ n, LfAll (List.replicate n d)
  | 0 => .nil
  | n + 1 => .cons h (lf_rep h n)
theorem lf_map {α : Type} {f : α → PyData} : ∀ {l : List α}, (∀ x ∈ l, Lf (f x)) → LfAll (l.map f)
  | [], _ => .nil
  | x :: r, h => .cons (h x List.mem_cons_self) (lf_map fun y hy => h y (List.mem_cons_of_mem _ hy))
theorem dep_map {α : Type} {f : α → PyData} {m : Nat} : ∀ {l : List α}, (∀ x ∈ l, (f x).depth ≤ m) → PyData.depthAll (l.map f) ≤ m
  | [], _ => Nat.zero_le _
  | x :: r, h => by
    rw [List.map_cons, PyData.depthAll]
    exact Nat.max_le.mpr ⟨h x List.mem_cons_self, dep_map fun y hy => h y (List.mem_cons_of_mem _ hy)⟩
theorem wt_map {α : Type} {f : α → PyData} {m : Nat} : ∀ {l : List α}, (∀ x ∈ l, (f x).weight ≤ m) → PyData.weightAll (l.map f) ≤ (m + 1) * l.length
  | [], _ => Nat.zero_le _
  | x :: r, h => by
    have a := h x List.mem_cons_self
    have b := wt_map (l := r) fun y hy => h y (List.mem_cons_of_mem _ hy)
    rw [List.map_cons, PyData.weightAll, List.length_cons, Nat.mul_succ]
    omega
theorem rep_map {d : PyData} (n : Nat) : List.replicate n d = (List.range n).map fun _ => d := by
  rw [List.map_const', List.length_range]
theorem wt_one : (PyData.int 1).weight = 1 := by rfl
theorem dep_one : (PyData.int 1).depth = 0 := by rfl
/-- repr, where nothing is being shown -/
structure RRepr (K : PySem.W.Frag) (xs : List V) (H : Hp) (Q : VK) : Prop where
  h : (xs = [.non] ∧ Q (.str "None") H) ∨ (∃ i, xs = [.int i] ∧ i.natAbs.log2 < 1920 ∧ Q (.str (toString i)) H) ∨ ∃ a d, xs = [.ref a] ∧ Dp K H (.ref a) d ∧ Showy d ∧ Q (.str d.shown) H
theorem call_reprW {X : Cx} (hgd : X.A.guards = some []) (hu : X.A.units + 64 < cLine) : CallR X (.builtin "repr") (RRepr X.K) := fun pins s σ H xs us Q I r h => call_reprV hgd hu pins s σ H xs us Q I r h.h
/-- a tuple's repr -/
theorem tp_reprT {K : PySem.W.Frag} {H : Hp} {v : V} {ds : List PyData} {Q : VK} (t : Tp H v (.tuple ds)) (ok : Showy (.tuple ds)) (q : Q (.str (PyData.tuple ds).shown) H) : RRepr K [v] H Q := by
  cases t with
  | tup h r => exact ⟨.inr (.inr ⟨_, _, rfl, (Tp.tup h r).dp, ok, q⟩)⟩
theorem Lf.showy2 {d : PyData} (h : Lf d) (dp : d.depth ≤ 60) (wt : d.bulk ≤ 900000) : Showy d := by
  obtain ⟨a, b, c⟩ := h.shows
  refine ⟨a, b, dp, ?_⟩
  have z := PyData.shown_le_bulk 14 (by decide) d c
  have e : sizeLine = 16777216 := sizeLine_eq
  omega

/-! ### a tuple once; a list that a tuple is put behind -/
theorem tuple_mul1 (l : Addr) (items : Array Value) (n : Nat) (dd : Option Addr) (sl : Array (Option Value)) (u : Tok) :
    Meets (Builtin.«tuple.__mul__» ⟨[.ref l, .int 1 u], []⟩) (fun _ R s => s.heap.get? l = some { cls := .type "tuple", dict := dd, data := .seq items n, slots := sl } ∧ R (.ok (.ret (Value.ref l))) s) :=
  .of_wp fun prog w A R s h => by
    obtain ⟨hp, g, d, tk, os⟩ := s
    obtain ⟨hl, h⟩ := h
    have f1 := AutoSeq1.idx_int
    have c1 : (items.isEmpty || (1 : Int) == 1) = true := by
      rw [show ((1 : Int) == 1) = true from rfl, Bool.or_true]
    wp_walk using wpAny_loadPart' hl
    repeat (first
      | (refine wpAny_ite_true (decide_eq_true (by rw [c1])) ?_; wp_walk using wpAny_loadPart' hl)
      | (refine wpAny_ite_false (by decide) ?_; wp_walk using wpAny_loadPart' hl))
    exact ⟨_, rfl, h⟩
theorem list_extendT (l : Addr) (items : Array Value) (n : Nat) (b : Addr) (items2 : Array Value) (n2 : Nat) (dd : Option Addr) (sl : Array (Option Value)) (hs0 : ¬(!items.isEmpty && Builtin.List.listTooLong (items.size + items2.size)) = true) (hs1 : items.size ≤ sizeLine) (hs2 : items.size + items2.size ≤ sizeLine + 1) :
    Meets (Builtin.«list.extend» ⟨[.ref l, .ref b], []⟩) (fun _ R s => s.heap.get? l = some { cls := .type "list", dict := none, data := .seq items n, slots := #[] } ∧ s.heap.get? b = some { cls := .type "tuple", dict := dd, data := .seq items2 n2, slots := sl } ∧ R (.ok (.ret Value.none)) { s with heap := s.heap.update l (Obj.mapSeq fun x => x ++ items2), toks := s.toks }) :=
  .of_wp fun prog w A R s h => by
    obtain ⟨hp, g, d, tk, os⟩ := s
    obtain ⟨hl, hb, h⟩ := h
    have f1 := AutoSeq1.idx_int
    have f2 := AutoSeq1.sub_tuple_tuple
    have f3 := AutoSeq1.sub_list_list
    have f4 := AutoSeq1.sub_tuple_list
    have f5 := AutoSeq1.sub_list_tuple
    have hz' : (items ++ items2).size ≤ sizeLine + 1 := by rw [Array.size_append]; exact hs2
    wp_walk using (wpAny_updateSeq hl rfl (hz := hs1) (_hz' := hz')), wpAny_loadPart' hl, wpAny_loadPart' hb
    exact ⟨_, rfl, h⟩
section
variable {X : Cx}
def rExtendT (K : PySem.W.Frag) : V → List V → Hp → VK → Prop := fun x vs H Q => ∃ l b xs zs, x = .ref l ∧ vs = [.ref b] ∧ H l = some (.lst xs) ∧ SqT K H b zs ∧ xs.length + zs.length ≤ sizeLine ∧ Q .non (upd H l (.lst (xs ++ zs)))
theorem mt_extendT : MtM X "list.extend" (rExtendT X.K) := by
  intro pins s σ H x vs v us Q I rx rv h
  obtain ⟨l, b, xs, zs, rfl, rfl, hH, hB, hz, q⟩ := h
  cases rx
  obtain ⟨u, rfl, ru⟩ := rv.one
  cases ru
  obtain ⟨z, its, n, r, hl, e⟩ := I.lstM hH
  obtain ⟨its2, r2, ⟨⟨cls, dd, data, sl⟩, ho, hc, n2, hd⟩, hs⟩ := I.tuple hB
  simp only at hc hd
  subst hc hd
  have l2 : its2.length = zs.length := r2.length.symm
  have hsz : its.toArray.size + its2.toArray.size ≤ sizeLine := by rw [List.size_toArray, List.size_toArray]; omega
  have hlong : ¬ (!its.toArray.isEmpty && Builtin.List.listTooLong (its.toArray.size + its2.toArray.size)) = true := by
    have e : Builtin.List.listTooLong (its.toArray.size + its2.toArray.size) = false := by
      unfold Builtin.List.listTooLong
      exact decide_eq_false (by omega)
    rw [e, Bool.and_false]
    exact Bool.false_ne_true
  refine call_meets F.slot_list_extend ⟨_, e, rfl⟩ F.entry_list_extend (F.args_list_extend_2 _ _)
    (list_extendT l its.toArray n b its2.toArray n2 dd sl hlong (by rw [List.size_toArray]; omega) (by omega)) ⟨e, ho, ?_⟩
  refine ⟨.non, _, I.lset (its' := its ++ its2) hH e (by simp) (r.append r2) ?_, rfl, q⟩
  rw [List.length_append]
  omega
/-- t * k, once too -/
def rRepT1 (K : PySem.W.Frag) : R2 := fun x y H Q => (∃ l xs, x = .ref l ∧ y = .int 1 ∧ SqT K H l xs ∧ Q (.ref l) H) ∨ rRepT K x y H Q
theorem op_repT1 : OpR X (binaryOp .Mult) (rRepT1 X.K) := by
  intro pins s σ H x y v u Q I rx ry h
  rcases h with ⟨l, xs, rfl, rfl, hT, q⟩ | h
  · cases rx
    obtain ⟨t, rfl⟩ := ry
    obtain ⟨its, r, ⟨⟨cls, dd, data, sl⟩, ho, hc, n, hd⟩, hs⟩ := I.tuple hT
    simp only at hc hd
    subst hc hd
    exact wpAny_binaryOp_repeat_ref (T := "tuple") (U := "int") (by decide) ⟨_, ho, rfl⟩ (fun s' => typeIs_int s' 1 t) noFill_tuple_mul F.fills_int_mul F.slot_int_rmul repeat_tuple F.slot_int_index.lookup
      (call_meets F.slot_int_rmul (typeIs_int s 1 t) F.entry_int_rmul (F.args_int_rmul_2 _ _) (int_rmul_tuple 1 t l its.toArray n dd sl)
        ⟨ho, rfl, ⟨_, ho, rfl⟩, call_meets F.slot_tuple_mul ⟨_, ho, rfl⟩ F.entry_tuple_mul (F.args_tuple_mul_2 _ _) (tuple_mul1 l its.toArray n dd sl t) ⟨ho, ⟨.ref l, H, I, rfl, q⟩⟩⟩)
  · exact op_repT pins s σ H x y v u Q I rx ry h
theorem op_repT1K {K : PySem.W.Frag} (h : X.K = K) : OpR X (binaryOp .Mult) (rRepT1 K) := h ▸ op_repT1
end

/-! ### things -/
inductive Plain (H : Hp) : V → Prop where
  | non : Plain H .non
  | bl (b : Bool) : Plain H (.bl b)
  | int (i : Int) : Plain H (.int i)
  | str (s : Str) : Plain H (.str s)
  | lst {a : Addr} {xs : List V} (h : H a = some (.lst xs)) : Plain H (.ref a)
  | tup {a : Addr} {xs : List V} (h : H a = some (.tup xs)) : Plain H (.ref a)
def isIntV : V → Bool
  | .int _ => true
  | _ => false
def isNumV : V → Bool
  | .int _ => true
  | .bl _ => true
  | _ => false
def isBlV : V → Bool
  | .bl _ => true
  | _ => false
theorem whole_V (x : V) : isIntV x = (isNumV x && !isBlV x) := by cases x <;> rfl
theorem plain_ty {K : PySem.W.Frag} {H : Hp} {x : V} (h : Plain H x) : ∃ s, TyX K H x (.type s) ∧ PySem.W.kitOne K (.type s) (.type "int") = some (isNumV x) ∧ PySem.W.kitOne K (.type s) (.type "bool") = some (isBlV x) := by
  cases h with
  | non => exact ⟨_, .base .non, kit_ty (by decide +kernel), kit_ty (by decide +kernel)⟩
  | bl b => exact ⟨_, .base (.bl b), kit_ty (by show kitB "bool" "int" = some true; decide +kernel), kit_ty (by show kitB "bool" "bool" = some true; decide +kernel)⟩
  | int i => exact ⟨_, .base (.int i), kit_ty (by show kitB "int" "int" = some true; decide +kernel), kit_ty (by show kitB "int" "bool" = some false; decide +kernel)⟩
  | str s => exact ⟨_, .base (.str s), kit_ty (by show kitB "str" "int" = some false; decide +kernel), kit_ty (by show kitB "str" "bool" = some false; decide +kernel)⟩
  | lst e => exact ⟨_, .base (.lst e), kit_ty (by show kitB "list" "int" = some false; decide +kernel), kit_ty (by show kitB "list" "bool" = some false; decide +kernel)⟩
  | tup e => exact ⟨_, .base (.tup e), kit_ty (by show kitB "tuple" "int" = some false; decide +kernel), kit_ty (by show kitB "tuple" "bool" = some false; decide +kernel)⟩
def absI (n : Int) : Int := if n < 0 then -n else n
def markV : V → Bool
  | .int i => decide (1 ≤ absI i) && decide (absI i ≤ 1000000000000)
  | _ => false
theorem int_of {x : V} (h : isIntV x = true) : ∃ i, x = .int i := by
  cases x <;> first | exact ⟨_, rfl⟩ | exact Bool.noConfusion h
theorem mark_no {x : V} (h : isIntV x = false) : markV x = false := by
  cases x <;> first | rfl | exact Bool.noConfusion h

def spWhole : Sp := fun vs H Q _ => ∃ x, vs = [x] ∧ Plain H x ∧ Q (.bl (isIntV x)) H
section
variable {P : Program} {w : World} {K : PySem.W.Frag} {mg : Str → Option Value} {base : Heap}
theorem has_whole (T : Top K mg) : Has P w K mg base 1 "is_whole" ["thing"] spWhole := by
  refine has_of T.d_is_whole sc_is_whole bd_is_whole (fun vs H Q E h => ?_) (fun f cdv A outer s H vs Q E hr h => ?_)
  · obtain ⟨x, rfl, _⟩ := h
    rfl
  · have hu := hu_of hr
    have nd := sc_is_whole.nd
    obtain ⟨x, rfl, hx, k⟩ := h
    refine ⟨_, (pss_one (ps_ret (pe_and (pe_callB call_isi (by rfl) T.b_isinstance (by decide +kernel) (pa_cons (pv 0) (pa_cons (pe_bltn (v := .ty "int") (u := .type "int") (by rfl) T.b_int (by decide +kernel) (by rfl)) pa_nil))) (pe_one (pe_not (pe_callB call_isi (by rfl) T.b_isinstance (by decide +kernel) (pa_cons (pv 0) (pa_cons (pe_bltn (v := .ty "bool") (u := .type "bool") (by rfl) T.b_bool (by decide +kernel) (by rfl)) pa_nil)))))))), ?_⟩
    obtain ⟨s, ty, e1, e2⟩ := plain_ty (K := K) hx
    refine ⟨_, rfl, x, .ty "int", _, _, _, rfl, .ty _, ty, e1, _, rfl, ?_⟩
    rw [whole_V] at k
    cases hb : isNumV x with
    | false =>
      rw [hb] at k
      exact iteF k
    | true =>
      rw [hb] at k
      refine iteT ⟨_, rfl, x, .ty "bool", _, _, _, rfl, .ty _, ty, e2, _, rfl, ?_⟩
      exact k
end

/-! ### pieces of lists and tuples -/
theorem cut_ij (xs : List V) (i j : Nat) : cutV xs (some (i : Int)) (some (j : Int)) = (xs.drop i).take (j - i) := by
  unfold cutV
  rw [HT.sIx_nat, HT.sIx_nat]
  by_cases h : i ≤ xs.length
  · rw [Nat.min_eq_left h]
    by_cases h2 : j ≤ xs.length
    · rw [Nat.min_eq_left h2]
    · rw [Nat.min_eq_right (by omega), List.take_of_length_le (by rw [List.length_drop]; omega), List.take_of_length_le (by rw [List.length_drop]; omega)]
  · rw [List.drop_eq_nil_of_le (by omega : xs.length ≤ min i xs.length), List.drop_eq_nil_of_le (by omega : xs.length ≤ i), List.take_nil, List.take_nil]
theorem cut_0j (xs : List V) (j : Nat) : cutV xs none (some (j : Int)) = xs.take j := by
  unfold cutV
  rw [HT.sIx_none, HT.sIx_nat, List.drop_zero, Nat.sub_zero]
  by_cases h2 : j ≤ xs.length
  · rw [Nat.min_eq_left h2]
  · rw [Nat.min_eq_right (by omega), List.take_of_length_le (Nat.le_refl _), List.take_of_length_le (by omega)]
theorem cut_iE (xs : List V) (i : Nat) : cutV xs (some (i : Int)) none = xs.drop i := by
  unfold cutV
  rw [HT.sIx_none, HT.sIx_nat]
  by_cases h : i ≤ xs.length
  · rw [Nat.min_eq_left h, List.take_of_length_le (by rw [List.length_drop]; omega)]
  · rw [List.drop_eq_nil_of_le (by omega : xs.length ≤ min i xs.length), List.drop_eq_nil_of_le (by omega : xs.length ≤ i), List.take_nil]
section
variable {K : PySem.W.Frag} {H : Hp} {a : Addr} {xs : List V} {Q : VK}
theorem piece_take {m : Int} {n : Nat} (e : m = (n : Int)) (ha : H a = some (.tup xs)) (k : ∀ H' r, Same H H' → H' r = some (.tup (xs.take n)) → Q (.ref r) H') : rSlA K (.ref a) none (some m) H Q := by
  subst e
  refine ⟨a, xs, rfl, SqT.of ha, fun h => ?_, fun _ p hp => ?_⟩
  · rw [HT.sIx_nat] at h
    refine k H a (Same.refl _) ?_
    rw [List.take_of_length_le (by omega)]
    exact ha
  · rw [cut_0j]
    exact k _ p (same_new hp) upd_same
theorem piece_mid {m l : Int} {i j : Nat} (e1 : m = (i : Int)) (e2 : l = (j : Int)) (ha : H a = some (.tup xs)) (k : ∀ H' r, Same H H' → H' r = some (.tup ((xs.drop i).take (j - i))) → Q (.ref r) H') : rSlA K (.ref a) (some m) (some l) H Q := by
  subst e1 e2
  refine ⟨a, xs, rfl, SqT.of ha, fun h => ?_, fun _ p hp => ?_⟩
  · rw [HT.sIx_nat, HT.sIx_nat] at h
    refine k H a (Same.refl _) ?_
    have e : (xs.drop i).take (j - i) = xs := by
      rw [← cut_ij]
      unfold cutV
      rw [HT.sIx_nat, HT.sIx_nat, h.1, h.2, Nat.sub_zero, List.drop_zero, List.take_length]
    rw [e]
    exact ha
  · rw [cut_ij]
    exact k _ p (same_new hp) upd_same
theorem piece_drop {m : Int} {i : Nat} (e1 : m = (i : Int)) (ha : H a = some (.tup xs)) (k : ∀ H' r, Same H H' → H' r = some (.tup (xs.drop i)) → Q (.ref r) H') : rSlA K (.ref a) (some m) none H Q := by
  subst e1
  refine ⟨a, xs, rfl, SqT.of ha, fun h => ?_, fun _ p hp => ?_⟩
  · rw [HT.sIx_nat, HT.sIx_none] at h
    refine k H a (Same.refl _) ?_
    have e : xs.drop i = xs := by
      rw [← cut_iE]
      unfold cutV
      rw [HT.sIx_nat, HT.sIx_none, h.1, Nat.sub_zero, List.drop_zero, List.take_length]
    rw [e]
    exact ha
  · rw [cut_iE]
    exact k _ p (same_new hp) upd_same
end
theorem piece_dropC {K : PySem.W.Frag} {σ : L2.St} {H : Hp} {a : Addr} {xs : List V} {Q : VK} {m : Int} {i : Nat} (e1 : m = (i : Int)) (ha : H a = some (.tup xs)) (k : ∀ H' r, Same H H' → H' r = some (.tup (xs.drop i)) → Q (.ref r) H') :
    tNoPart σ H fun u H3 => rSlA K (.ref a) (some m) u H3 Q := piece_drop e1 ha k
theorem cut_one1 (l : List Int) (a : Nat) : cutV (l.map V.int) (some (a : Int)) (some ((a : Int) + 1)) = ((l.drop a).take 1).map V.int := by
  rw [show (a : Int) + 1 = ((a + 1 : Nat) : Int) from rfl, cut_ij, show a + 1 - a = 1 by omega, List.map_take, List.map_drop]
theorem flat_l (l : List Int) : (l.map V.int).all flatV = true := by
  rw [List.all_eq_true]
  intro v hv
  obtain ⟨i, _, rfl⟩ := List.mem_map.mp hv
  rfl
theorem inV_l (x : Int) (l : List Int) : inV (.int x) (l.map V.int) = decide (x ∈ l) := by
  unfold inV
  rw [List.any_map]
  by_cases h : x ∈ l
  · rw [decide_eq_true h, List.any_eq_true]
    exact ⟨x, h, decide_eq_true rfl⟩
  · rw [decide_eq_false h, List.any_eq_false]
    intro y hy z
    have z : decide (y = x) = true := z
    exact h (of_decide_eq_true z ▸ hy)
theorem iteFq {p : Prop} [Decidable p] {A B : Prop} (h : ¬ p) (b : B) : if decide p = true then A else B := by
  rw [if_neg fun z => h (of_decide_eq_true z)]
  exact b
theorem none_left {xs : List V} : (xs.filter fun _ => false).map (fun x => x) = [] := by
  rw [List.filter_eq_nil_iff.mpr fun _ _ => Bool.false_ne_true]
  rfl

/-! ### tuples put behind one another, the one or the other of which may be empty -/
section
variable {K : PySem.W.Frag} {H : Hp} {a b : Addr} {xs ys : List V} {Q : VK}
theorem tup_catA (ha : H a = some (.tup xs)) (hb : H b = some (.tup ys)) (small : xs.length + ys.length ≤ sizeLine) (k : ∀ H' r, Same H H' → H' r = some (.tup (xs ++ ys)) → Q (.ref r) H') : rCatA K (.ref a) (.ref b) H Q := by
  refine ⟨a, b, xs, ys, rfl, rfl, SqT.of ha, SqT.of hb, small, fun e => ?_, fun _ e => ?_, fun _ _ p hp => k _ p (same_new hp) upd_same⟩
  · subst e
    exact k H b (Same.refl _) hb
  · subst e
    refine k H a (Same.refl _) ?_
    rw [List.append_nil]
    exact ha
end
section
variable {X : Cx}
theorem sl_tupAK {K : PySem.W.Frag} (h : X.K = K) : SlR X (rSlA K) := h ▸ sl_tupA
theorem op_catAK {K : PySem.W.Frag} (h : X.K = K) : OpR X (binaryOp .Add) (rCatA K) := h ▸ op_catA
end

/-! ### a reading told more shortly -/
theorem pt_wk {X : Cx} {e : Expr} {t : TT} (u : TT) (h : PT X e t) (hw : ∀ σ H R, u σ H R → t σ H R) : PT X e u := ⟨fun pins s σ H Q I hq => h.run pins s σ H Q I (hw σ H Q hq)⟩
theorem ps_or2 {X : Cx} {st : Stmt} {t u : TS} (h : PS X st t) (h2 : PS X st u) : PS X st (fun D σ H => t D σ H ∨ u D σ H) := ⟨fun pins s σ H D I rd => rd.elim (fun z => h.run pins s σ H D I z) fun z => h2.run pins s σ H D I z⟩
/-- a or b, a a dict, frozen or not -/
def tOrD (ta tb : TE) : TE := fun σ H Q => ta σ H fun x H1 => ∃ (a : Addr) (kvs : List (Key × V)), x = .ref a ∧ Rd H1 a (.dK kvs) ∧ if kvs.isEmpty = true then tb σ H1 Q else Q x H1
theorem pe_orD {X : Cx} {a b : Expr} {ta tb : TE} {rest : List Expr} {pos : Pos} (ha : PE X a ta) (hb : PE X (.BoolOp .Or (b :: rest) pos) tb) : PE X (.BoolOp .Or (a :: b :: rest) pos) (tOrD ta tb) := by
  refine ⟨fun pins s σ H Q I h => BoolOp_or (thn (ha.run pins s σ H _ I h) fun v s1 z => ?_)⟩
  obtain ⟨x, H1, I1, rx, d, kvs, rfl, rd, q⟩ := z
  cases rx
  refine d_truth I1 rd fun s' I' => ?_
  cases e : kvs.isEmpty with
  | true =>
    rw [e, if_pos rfl] at q
    rw [Bool.not_true, if_neg Bool.false_ne_true]
    exact hb.run pins s' σ H1 Q I' q
  | false =>
    rw [e, if_neg Bool.false_ne_true] at q
    rw [Bool.not_false, if_pos rfl]
    exact ⟨.ref d, H1, I', rfl, q⟩

/-! ### f-strings -/
def fmtN (Q : VK) : VK := fun x H1 => (∃ y : Str, x = .str y ∧ y.length ≤ sizeLine ∧ Q (.str y) H1) ∨ (∃ i : Int, x = .int i ∧ i.natAbs.log2 < 1920 ∧ Q (.str (toString i)) H1) ∨ (x = .non ∧ Q (.str "None") H1)
def tFmtN (te : TE) : TE := fun σ H Q => te σ H (fmtN Q)
theorem pe_fmtN {X : Cx} {e : Expr} {te : TE} {pos : Pos} (he : PE X e te) : PE X (.FormattedValue e (-1) none pos) (tFmtN te) := by
  refine ⟨fun pins s σ H Q I h => ?_⟩
  refine wpAny_FormattedValue_plain (thn (he.run pins s σ H _ I h) fun v s1 z => ?_)
  obtain ⟨x, H1, I1, rx, q⟩ := z
  rcases q with ⟨y, rfl, hz, q⟩ | ⟨i, rfl, hz, q⟩ | ⟨rfl, q⟩
  · obtain ⟨t, rfl⟩ := rx
    exact wpAny_formatField_str ⟨.str y, H1, I1, ⟨t, rfl⟩, q⟩ ⟨.str y, H1, I1.tok _, ⟨_, rfl⟩, q⟩ hz
  · obtain ⟨t, rfl⟩ := rx
    exact wpAny_formatField_int hz ⟨.str (toString i), H1, I1.tok _, ⟨_, rfl⟩, q⟩
  · cases rx
    exact wpAny_formatField_none ⟨.str "None", H1, I1.tok _, ⟨_, rfl⟩, q⟩

/-! ### texts: constants, join within a comprehension -/
theorem pe_constS {X : Cx} {x : Str} {z : Str} {pos : Pos} (hm : ∃ t, X.mg x = some (.str z t)) (hg : Gl X x) (hd : (x == ("__debug__" : Str)) = false := by decide) : PE X (.Name x pos) (tC (.str z)) := by
  obtain ⟨t, hm⟩ := hm
  exact pe_glob hg hm ⟨t, rfl⟩ hd
def rJoin (K : PySem.W.Frag) : V → List V → Hp → VK → Prop := fun x xs H Q => ∃ a p, ∃ ys : List Str, x = .str a ∧ xs = [.ref p] ∧ (SqL K H p (ys.map V.str) ∨ SqT K H p (ys.map V.str)) ∧ (ys.map (·.length)).sum + ys.length * a.length ≤ 16777216 ∧ Q (.str (Txt.join a ys)) H
theorem pe_joinK {X : Cx} {K : PySem.W.Frag} {o e : Expr} {to te : TE} {apos pos : Pos} (hK : X.K = K) (ho : PE X o to) (he : PE X e te) (hs : starEach [e] X.env = [(false, eval e X.env)] := by rfl) (hbase : attributeBase o "join" X.env (eval o X.env) = eval o X.env := by rfl) (hline : (apos.endLine == pos.line) = true := by rfl) :
    PE X (.Call (.Attribute o "join" apos) [e] [] pos) (tM1 (rJoin K) to te) := hK ▸ pe_join ho he hs hbase hline
theorem pt_truthK {X : Cx} {K : PySem.W.Frag} {a : Expr} {ta : TE} (hK : X.K = K) (ha : PE X a ta) (he : ∀ whole, isTrue a X.env whole = (do let v ← whole; standAt a.pos; holding [v] (truthy v))) :
    PT X a (fun σ H Q => ta σ H fun x H' => ∃ k, TruV K x H' k ∧ Q k H') := hK ▸ pt_truth ha he
theorem pe_orTK {X : Cx} {K : PySem.W.Frag} {a b : Expr} {ta tb : TE} {rest : List Expr} {pos : Pos} (hK : X.K = K) (ha : PE X a ta) (hb : PE X (.BoolOp .Or (b :: rest) pos) tb) : PE X (.BoolOp .Or (a :: b :: rest) pos) (tOrT K ta tb) := hK ▸ pe_orT ha hb
/-! ### a number's text, read back -/
abbrev numS (i : Int) : Str := Str.ofString (toString i)
theorem toString_neg {n : Nat} (h : 0 < n) : toString (-(n : Int)) = "-" ++ toString n := by
  cases n with
  | zero => omega
  | succ m => rfl
theorem tl_numS_nat (n : Nat) : TL.tl (numS (n : Int)) = TL.numL n := TL.tl_num n
theorem tl_numS_neg {n : Nat} (h : 0 < n) : TL.tl (numS (-(n : Int))) = 45 :: TL.numL n := by
  show TL.tl (Str.ofString (toString (-(n : Int)))) = _
  rw [toString_neg h, TL.tl_ofString, String.toList_append, List.map_append]
  have e := TL.tl_num n
  rw [TL.tl_ofString] at e
  have e2 : (toString ((n : Nat) : Int)) = toString n := rfl
  rw [e2] at e
  rw [e]
  rfl
theorem num_cases (i : Int) : (∃ n : Nat, i = n ∧ TL.tl (numS i) = TL.numL n) ∨ ∃ n : Nat, 0 < n ∧ i = -(n : Int) ∧ TL.tl (numS i) = 45 :: TL.numL n := by
  by_cases h : 0 ≤ i
  · obtain ⟨n, rfl⟩ := Int.eq_ofNat_of_zero_le h
    exact .inl ⟨n, rfl, tl_numS_nat n⟩
  · refine .inr ⟨i.natAbs, by omega, by omega, ?_⟩
    have e : i = -(i.natAbs : Int) := by omega
    rw [e, tl_numS_neg (by omega)]
    rw [show (-(i.natAbs : Int)).natAbs = i.natAbs by omega]
theorem num_free {i : Int} {s : Nat} (h : (s < 48 ∨ 57 < s) ∧ s ≠ 45) : s ∉ TL.tl (numS i) := by
  rcases num_cases i with ⟨n, rfl, e⟩ | ⟨n, _, rfl, e⟩ <;> rw [e]
  · exact TL.numL_free h.1
  · intro z
    rcases List.mem_cons.mp z with z | z
    · exact h.2 z
    · exact TL.numL_free h.1 z
theorem num_len {i : Int} (h : i.natAbs ≤ 10 ^ 12) : (numS i).length ≤ 14 := by
  have big : i.natAbs < 10 ^ 13 := Nat.lt_of_le_of_lt h (by decide)
  rw [TL.len_tl]
  rcases num_cases i with ⟨n, rfl, e⟩ | ⟨n, _, rfl, e⟩ <;> rw [e]
  · have := TL.numL_len (k := 13) (by decide) (show n < 10 ^ 13 by omega)
    omega
  · have := TL.numL_len (k := 13) (by decide) (show n < 10 ^ 13 by omega)
    rw [List.length_cons]
    omega
theorem num_ne (i : Int) : TL.tl (numS i) ≠ [] := by
  rcases num_cases i with ⟨n, _, e⟩ | ⟨n, _, _, e⟩ <;> rw [e]
  · exact TL.numL_ne n
  · simp

/-! ### tokens: what hands one out, what wants one (str.replace of written texts) -/
section
variable {X : Cx}
def PEU (X : Cx) (e : Expr) (t : TE) : Prop := ∀ (pins : List (Addr × Obj)) (s : Shared) (σ : L2.St) (H : Hp) (Q : VK), Inv X pins σ H s → t σ H Q → wpAny (model X.prog X.w) X.A (eval e X.env) (fun v s' => 1 ≤ s'.toks ∧ EP X pins σ Q v s') X.xe s
def PSsU (X : Cx) (st : List Stmt) (t : TS) : Prop := ∀ (pins : List (Addr × Obj)) (s : Shared) (σ : L2.St) (H : Hp) (D : Ends), Inv X pins σ H s → t D σ H → wpAny (model X.prog X.w) X.A (execs st X.env) (fun f s' => (∀ u, f = .ret u → 1 ≤ s'.toks) ∧ SP X pins D f s') X.xe s
def PTT (X : Cx) (e : Expr) (t : TT) : Prop := ∀ (pins : List (Addr × Obj)) (s : Shared) (σ : L2.St) (H : Hp) (Q : Bool → Hp → Prop), 1 ≤ s.toks → Inv X pins σ H s → t σ H Q → wpAny (model X.prog X.w) X.A (isTrue e X.env (eval e X.env)) (TP X pins σ Q) X.xe s
def PWT (X : Cx) (e : Expr) (t : TT) : Prop := ∀ (wh : Sem Value) (pins : List (Addr × Obj)) (s : Shared) (σ : L2.St) (H : Hp) (Q : Bool → Hp → Prop), 1 ≤ s.toks → Inv X pins σ H s → t σ H Q → wpAny (model X.prog X.w) X.A (isTrue e X.env wh) (TP X pins σ Q) X.xe s
variable {e f a b c : Expr} {es : List Expr} {te tf : TE} {ta tb tc : TT} {rest : List Stmt} {t u : TS} {pos cpos apos : Pos}
/-- a written text hands one out -/
theorem peu_str {z : Str} {j : Nat} : PEU X (.Constant (.str z) j pos) (tC (.str z)) := fun pins s σ H Q I h => Calls.Constant_str ⟨by show 1 ≤ s.toks + 1; omega, .str z, H, I.tok _, ⟨s.toks, rfl⟩, h⟩
theorem peu_op {op : Operator} {r : R2} (ho : OpR X (binaryOp op) r) (ha : PE X e te) (hb : PEU X f tf) : PEU X (.BinOp e op f pos) (tOp r te tf) := by
  intro pins s σ H Q I h
  refine wpAny_BinOp (thn (ha.run pins s σ H _ I h) fun v s1 ⟨x, H1, I1, r1, q1⟩ => thn (hb pins s1 σ H1 _ I1 q1) fun u s2 ⟨hk, y, H2, I2, r2, q2⟩ => ?_)
  refine wpAny_mono (PySem.wpAny_toks_of hk (ho pins s2 σ H2 x y v u Q I2 r1 r2 q2)) (fun w s3 q => q) fun _ _ z => z.2
theorem psu_ret (he : PEU X e te) : PSsU X [.Return (some e) pos] (tRet te) := by
  intro pins s σ H D I h
  refine wpAny_execs_cons (wpAny_Return_some (thn (he pins s σ H _ I h) fun v s1 q => ?_))
  obtain ⟨hk, x, H1, I1, r1, q1⟩ := q
  exact ⟨fun _ _ => hk, x, σ, H1, I1, r1, q1⟩
theorem psu_if {st0 : Stmt} (hc : PT X c tc) (ha : PSsU X [st0] t) (hr : PSsU X rest u) : PSsU X (.If c [st0] [] pos :: rest) (tSeq (tIfS tc t tNext) u) := by
  intro pins s σ H D I h
  refine wpAny_execs_cons (wpAny_If (thn (hc.run pins s σ H _ I h) fun d s1 ⟨H1, I1, q1⟩ => ?_))
  cases d with
  | true =>
    refine thn (ha pins s1 σ H1 _ I1 q1) fun f s2 q => ?_
    obtain ⟨hk, q⟩ := q
    cases f with
    | next =>
      obtain ⟨σ', H', I', q⟩ := q
      exact hr pins s2 σ' H' D I' q
    | ret v => exact ⟨hk, q⟩
    | brk => exact ⟨hk, q⟩
    | cont => exact ⟨hk, q⟩
  | false => exact wpAny_execs_nil (hr pins s1 σ H1 D I1 q1)
/-- a def that hands one out -/
structure FnU (P : Program) (w : World) (K : PySem.W.Frag) (mg : Str → Option Value) (base : Heap) (k : Nat) (f : Addr) (fd : FuncData) (ps : List Str) (sp : Sp) : Prop where
  len : ∀ vs H Q E, sp vs H Q E → vs.length = ps.length
  run : ∀ (A : Around) (outer : List Env) (s : Shared) (H : Hp) (args : Args) (us : List Value) (vs : List V) (Q : VK) (E : XK), Room k A → Env0 P w K mg base A outer s H → BindsTo s fd args (ps.zip us) → Vals vs us → sp vs H Q E →
    codeAny (model P w) A (.call (.ref f) args) (fun r s' => (∀ v, r = .ok v → 1 ≤ s'.toks) ∧ CR CX0 outer P w H s Q E r s') s
/-- a def that wants one -/
structure FnT (P : Program) (w : World) (K : PySem.W.Frag) (mg : Str → Option Value) (base : Heap) (k : Nat) (f : Addr) (fd : FuncData) (ps : List Str) (sp : Sp) : Prop where
  len : ∀ vs H Q E, sp vs H Q E → vs.length = ps.length
  run : ∀ (A : Around) (outer : List Env) (s : Shared) (H : Hp) (args : Args) (us : List Value) (vs : List V) (Q : VK) (E : XK), 1 ≤ s.toks → Room k A → Env0 P w K mg base A outer s H → BindsTo s fd args (ps.zip us) → Vals vs us → sp vs H Q E →
    codeAny (model P w) A (.call (.ref f) args) (CR CX0 outer P w H s Q E) s
structure HasU (P : Program) (w : World) (K : PySem.W.Frag) (mg : Str → Option Value) (base : Heap) (k : Nat) (x : Str) (ps : List Str) (sp : Sp) : Prop where
  ex : ∃ f fd, mg x = some (.ref f) ∧ PySem.W.keepIn K (.ref f) = true ∧ Binds K fd ps [] ∧ FnU P w K mg base k f fd ps sp
structure HasT (P : Program) (w : World) (K : PySem.W.Frag) (mg : Str → Option Value) (base : Heap) (k : Nat) (x : Str) (ps : List Str) (sp : Sp) : Prop where
  ex : ∃ f fd, mg x = some (.ref f) ∧ PySem.W.keepIn K (.ref f) = true ∧ Binds K fd ps [] ∧ FnT P w K mg base k f fd ps sp
end
section
variable {P : Program} {w : World} {K : PySem.W.Frag} {mg : Str → Option Value} {base : Heap}
theorem _root_.L2.PSsT.nox {X : Cx} {st : List Stmt} {t : TS} (h : PSsT X.nox st t) : PSsT X st t := fun pins s σ H D tk I hw => wpAny_mono (h pins s σ H D tk (I.wish _) hw) (fun _ _ q => q.unwish) fun _ _ z => False.elim z
theorem has_ofU {x : Str} {st : Stmt} {N ps : List Str} {k : Nat} {sp : Sp} (A : At K mg x st) (S : FnScope N ps (defScope st)) (B : BindsAll x st ps) (len : ∀ vs H Q E, sp vs H Q E → vs.length = ps.length)
    (hbody : ∀ (f : Addr) (cdv : Value) (A : Around) (outer : List Env) (s : Shared) (H : Hp) (vs : List V) (Q : VK) (E : XK), Room k (A.deeper (envOfC x (defScope st) s.heap.objs.size f cdv)) → sp vs H Q E →
      ∃ t, PSsU (cxOf CX0 P w K mg base N x (defScope st) f cdv A outer s H E) (defBody st) t ∧ t { nx := fun _ _ => False, rt := Q } (start N vs) H) : HasU P w K mg base (k + 1) x ps sp := by
  obtain ⟨f, fd, hm, F⟩ := A.ex
  refine ⟨f, fd, hm, F.kp, F.binds B, len, fun A outer s H args us vs Q E hr e0 hb r hsp => ?_⟩
  obtain ⟨oc, od, kV, doc, pm, an, cdv, ct, osl, rfl, lk, hcd⟩ := F.ex
  have hl := len _ _ _ _ hsp
  have KX : K.In s.heap := e0.mod.kin.keeps fun b o e => (e0.bs b o e).1
  have lim : s.heap.NoLimit := e0.mod.nolimit.keeps fun b o e => (e0.bs b o e).1
  have hkind : ∀ y ∈ ps.zip us, (defScope st).names.lookup y.1 = some .local ∨ ((defScope st).names.lookup y.1 = some .cell ∧ ((cellsFrom (s.heap.objs.size + 1) (defScope st).names []).lookup y.1).isSome = true) := fun ⟨n, v⟩ hy => by
    rcases S.par n (List.of_mem_zip hy).1 with q | q
    · exact .inl q
    · exact .inr ⟨q, PySem.W.cellsFrom_some _ _ _ (.inl q)⟩
  refine codeAny_call_function hr.depth (KX _ _ lk) rfl S.co S.gen rfl (PySem.W.codeRec_of KX hcd) (hb _ _ _ _ ?_)
  refine wpAny_newFunctionEnv_cells S.kind hkind fun env he s1 x => ?_
  subst he
  refine ⟨lim.keeps x.toInCall.keep, codeAny_func ?_⟩
  obtain ⟨t, ht, hq⟩ := hbody f cdv A outer s H vs Q E (hr.deeper _) hsp
  have I := inv_start (E := E) (CX := CX0) S hr.hd e0 hl r x
  refine wpAny_mono (ht [] s1 (start N vs) H _ I hq) (fun fl s' hs => ?_) fun e s' hs => wpAny_mono hs (fun _ _ z => ⟨fun v y => (by cases y), z⟩) fun _ _ z => ⟨fun v y => (by cases y), z⟩
  obtain ⟨hk, hs⟩ := hs
  cases fl with
  | ret u =>
    obtain ⟨v, σ', H', J, rv, q⟩ := hs
    exact ⟨fun _ _ => hk u rfl, v, H', J.os, J.bare, J.base, J.hok, rv, q⟩
  | next =>
    obtain ⟨σ', H', J, q⟩ := hs
    exact False.elim q
  | brk =>
    obtain ⟨_, _, _, q⟩ := hs
    exact False.elim q
  | cont =>
    obtain ⟨_, _, _, q⟩ := hs
    exact False.elim q
theorem has_ofT {x : Str} {st : Stmt} {N ps : List Str} {k : Nat} {sp : Sp} (A : At K mg x st) (S : FnScope N ps (defScope st)) (B : BindsAll x st ps) (len : ∀ vs H Q E, sp vs H Q E → vs.length = ps.length)
    (hbody : ∀ (f : Addr) (cdv : Value) (A : Around) (outer : List Env) (s : Shared) (H : Hp) (vs : List V) (Q : VK) (E : XK), Room k (A.deeper (envOfC x (defScope st) s.heap.objs.size f cdv)) → sp vs H Q E →
      ∃ t, PSsT (cxOf CX0 P w K mg base N x (defScope st) f cdv A outer s H E).nox (defBody st) t ∧ t { nx := fun _ H' => Q .non H', rt := Q } (start N vs) H) : HasT P w K mg base (k + 1) x ps sp := by
  obtain ⟨f, fd, hm, F⟩ := A.ex
  refine ⟨f, fd, hm, F.kp, F.binds B, len, fun A outer s H args us vs Q E tk hr e0 hb r hsp => ?_⟩
  obtain ⟨oc, od, kV, doc, pm, an, cdv, ct, osl, rfl, lk, hcd⟩ := F.ex
  have hl := len _ _ _ _ hsp
  have KX : K.In s.heap := e0.mod.kin.keeps fun b o e => (e0.bs b o e).1
  have lim : s.heap.NoLimit := e0.mod.nolimit.keeps fun b o e => (e0.bs b o e).1
  have hkind : ∀ y ∈ ps.zip us, (defScope st).names.lookup y.1 = some .local ∨ ((defScope st).names.lookup y.1 = some .cell ∧ ((cellsFrom (s.heap.objs.size + 1) (defScope st).names []).lookup y.1).isSome = true) := fun ⟨n, v⟩ hy => by
    rcases S.par n (List.of_mem_zip hy).1 with q | q
    · exact .inl q
    · exact .inr ⟨q, PySem.W.cellsFrom_some _ _ _ (.inl q)⟩
  refine codeAny_call_function hr.depth (KX _ _ lk) rfl S.co S.gen rfl (PySem.W.codeRec_of KX hcd) (hb _ _ _ _ ?_)
  refine PySem.wpAny_with_toks tk (wpAny_newFunctionEnv_cells S.kind hkind fun env he s1 x tk1 => ?_)
  subst he
  refine ⟨lim.keeps x.toInCall.keep, codeAny_func ?_⟩
  obtain ⟨t, ht, hq⟩ := hbody f cdv A outer s H vs Q E (hr.deeper _) hsp
  have I := inv_start (E := E) (CX := CX0) S hr.hd e0 hl r x
  refine wpAny_mono (L2.PSsT.nox ht [] s1 (start N vs) H _ tk1 I hq) (fun fl s' hs => ?_) fun e s' hs => hs
  cases fl with
  | ret u =>
    obtain ⟨v, σ', H', J, rv, q⟩ := hs
    exact ⟨v, H', J.os, J.bare, J.base, J.hok, rv, q⟩
  | next =>
    obtain ⟨σ', H', J, q⟩ := hs
    exact ⟨V.non, H', J.os, J.bare, J.base, J.hok, rfl, q⟩
  | brk =>
    obtain ⟨_, _, _, q⟩ := hs
    exact False.elim q
  | cont =>
    obtain ⟨_, _, _, q⟩ := hs
    exact False.elim q
end
section
variable {X : Cx} {k : Nat} {x : Str} {ps : List Str} {sp : Sp} {e : Expr} {es : List Expr} {t : TA} {p pos : Pos}
theorem peu_has (h : HasU X.prog X.w X.K X.mg X.base k x ps sp) (hr : Room k X.A) (hg : Gl X x) (ha : PA X (e :: es) t)
    (hdb : (x == ("__debug__" : Str)) = false := by decide) (he : starEach (e :: es) X.env = (false, eval e X.env) :: starEach es X.env := by rfl) (hpl : (backTo pos (starEach es X.env)).any (·.1) = false := by rfl) :
    PEU X (.Call (.Name x p) (e :: es) [] pos) (tCall sp [] E0 t) := by
  obtain ⟨f, fd, hm, hk, hb, F⟩ := h.ex
  intro pins s σ H Q I h
  refine wpAny_Call_Name_kw (ld_glob I hg hm ?_ hdb)
  refine PySem.W.callWith_K (h₀ := X.base) I.ok.mod.kin hk (thn (ha.run pos pins s σ H _ I h) fun us s1 ⟨vs, H1, I1, r1, q⟩ => ⟨I1.kIn, ?_⟩) he hpl
  have q : sp vs H1 Q E0 := by
    have z : sp (vs ++ []) H1 Q E0 := q
    rwa [List.append_nil] at z
  have bd := hb s1 us I1.kIn (by rw [List.append_nil, ← r1.length]; exact F.len _ _ _ _ q)
  rw [List.append_nil] at bd
  refine wpAny_call (codeAny_mono (F.run X.A X.stack s1 H1 ⟨us, []⟩ us vs Q E0 hr I1.env0 bd r1 q) fun r s2 hq => ?_)
  obtain ⟨hk2, hq⟩ := hq
  cases r with
  | error e => exact pass0 pins σ H1 s1 e s2 I1 hq
  | ok fl =>
    cases fl with
    | ret u => exact ⟨hk2 _ rfl, I1.after hq⟩
    | next => exact False.elim hq
    | brk => exact False.elim hq
    | cont => exact False.elim hq
theorem pet_has (h : HasT X.prog X.w X.K X.mg X.base k x ps sp) (hr : Room k X.A) (hg : Gl X x) (ha : PA X (e :: es) t)
    (hdb : (x == ("__debug__" : Str)) = false := by decide) (he : starEach (e :: es) X.env = (false, eval e X.env) :: starEach es X.env := by rfl) (hpl : (backTo pos (starEach es X.env)).any (·.1) = false := by rfl) :
    PET X (.Call (.Name x p) (e :: es) [] pos) (tCall sp [] E0 t) := by
  obtain ⟨f, fd, hm, hk, hb, F⟩ := h.ex
  intro pins s σ H Q tk I h
  refine PySem.wpAny_with_toks tk (wpAny_Call_Name_kw (ld_glob I hg hm ?_ hdb))
  refine PySem.W.callWith_K (h₀ := X.base) I.ok.mod.kin hk (wpAny_mono (PySem.wpAny_toks_of tk (ha.run pos pins s σ H _ I h)) (fun us s1 q0 => ?_) fun _ _ z _ => z.2) he hpl
  obtain ⟨tk1, vs, H1, I1, r1, q⟩ := q0
  refine ⟨I1.kIn, ?_⟩
  have q : sp vs H1 Q E0 := by
    have z : sp (vs ++ []) H1 Q E0 := q
    rwa [List.append_nil] at z
  have bd := hb s1 us I1.kIn (by rw [List.append_nil, ← r1.length]; exact F.len _ _ _ _ q)
  rw [List.append_nil] at bd
  refine wpAny_call (codeAny_mono (F.run X.A X.stack s1 H1 ⟨us, []⟩ us vs Q E0 tk1 hr I1.env0 bd r1 q) fun r s2 hq => ?_)
  cases r with
  | error e => exact fun _ => pass0 pins σ H1 s1 e s2 I1 hq
  | ok fl =>
    cases fl with
    | ret u => exact fun _ => I1.after hq
    | next => exact False.elim hq
    | brk => exact False.elim hq
    | cont => exact False.elim hq
theorem pat_one {te' : TE} (h : PET X e te') (hs : starEach [e] X.env = (false, eval e X.env) :: starEach [] X.env := by rfl) : PAT X [e] (tCons te' tNil) := pat_cons h pat_nil hs
theorem pat_rest {es' : List Expr} {te : TE} {ta : TA} (ha : PE X e te) (hr : PAT X es' ta) (hs : starEach (e :: es') X.env = (false, eval e X.env) :: starEach es' X.env := by rfl) : PAT X (e :: es') (tCons te ta) := pat_cons (CwR.PET.of ha) hr hs
theorem pet_callB {id : String} {r : List V → Hp → VK → Prop} (hc : CallR X (.builtin id) r) (hg : Gl X x) (hm : X.mg x = none) (hv : bootBuiltins x = some (.builtin id)) (ha : PAT X (e :: es) t) (hn : x ≠ "__name__" := by decide) (hdb : (x == ("__debug__" : Str)) = false := by decide)
    (he : starEach (e :: es) X.env = (false, eval e X.env) :: starEach es X.env := by rfl) (hpl : (backTo pos (starEach es X.env)).any (·.1) = false := by rfl) : PET X (.Call (.Name x p) (e :: es) [] pos) (tCB r t) := by
  intro pins s σ H Q tk I h
  refine wpAny_Call_Name_kw (ld_blt I hg hm hv ?_ hn hdb)
  exact PyProof.Rows.callWith_builtin1 (thn (ha pos pins s σ H _ tk I h) fun us s1 ⟨vs, H1, I1, r1, q1⟩ => hc pins s1 σ H1 vs us Q I1 r1 q1) he hpl
variable {te tf : TE} {ta tb tc : TT} {a b c : Expr} {rest : List Stmt} {u : TS}
theorem ptt_cmpR {op : CmpOp} {r : R2} (ho : OpR X (compareOp op) r) (ha : PET X a te) (hb : PE X b tf) (hm : behindInMarks op b = false) : PTT X (.Compare a [op] [b] pos) (tTest (tOp r te tf)) := by
  intro pins s σ H Q tk I h
  refine wpAny_isTrue_Compare1 (thn (ha pins s σ H _ tk I h) fun v s1 ⟨x, H1, I1, r1, q1⟩ => thn (hb.run pins s1 σ H1 _ I1 q1) fun u s2 ⟨y, H2, I2, r2, q2⟩ =>
    thn (ho pins s2 σ H2 x y v u _ I2 r1 r2 q2) fun c s3 ⟨z, H3, I3, r3, k, e, q3⟩ => ?_) hm
  subst e
  cases r3
  exact wpAny_truthy_bool ⟨H3, I3, q3⟩
theorem pwt_or {es' : List Expr} (ha : PT X a ta) (hb : PWT X (.BoolOp .Or (b :: es') pos) tb) : PWT X (.BoolOp .Or (a :: b :: es') pos) (tOr ta tb) := by
  intro wh pins s σ H Q tk I h
  refine isTrue_or (wpAny_mono (PySem.wpAny_toks_of tk (ha.run pins s σ H _ I h)) (fun c s1 q => ?_) fun _ _ z => z.2)
  obtain ⟨tk1, H1, I1, q1⟩ := q
  cases c with
  | true => exact ⟨H1, I1, q1⟩
  | false => exact hb wh pins s1 σ H1 Q tk1 I1 q1
theorem pwt_orT {es' : List Expr} (ha : PTT X a ta) (hb : PW X (.BoolOp .Or (b :: es') pos) tb) : PWT X (.BoolOp .Or (a :: b :: es') pos) (tOr ta tb) := by
  intro wh pins s σ H Q tk I h
  refine isTrue_or (thn (ha pins s σ H _ tk I h) fun c s1 ⟨H1, I1, q1⟩ => ?_)
  cases c with
  | true => exact ⟨H1, I1, q1⟩
  | false => exact hb.run wh pins s1 σ H1 Q I1 q1
theorem PWT.pt (h : PWT X c tc) : PTT X c tc := fun pins s σ H Q tk I q => h _ pins s σ H Q tk I q
theorem pst_ifT {st1 st2 : List Stmt} {t1 t2 : TS} (hc : PTT X c tc) (ha : PSs X st1 t1) (hb : PSs X st2 t2) : PST X (.If c st1 st2 pos) (tIfS tc t1 t2) := by
  intro pins s σ H D tk I h
  refine wpAny_If (thn (hc pins s σ H _ tk I h) fun d s1 ⟨H1, I1, q1⟩ => ?_)
  cases d with
  | true => exact ha.run pins s1 σ H1 D I1 q1
  | false => exact hb.run pins s1 σ H1 D I1 q1
/-- behind such a call one is out -/
theorem pss_setU {i : Nat} {y : Str} {pos' : Pos} (hN : X.N.Nodup) (hi : X.N[i]? = some y) (hx : Loc X.env.scope y) (he : PEU X e te) (hr : PSsT X rest u) (hs : swapsWith e (some (.Name y pos')) pos.line X.env = pure false := by rfl)
    (hf : X.fn y = true ∨ X.env.scope.names.lookup y = some .local := by first | exact .inl rfl | exact .inr rfl | assumption) : PSs X (.Assign [.Name y pos'] e pos :: rest) (tSeq (tAsg te (gName i)) u) := by
  refine ⟨fun pins s σ H D I h => ?_⟩
  refine wpAny_execs_cons (wpAny_Assign_Name (thn (he pins s σ H _ I h) fun v s1 q => ?_) hs)
  obtain ⟨tk, z, H1, I1, r1, q1⟩ := q
  refine wpAny_mono (PySem.wpAny_toks_of tk (store_ok (Q := fun _ s2 => Inv X pins (σ.set i (some z)) H1 s2) I1 hN hi hx r1 (fun s2 I2 => I2) hf)) (fun _ s2 q => ?_) fun _ _ z => z.2
  exact hr pins s2 _ H1 D q.1 q.2 q1
theorem pst_set {i : Nat} {y : Str} {pos' : Pos} (hN : X.N.Nodup) (hi : X.N[i]? = some y) (hx : Loc X.env.scope y) (he : PET X e te) (hs : swapsWith e (some (.Name y pos')) pos.line X.env = pure false := by rfl)
    (hf : X.fn y = true ∨ X.env.scope.names.lookup y = some .local := by first | exact .inl rfl | exact .inr rfl | assumption) : PST X (.Assign [.Name y pos'] e pos) (tAsg te (gName i)) := by
  intro pins s σ H D tk I h
  refine wpAny_Assign_Name (thn (he pins s σ H _ tk I h) fun v s1 ⟨z, H1, I1, r1, q1⟩ => ?_) hs
  exact store_ok I1 hN hi hx r1 (fun s2 I2 => ⟨_, H1, I2, q1⟩) hf
/-- o.m(), o wants one -/
theorem pet_bm0 {to : TE} {o : Expr} {id T : String} {name : Str} {r : V → List V → Hp → VK → Prop} {apos cpos : Pos} (pa : PlainAttrs T) (slot : Slot T name id) (hty : typeOf (.builtin id) = pure (.type "method_descriptor")) (hm : MtR X id r) (ho : PET X o to)
    (hbase : attributeBase o name X.env (eval o X.env) = eval o X.env := by rfl) (hline : (apos.endLine == cpos.line) = true := by rfl) : PET X (.Call (.Attribute o name apos) [] [] cpos) (tBM0 X.K T r to) := by
  intro pins s σ H Q tk I h
  refine wpAny_Call_method0_late hbase hline (thn (ho pins s σ H _ tk I h) fun v s1 ⟨x, H1, I1, r1, ty, q1⟩ => ?_)
  obtain ⟨h1, h2⟩ := tyV_is I1 r1 ty
  exact ⟨T, id, pa, slot, hty, h1, h2, Calls.callWith_builtin rfl (PySem.evalArgs_none (hm pins s1 σ H1 x [] v [] Q I1 r1 .nil q1))⟩
end

/-! ### parts and plans, counted: are.lean's plain part -/
mutual
def onesP : PyData → Nat
  | .int _ => 1
  | .tuple ds => onesAll ds
  | _ => 0
def onesAll : List PyData → Nat
  | [] => 0
  | d :: ds => onesP d + onesAll ds
end
mutual
def szP : PyData → Nat
  | .tuple ds => szAll ds + 1
  | _ => 1
def szAll : List PyData → Nat
  | [] => 0
  | d :: ds => szP d + szAll ds
end
/-- whether a thing is joined of parts, by its word and how many -/
def joinedP : PyData → Bool
  | .tuple (.str w :: ds) => decide (ds ≠ []) && (decide (w = "sums") || (decide (w = "net") && decide (ds.length = 2)))
  | _ => false
mutual
/-- trees of words and ones -/
inductive Wt : PyData → Prop
  | one : Wt (.int 1)
  | tup (w : Str) {ds : List PyData} : ds ≠ [] → WtAll ds → Wt (.tuple (.str w :: ds))
inductive WtAll : List PyData → Prop
  | nil : WtAll []
  | cons {d : PyData} {ds : List PyData} : Wt d → WtAll ds → WtAll (d :: ds)
end
mutual
/-- parts, so many tuples around them -/
inductive Good : Nat → PyData → Prop
  | one {o : Nat} : Good o (.int 1)
  | tup {o : Nat} {w : Str} {ds : List PyData} : o < 60 → joinedP (.tuple (.str w :: ds)) = true → GoodAll (o + 1) ds → Good o (.tuple (.str w :: ds))
inductive GoodAll : Nat → List PyData → Prop
  | nil {o : Nat} : GoodAll o []
  | cons {o : Nat} {d : PyData} {ds : List PyData} : Good o d → GoodAll o ds → GoodAll o (d :: ds)
end
theorem joined_ne {w : Str} {ds : List PyData} (h : joinedP (.tuple (.str w :: ds)) = true) : ds ≠ [] := by
  unfold joinedP at h
  exact of_decide_eq_true (Bool.and_eq_true_iff.mp h).1
mutual
theorem Good.wt : ∀ {o : Nat} {d : PyData}, Good o d → Wt d
  | _, _, .one => .one
  | _, _, .tup _ j r => .tup _ (joined_ne j) (GoodAll.wt r)
theorem GoodAll.wt : ∀ {o : Nat} {ds : List PyData}, GoodAll o ds → WtAll ds
  | _, _, .nil => .nil
  | _, _, .cons h r => .cons (Good.wt h) (GoodAll.wt r)
end
mutual
theorem Good.pos : ∀ {o : Nat} {d : PyData}, Good o d → 1 ≤ onesP d
  | _, _, .one => Nat.le_refl _
  | _, _, .tup (w := w) (ds := ds) _ j r => by
    have ne := joined_ne j
    rw [onesP, onesAll]
    have l := GoodAll.pos r
    have : 1 ≤ ds.length := List.length_pos_iff.mpr ne
    omega
theorem GoodAll.pos : ∀ {o : Nat} {ds : List PyData}, GoodAll o ds → ds.length ≤ onesAll ds
  | _, _, .nil => Nat.le_refl _
  | _, _, .cons h r => by
    rw [onesAll, List.length_cons]
    have := Good.pos h
    have := GoodAll.pos r
    omega
end
theorem onesAll_app : ∀ (a b : List PyData), onesAll (a ++ b) = onesAll a + onesAll b
  | [], b => by rw [List.nil_append, onesAll, Nat.zero_add]
  | x :: a, b => by rw [List.cons_append, onesAll, onesAll, onesAll_app a b, Nat.add_assoc]
theorem szAll_app : ∀ (a b : List PyData), szAll (a ++ b) = szAll a + szAll b
  | [], b => by rw [List.nil_append, szAll, Nat.zero_add]
  | x :: a, b => by rw [List.cons_append, szAll, szAll, szAll_app a b, Nat.add_assoc]
theorem szP_pos : ∀ d : PyData, 1 ≤ szP d
  | .tuple ds => by
    rw [szP]
    omega
  | .none => Nat.le_refl 1
  | .bool _ => Nat.le_refl 1
  | .int _ => Nat.le_refl 1
  | .str _ => Nat.le_refl 1
  | .list _ => Nat.le_refl 1
  | .dict _ => Nat.le_refl 1
theorem len_sz : ∀ ds : List PyData, ds.length ≤ szAll ds
  | [] => Nat.zero_le _
  | d :: ds => by
    rw [List.length_cons, szAll]
    have := szP_pos d
    have := len_sz ds
    omega
theorem WtAll.app : ∀ {a b : List PyData}, WtAll a → WtAll b → WtAll (a ++ b)
  | _, _, .nil, h => h
  | _, _, .cons x r, h => .cons x (r.app h)
theorem WtAll.snoc_inv : ∀ {a : List PyData} {d : PyData}, WtAll (a ++ [d]) → WtAll a ∧ Wt d
  | [], _, .cons h _ => ⟨.nil, h⟩
  | _ :: _, _, .cons h r => ⟨.cons h r.snoc_inv.1, r.snoc_inv.2⟩
theorem TpAll.snoc_inv {H : Hp} : ∀ {vs : List V} {v : V} {ds : List PyData}, TpAll H (vs ++ [v]) ds → ∃ es d, ds = es ++ [d] ∧ TpAll H vs es ∧ Tp H v d
  | [], _, _, .cons h .nil => ⟨[], _, rfl, .nil, h⟩
  | x :: vs, _, _, .cons h r => by
    obtain ⟨es, d, e, a, b⟩ := r.snoc_inv
    exact ⟨_ :: es, d, by rw [e]; rfl, .cons h a, b⟩
theorem dropLast_snoc {xs : List V} {y : V} : (xs ++ [y]).dropLast = xs := List.dropLast_concat
theorem last_snoc {xs : List V} {y : V} : (xs ++ [y])[(xs ++ [y]).length - 1]? = some y := by
  rw [List.length_append, List.length_singleton, Nat.add_sub_cancel, List.getElem?_append_right (Nat.le_refl _), Nat.sub_self]
  rfl
theorem snoc_of2 {α : Type} {l : List α} (h : l ≠ []) : ∃ r x, l = r ++ [x] := ⟨l.dropLast, l.getLast h, (List.dropLast_concat_getLast h).symm⟩
/-- such a thing is a whole number or a tuple -/
theorem wt_cases {H : Hp} {v : V} {d : PyData} (t : Tp H v d) (h : Wt d) : (d = .int 1 ∧ v = .int 1) ∨ ∃ (a : Addr) (w : Str) (xs : List V) (ds : List PyData), d = .tuple (.str w :: ds) ∧ v = .ref a ∧ H a = some (.tup (.str w :: xs)) ∧ TpAll H xs ds ∧ WtAll ds ∧ ds ≠ [] := by
  cases h with
  | one =>
    cases t with
    | int i => exact .inl ⟨rfl, rfl⟩
  | tup w ne r =>
    cases t with
    | tup ha rr =>
      cases rr with
      | cons h1 h2 =>
        cases h1 with
        | str x => exact .inr ⟨_, w, _, _, rfl, rfl, ha, h2, r, ne⟩
theorem cut_one {x : V} {xs : List V} : cutV (x :: xs) (some 1) none = xs := by
  unfold cutV
  rw [HT.sIx_none, show HT.sIx (x :: xs).length 0 (some 1) = min 1 (x :: xs).length from HT.sIx_nat _ _ 1]
  rw [show min 1 (x :: xs).length = 1 from Nat.min_eq_left (by rw [List.length_cons]; omega)]
  show List.take _ xs = xs
  exact List.take_of_length_le (by rw [List.length_cons]; omega)
theorem cut_part {x : V} {xs : List V} : ¬ (HT.sIx (x :: xs).length 0 (some 1) = 0 ∧ HT.sIx (x :: xs).length (x :: xs).length none = (x :: xs).length) := by
  rw [show HT.sIx (x :: xs).length 0 (some 1) = min 1 (x :: xs).length from HT.sIx_nat _ _ 1]
  rw [show min 1 (x :: xs).length = 1 from Nat.min_eq_left (by rw [List.length_cons]; omega)]
  omega
theorem ty_tup {K : PySem.W.Frag} {H : Hp} {a : Addr} {xs : List V} (h : H a = some (.tup xs)) : TyX K H (.ref a) (.type "tuple") := .base (.tup h)
theorem kt_tup {K : PySem.W.Frag} : PySem.W.kitOne K (.type "tuple") (.type "tuple") = some true := kit_ty (by show kitB "tuple" "tuple" = some true; decide +kernel)
theorem ty_int {K : PySem.W.Frag} {H : Hp} {i : Int} : TyX K H (.int i) (.type "int") := .base (.int i)
theorem kt_int {K : PySem.W.Frag} : PySem.W.kitOne K (.type "int") (.type "tuple") = some false := kit_ty (by show kitB "int" "tuple" = some false; decide +kernel)
theorem iteF' {p : Prop} [Decidable p] {A B : Prop} (h : ¬ p) (b : B) : if decide p = true then A else B := by
  rw [if_neg fun z => h (of_decide_eq_true z)]
  exact b
theorem iteT' {p : Prop} [Decidable p] {A B : Prop} (h : p) (a : A) : if decide p = true then A else B := by
  rw [if_pos (decide_eq_true h)]
  exact a
def onesPs (ps : List (PyData × Nat)) : Nat := onesAll (ps.map (·.1))
def szPs (ps : List (PyData × Nat)) : Nat := szAll (ps.map (·.1))
theorem onesPs_snoc (ps : List (PyData × Nat)) (q : PyData × Nat) : onesPs (ps ++ [q]) = onesPs ps + onesP q.1 := by
  unfold onesPs
  rw [List.map_append, onesAll_app, List.map_cons, List.map_nil, onesAll, onesAll, Nat.add_zero]
theorem szPs_snoc (ps : List (PyData × Nat)) (q : PyData × Nat) : szPs (ps ++ [q]) = szPs ps + szP q.1 := by
  unfold szPs
  rw [List.map_append, szAll_app, List.map_cons, List.map_nil, szAll, szAll, Nat.add_zero]
theorem map_fst (ds : List PyData) (o : Nat) : (ds.map fun d => (d, o)).map (fun x : PyData × Nat => x.1) = ds := by
  rw [List.map_map, show ((fun x : PyData × Nat => x.1) ∘ fun d => (d, o)) = id from rfl, List.map_id]
theorem onesPs_put (ps : List (PyData × Nat)) (ds : List PyData) (o : Nat) : onesPs (ps ++ ds.map fun d => (d, o)) = onesPs ps + onesAll ds := by
  unfold onesPs
  rw [List.map_append, onesAll_app, map_fst]
theorem szPs_put (ps : List (PyData × Nat)) (ds : List PyData) (o : Nat) : szPs (ps ++ ds.map fun d => (d, o)) = szPs ps + szAll ds := by
  unfold szPs
  rw [List.map_append, szAll_app, map_fst]

/-! ### comprehensions whose items are told by a relation that stays -/
section
variable {K : PySem.W.Frag} {a : Addr} {xs : List V} {te : TE} {vs : List Nat} {σ : L2.St} {H : Hp} {D : Addr} {Qd : Hp → Prop} {j : Nat}
/-- what is told of the items so far -/
structure RelAt (Rel : Nat → V → Hp → Prop) (D : Addr) (i : Nat) (H H' : Hp) : Prop where
  sm : Same H H'
  ys : ∃ ys, H' D = some (.lst ys) ∧ ys.length = i ∧ ∀ (k : Nat) y, ys[k]? = some y → Rel k y H'
theorem rel_turn {Rel : Nat → V → Hp → Prop} {i : Nat} {x : V} {H' : Hp} {P : Hp → Prop} (keep : ∀ i y H1 H2, Rel i y H1 → Same H1 H2 → Rel i y H2) (mu : ∀ i y H1 l o, H1 D = some (.lst l) → Rel i y H1 → Rel i y (upd H1 D o)) (hD : H D = none)
    (wip : wipe ((wipe σ vs).set j (some x)) vs = wipe σ vs) (r : RelAt Rel D i H H') (small : i < 1000000) (he : ∀ R : VK, (∀ y H'', Same H' H'' → Rel i y H'' → R y H'') → te ((wipe σ vs).set j (some x)) H' R) (k : ∀ H'', RelAt Rel D (i + 1) H H'' → P H'') :
    gName j x (wipe σ vs) H' fun σ2 H2 => wipe σ2 vs = wipe σ vs ∧ tYes σ2 H2 fun b H3 => if b = true then te σ2 H3 fun y H4 => ∃ acc, H4 D = some (.lst acc) ∧ acc.length < sizeLine ∧ P (upd H4 D (.lst (acc ++ [y]))) else P H3 := by
  have line : 1000000 < sizeLine := by decide
  obtain ⟨sm, ys, hd, hl, hr⟩ := r
  refine ⟨wip, yes_go (he _ fun y H4 s4 ry => ⟨ys, s4 _ _ hd, by omega, k _ ⟨fun b o e => ?_, ys ++ [y], upd_same, by rw [List.length_append, hl]; rfl, fun m z hz => ?_⟩⟩)⟩
  · rw [upd_ne (ne_of_none e hD)]
    exact s4 _ _ (sm _ _ e)
  · refine mu _ _ _ _ _ (s4 _ _ hd) ?_
    by_cases c : m < ys.length
    · rw [List.getElem?_append_left c] at hz
      exact keep _ _ _ _ (hr m z hz) s4
    · rw [List.getElem?_append_right (by omega)] at hz
      have l := (List.getElem?_eq_some_iff.mp hz).1
      simp only [List.length_cons, List.length_nil] at l
      have e0 : m - ys.length = 0 := by omega
      rw [e0] at hz
      cases hz
      have em : m = i := by omega
      rw [em]
      exact ry
theorem rel_zero {Rel : Nat → V → Hp → Prop} (hD : H D = none) : RelAt Rel D 0 H (upd H D (.lst [])) := ⟨same_new hD, [], upd_same, rfl, fun k y e => by simp at e⟩
theorem lc_relL (Rel : Nat → V → Hp → Prop) (keep : ∀ i y H1 H2, Rel i y H1 → Same H1 H2 → Rel i y H2) (mu : ∀ i y H1 l o, H1 D = some (.lst l) → Rel i y H1 → Rel i y (upd H1 D o)) (hx : SqL K H a xs) (hD : H D = none) (hz : xs.length ≤ 1000000)
    (wip : ∀ x, wipe ((wipe σ vs).set j (some x)) vs = wipe σ vs) (he : ∀ (i : Nat) x, xs[i]? = some x → ∀ H', Same H H' → ∀ R : VK, (∀ y H'', Same H' H'' → Rel i y H'' → R y H'') → te ((wipe σ vs).set j (some x)) H' R)
    (k : ∀ H' ys, Same H H' → H' D = some (.lst ys) → ys.length = xs.length → (∀ (i : Nat) y, ys[i]? = some y → Rel i y H') → Qd H') :
    ∃ W : Nat → Nat → Hp → Prop, (∃ m, W 0 m (upd H D (.lst []))) ∧ ∀ i m H, W i m H →
      ((Itl K a).stop i H ∧ Qd H) ∨ ((Itl K a).go i H ∧ ∃ Nx : Hp → Prop, (∀ H', Nx H' → ∃ m', m' < m ∧ W (i + 1) m' H') ∧ ∀ x H', (Itl K a).yld i H x H' → gName j x (wipe σ vs) H' fun σ2 H2 => wipe σ2 vs = wipe σ vs ∧ tYes σ2 H2 fun b H3 =>
        if b = true then te σ2 H3 fun y H4 => ∃ acc, H4 D = some (.lst acc) ∧ acc.length < sizeLine ∧ Nx (upd H4 D (.lst (acc ++ [y]))) else Nx H3) := by
  refine lc_list (xs := xs) (RelAt Rel D · H) (rel_zero hD) (fun i H' _ p => p.sm.seq hx) (fun i x H' hi p => ?_) fun H' p => ?_
  · have li := (List.getElem?_eq_some_iff.mp hi).1
    exact rel_turn keep mu hD (wip x) p (by omega) (he i x hi H' p.sm) fun H'' q => q
  · obtain ⟨sm, ys, hd, hl, hr⟩ := p
    exact k H' ys sm hd hl hr
theorem lc_relT (Rel : Nat → V → Hp → Prop) (keep : ∀ i y H1 H2, Rel i y H1 → Same H1 H2 → Rel i y H2) (mu : ∀ i y H1 l o, H1 D = some (.lst l) → Rel i y H1 → Rel i y (upd H1 D o)) (hx : SqT K H a xs) (hD : H D = none) (hz : xs.length ≤ 1000000)
    (wip : ∀ x, wipe ((wipe σ vs).set j (some x)) vs = wipe σ vs) (he : ∀ (i : Nat) x, xs[i]? = some x → ∀ H', Same H H' → ∀ R : VK, (∀ y H'', Same H' H'' → Rel i y H'' → R y H'') → te ((wipe σ vs).set j (some x)) H' R)
    (k : ∀ H' ys, Same H H' → H' D = some (.lst ys) → ys.length = xs.length → (∀ (i : Nat) y, ys[i]? = some y → Rel i y H') → Qd H') :
    ∃ W : Nat → Nat → Hp → Prop, (∃ m, W 0 m (upd H D (.lst []))) ∧ ∀ i m H, W i m H →
      ((Itt K a).stop i H ∧ Qd H) ∨ ((Itt K a).go i H ∧ ∃ Nx : Hp → Prop, (∀ H', Nx H' → ∃ m', m' < m ∧ W (i + 1) m' H') ∧ ∀ x H', (Itt K a).yld i H x H' → gName j x (wipe σ vs) H' fun σ2 H2 => wipe σ2 vs = wipe σ vs ∧ tYes σ2 H2 fun b H3 =>
        if b = true then te σ2 H3 fun y H4 => ∃ acc, H4 D = some (.lst acc) ∧ acc.length < sizeLine ∧ Nx (upd H4 D (.lst (acc ++ [y]))) else Nx H3) := by
  refine lc_tup (xs := xs) (RelAt Rel D · H) (rel_zero hD) (fun i H' _ p => Same.seqT p.sm hx) (fun i x H' hi p => ?_) fun H' p => ?_
  · have li := (List.getElem?_eq_some_iff.mp hi).1
    exact rel_turn keep mu hD (wip x) p (by omega) (he i x hi H' p.sm) fun H'' q => q
  · obtain ⟨sm, ys, hd, hl, hr⟩ := p
    exact k H' ys sm hd hl hr
theorem eq_of_get {α : Type} {xs ys : List α} (hl : ys.length = xs.length) (h : ∀ (i : Nat) y, ys[i]? = some y → xs[i]? = some y) : ys = xs := by
  refine List.ext_getElem? fun i => ?_
  by_cases c : i < ys.length
  · rw [List.getElem?_eq_getElem c, h i _ (List.getElem?_eq_getElem c)]
  · rw [List.getElem?_eq_none (by omega), List.getElem?_eq_none (by omega)]
/-- the items are known ahead -/
theorem lc_mapL (zs : List V) (hn : zs.length = xs.length) (hx : SqL K H a xs) (hD : H D = none) (hz : xs.length ≤ 1000000)
    (wip : ∀ x, wipe ((wipe σ vs).set j (some x)) vs = wipe σ vs) (he : ∀ (i : Nat) x z, xs[i]? = some x → zs[i]? = some z → ∀ H', Same H H' → ∀ R : VK, (∀ H'', Same H' H'' → R z H'') → te ((wipe σ vs).set j (some x)) H' R)
    (k : ∀ H', Same H H' → H' D = some (.lst zs) → Qd H') :
    ∃ W : Nat → Nat → Hp → Prop, (∃ m, W 0 m (upd H D (.lst []))) ∧ ∀ i m H, W i m H →
      ((Itl K a).stop i H ∧ Qd H) ∨ ((Itl K a).go i H ∧ ∃ Nx : Hp → Prop, (∀ H', Nx H' → ∃ m', m' < m ∧ W (i + 1) m' H') ∧ ∀ x H', (Itl K a).yld i H x H' → gName j x (wipe σ vs) H' fun σ2 H2 => wipe σ2 vs = wipe σ vs ∧ tYes σ2 H2 fun b H3 =>
        if b = true then te σ2 H3 fun y H4 => ∃ acc, H4 D = some (.lst acc) ∧ acc.length < sizeLine ∧ Nx (upd H4 D (.lst (acc ++ [y]))) else Nx H3) := by
  refine lc_relL (fun i y _ => zs[i]? = some y) (fun _ _ _ _ r _ => r) (fun _ _ _ _ _ _ r => r) hx hD hz wip (fun i x hi H' s' R g => ?_) fun H' ys s' hd hl hr => k H' s' (by rw [hd, eq_of_get (by omega) hr])
  have li := (List.getElem?_eq_some_iff.mp hi).1
  exact he i x _ hi (List.getElem?_eq_getElem (by omega)) H' s' R fun H'' s'' => g _ H'' s'' (List.getElem?_eq_getElem (by omega))
end

/-! ### == of any thing with a text; in a tuple of texts -/
section
variable {X : Cx}
def rEqS (K : PySem.W.Frag) : R2 := fun x y H Q => ∃ d e, Dp K H x d ∧ Dp K H y e ∧ d.canLay0 = true ∧ e.canLay0 = true ∧ e.depth = 0 ∧ Q (.bl (PyData.eqv d e)) H
theorem op_eqS (hu : X.A.units + 64 < cLine) : OpR X (compareOp .Eq) (rEqS X.K) := by
  intro pins s σ H x y v u Q I rx ry h
  obtain ⟨d, e, hd, he, sd, se, z, q⟩ := h
  obtain ⟨as, r1⟩ := Dp.reads I d x v hd rx
  obtain ⟨bs, r2⟩ := Dp.reads I e y u he ry
  exact SeqAt.compareEq_reads r1 r2 sd se (by rw [z, Nat.min_zero]; omega) ⟨.bl _, H, I, rfl, q⟩
def rInS (K : PySem.W.Frag) : R2 := fun x y H Q => ∃ d ds, Dp K H x d ∧ Dp K H y (.tuple ds) ∧ d.canLay0 = true ∧ PyData.canLayAll0 ds = true ∧ PyData.depthAll ds = 0 ∧ Q (.bl (ds.any fun z => PyData.eqv z d)) H
theorem op_inS (hu : X.A.units + 64 < cLine) : OpR X (compareOp .In) (rInS X.K) := by
  intro pins s σ H x y v u Q I rx ry h
  obtain ⟨d, ds, hd, he, sd, se, z, q⟩ := h
  obtain ⟨as, r1⟩ := Dp.reads I d x v hd rx
  obtain ⟨bs, r2⟩ := Dp.reads I (.tuple ds) y u he ry
  exact SeqAt.in_tuple_reads r2 r1 se sd (by rw [z, Nat.zero_min]; omega) ⟨.bl _, H, I, rfl, q⟩
end
theorem eqv_s1 : ∀ (d : PyData) (w : Str), PyData.eqv d (.str w) = (match d with | .str x => x == w | _ => false)
  | .none, _ => by simp only [PyData.eqv]
  | .bool _, _ => by simp only [PyData.eqv]
  | .int _, _ => by simp only [PyData.eqv]
  | .str _, _ => by simp only [PyData.eqv]
  | .list _, _ => by simp only [PyData.eqv]
  | .tuple _, _ => by simp only [PyData.eqv]
  | .dict _, _ => by simp only [PyData.eqv]
theorem eqv_s2 : ∀ (d : PyData) (w : Str), PyData.eqv (.str w) d = (match d with | .str x => w == x | _ => false)
  | .none, _ => by simp only [PyData.eqv]
  | .bool _, _ => by simp only [PyData.eqv]
  | .int _, _ => by simp only [PyData.eqv]
  | .str _, _ => by simp only [PyData.eqv]
  | .list _, _ => by simp only [PyData.eqv]
  | .tuple _, _ => by simp only [PyData.eqv]
  | .dict _, _ => by simp only [PyData.eqv]
/-! ### things: data of any kind, lists too, in a heap that stays -/
mutual
inductive Th (H : Hp) : V → PyData → Prop
  | non : Th H .non .none
  | bl (b : Bool) : Th H (.bl b) (.bool b)
  | int (i : Int) : Th H (.int i) (.int i)
  | str (x : Str) : Th H (.str x) (.str x)
  | lst {a : Addr} {xs : List V} {ds : List PyData} : H a = some (.lst xs) → ThAll H xs ds → Th H (.ref a) (.list ds)
  | tup {a : Addr} {xs : List V} {ds : List PyData} : H a = some (.tup xs) → ThAll H xs ds → Th H (.ref a) (.tuple ds)
inductive ThAll (H : Hp) : List V → List PyData → Prop
  | nil : ThAll H [] []
  | cons {v : V} {vs : List V} {d : PyData} {ds : List PyData} : Th H v d → ThAll H vs ds → ThAll H (v :: vs) (d :: ds)
end
/-- tuples and lists stay -/
def KS (H H' : Hp) : Prop := ∀ a xs, (H a = some (.tup xs) → H' a = some (.tup xs)) ∧ (H a = some (.lst xs) → H' a = some (.lst xs))
theorem KS.same {H H' : Hp} (s : Same H H') : KS H H' := fun a xs => ⟨fun h => s a _ h, fun h => s a _ h⟩
theorem KS.kp {H H' : Hp} {t c : Addr} {n : Nat} (tp : Tape H t c n) (k : Kp t H H') : KS H H' := fun a xs => by
  obtain ⟨ns', sp', lf', tc, _⟩ := tp
  exact ⟨fun h => k _ _ h (ne_of h tc.d (by intro z; cases z)), fun h => k _ _ h (ne_of h tc.d (by intro z; cases z))⟩
mutual
theorem Th.ks {H H' : Hp} (s : KS H H') : ∀ {v : V} {d : PyData}, Th H v d → Th H' v d
  | _, _, .non => .non
  | _, _, .bl b => .bl b
  | _, _, .int i => .int i
  | _, _, .str x => .str x
  | _, _, .lst h r => .lst ((s _ _).2 h) (ThAll.ks s r)
  | _, _, .tup h r => .tup ((s _ _).1 h) (ThAll.ks s r)
theorem ThAll.ks {H H' : Hp} (s : KS H H') : ∀ {vs : List V} {ds : List PyData}, ThAll H vs ds → ThAll H' vs ds
  | _, _, .nil => .nil
  | _, _, .cons h r => .cons (Th.ks s h) (ThAll.ks s r)
end
mutual
theorem Th.dp {K : PySem.W.Frag} {H : Hp} : ∀ {v : V} {d : PyData}, Th H v d → Dp K H v d
  | _, _, .non => .non
  | _, _, .bl b => .bl b
  | _, _, .int i => .int i
  | _, _, .str x => .str x
  | _, _, .lst h r => .lst (SqL.of h) (ThAll.dp r)
  | _, _, .tup h r => .tup (SqT.of h) (ThAll.dp r)
theorem ThAll.dp {K : PySem.W.Frag} {H : Hp} : ∀ {vs : List V} {ds : List PyData}, ThAll H vs ds → DpAll K H vs ds
  | _, _, .nil => .nil
  | _, _, .cons h r => .cons (Th.dp h) (ThAll.dp r)
end
mutual
theorem Tp.th {H : Hp} : ∀ {v : V} {d : PyData}, Tp H v d → Th H v d
  | _, _, .non => .non
  | _, _, .bl b => .bl b
  | _, _, .int i => .int i
  | _, _, .str x => .str x
  | _, _, .tup h r => .tup h (TpAll.th r)
theorem TpAll.th {H : Hp} : ∀ {vs : List V} {ds : List PyData}, TpAll H vs ds → ThAll H vs ds
  | _, _, .nil => .nil
  | _, _, .cons h r => .cons (Tp.th h) (TpAll.th r)
end
theorem ThAll.len {H : Hp} : ∀ {vs : List V} {ds : List PyData}, ThAll H vs ds → vs.length = ds.length
  | _, _, .nil => rfl
  | _, _, .cons _ r => congrArg (· + 1) r.len
theorem ThAll.get {H : Hp} : ∀ {vs : List V} {ds : List PyData} {i : Nat} {v : V}, ThAll H vs ds → vs[i]? = some v → ∃ d, ds[i]? = some d ∧ Th H v d
  | _, _, 0, _, .cons h _, e => ⟨_, rfl, by cases e; exact h⟩
  | _, _, i + 1, _, .cons _ r, e => r.get (i := i) e
theorem ThAll.app {H : Hp} {ws : List V} {es : List PyData} : ∀ {vs : List V} {ds : List PyData}, ThAll H vs ds → ThAll H ws es → ThAll H (vs ++ ws) (ds ++ es)
  | _, _, .nil, h => h
  | _, _, .cons x r, h => .cons x (r.app h)
theorem ThAll.take {H : Hp} : ∀ {vs : List V} {ds : List PyData} (i : Nat), ThAll H vs ds → ThAll H (vs.take i) (ds.take i)
  | _, _, 0, _ => by rw [List.take_zero, List.take_zero]; exact .nil
  | _, _, i + 1, .nil => .nil
  | _, _, i + 1, .cons x r => .cons x (r.take i)
theorem ThAll.drop {H : Hp} : ∀ {vs : List V} {ds : List PyData} (i : Nat), ThAll H vs ds → ThAll H (vs.drop i) (ds.drop i)
  | _, _, 0, h => h
  | _, _, i + 1, .nil => .nil
  | _, _, i + 1, .cons _ r => r.drop i
def tyN : PyData → String
  | .none => "NoneType"
  | .bool _ => "bool"
  | .int _ => "int"
  | .str _ => "str"
  | .list _ => "list"
  | .tuple _ => "tuple"
  | .dict _ => "dict"
def isI : PyData → Bool
  | .bool _ => true
  | .int _ => true
  | _ => false
def isB : PyData → Bool
  | .bool _ => true
  | _ => false
def isT : PyData → Bool
  | .tuple _ => true
  | _ => false
def isS : PyData → Bool
  | .str _ => true
  | _ => false
theorem th_ty {K : PySem.W.Frag} {H : Hp} {v : V} {d : PyData} (h : Th H v d) : TyX K H v (.type (tyN d)) := by
  cases h with
  | non => exact .base .non
  | bl b => exact .base (.bl b)
  | int i => exact .base (.int i)
  | str x => exact .base (.str x)
  | lst e _ => exact .base (.lst e)
  | tup e _ => exact .base (.tup e)
theorem kit_int {K : PySem.W.Frag} {H : Hp} {v : V} {d : PyData} (h : Th H v d) : PySem.W.kitOne K (.type (tyN d)) (.type "int") = some (isI d) := by
  cases h with
  | non => exact kit_ty (by show kitB "NoneType" "int" = some false; decide +kernel)
  | bl b => exact kit_ty (by show kitB "bool" "int" = some true; decide +kernel)
  | int i => exact kit_ty (by show kitB "int" "int" = some true; decide +kernel)
  | str x => exact kit_ty (by show kitB "str" "int" = some false; decide +kernel)
  | lst e _ => exact kit_ty (by show kitB "list" "int" = some false; decide +kernel)
  | tup e _ => exact kit_ty (by show kitB "tuple" "int" = some false; decide +kernel)
theorem kit_bool {K : PySem.W.Frag} {H : Hp} {v : V} {d : PyData} (h : Th H v d) : PySem.W.kitOne K (.type (tyN d)) (.type "bool") = some (isB d) := by
  cases h with
  | non => exact kit_ty (by show kitB "NoneType" "bool" = some false; decide +kernel)
  | bl b => exact kit_ty (by show kitB "bool" "bool" = some true; decide +kernel)
  | int i => exact kit_ty (by show kitB "int" "bool" = some false; decide +kernel)
  | str x => exact kit_ty (by show kitB "str" "bool" = some false; decide +kernel)
  | lst e _ => exact kit_ty (by show kitB "list" "bool" = some false; decide +kernel)
  | tup e _ => exact kit_ty (by show kitB "tuple" "bool" = some false; decide +kernel)
theorem kit_tupl {K : PySem.W.Frag} {H : Hp} {v : V} {d : PyData} (h : Th H v d) : PySem.W.kitOne K (.type (tyN d)) (.type "tuple") = some (isT d) := by
  cases h with
  | non => exact kit_ty (by show kitB "NoneType" "tuple" = some false; decide +kernel)
  | bl b => exact kit_ty (by show kitB "bool" "tuple" = some false; decide +kernel)
  | int i => exact kit_ty (by show kitB "int" "tuple" = some false; decide +kernel)
  | str x => exact kit_ty (by show kitB "str" "tuple" = some false; decide +kernel)
  | lst e _ => exact kit_ty (by show kitB "list" "tuple" = some false; decide +kernel)
  | tup e _ => exact kit_ty (by show kitB "tuple" "tuple" = some true; decide +kernel)
theorem kit_str {K : PySem.W.Frag} {H : Hp} {v : V} {d : PyData} (h : Th H v d) : PySem.W.kitOne K (.type (tyN d)) (.type "str") = some (isS d) := by
  cases h with
  | non => exact kit_ty (by show kitB "NoneType" "str" = some false; decide +kernel)
  | bl b => exact kit_ty (by show kitB "bool" "str" = some false; decide +kernel)
  | int i => exact kit_ty (by show kitB "int" "str" = some false; decide +kernel)
  | str x => exact kit_ty (by show kitB "str" "str" = some true; decide +kernel)
  | lst e _ => exact kit_ty (by show kitB "list" "str" = some false; decide +kernel)
  | tup e _ => exact kit_ty (by show kitB "tuple" "str" = some false; decide +kernel)
theorem th_tup {H : Hp} {v : V} {d : PyData} (h : Th H v d) (t : isT d = true) : ∃ a xs ds, v = .ref a ∧ d = .tuple ds ∧ H a = some (.tup xs) ∧ ThAll H xs ds := by
  cases h with
  | tup e r => exact ⟨_, _, _, rfl, rfl, e, r⟩
  | _ => cases t
theorem plain_th {H : Hp} {v : V} {d : PyData} (t : Th H v d) : Plain H v := by
  cases t with
  | non => exact .non
  | bl b => exact .bl b
  | int i => exact .int i
  | str x => exact .str x
  | lst h _ => exact .lst h
  | tup h _ => exact .tup h
theorem intV_th {H : Hp} {v : V} {d : PyData} (t : Th H v d) : isIntV v = (isI d && !isB d) := by
  cases t <;> rfl

/-! ### texts by their signs: one sign replaced, words between blanks -/
section
open PySem.StrLaws PySem.Builtin PySem.Builtin.Str
def rpS (c : Nat) (z : Str) (a : Nat) : List Nat := if a = c then z.cps.toList else [a]
theorem rp_free (c : Nat) (z : Str) : ∀ l : List Nat, c ∉ l → l.flatMap (rpS c z) = l
  | [], _ => rfl
  | k :: r, h => by
    have h1 : ¬ k = c := fun e => h (e ▸ List.mem_cons_self)
    rw [List.flatMap_cons, rp_free c z r fun m => h (List.mem_cons_of_mem _ m), rpS, if_neg h1]
    rfl
theorem rp_join (c : Nat) (z : Str) : ∀ parts : List Str, (∀ p ∈ parts, c ∉ p.cps.toList) → (Str.join ⟨#[c]⟩ parts).cps.toList.flatMap (rpS c z) = (Str.join z parts).cps.toList
  | [], _ => rfl
  | [p], h => rp_free c z _ (h p (List.mem_singleton.mpr rfl))
  | p :: q :: r, h => by
    have ih := rp_join c z (q :: r) fun a ha => h a (List.mem_cons_of_mem _ ha)
    show (p ++ ⟨#[c]⟩ ++ Str.join ⟨#[c]⟩ (q :: r)).cps.toList.flatMap (rpS c z) = (p ++ z ++ Str.join z (q :: r)).cps.toList
    simp only [Str.cps_append, Array.toList_append]
    rw [List.flatMap_append, List.flatMap_append, ih, rp_free c z _ (h p List.mem_cons_self)]
    show p.cps.toList ++ [c].flatMap (rpS c z) ++ _ = _
    rw [List.flatMap_cons, List.flatMap_nil, List.append_nil, rpS, if_pos rfl]
theorem replace_signs (x z : Str) (c : Nat) : (Txt.replace x ⟨#[c]⟩ z).cps.toList = x.cps.toList.flatMap (rpS c z) := by
  rw [replace_one, ← rp_join c z _ (split_free x c), join_split]
/-- the words of a text, the one that is begun ahead -/
def wl : List Nat → List Nat → List (List Nat)
  | cur, [] => if cur = [] then [] else [cur]
  | cur, a :: r => if Unicode.isSpace a = true then (if cur = [] then wl [] r else cur :: wl [] r) else wl (cur ++ [a]) r
def subL (x : Str) (p : Nat × Nat) : List Nat := (strSub x p.1 p.2).cps.toList
theorem subL_eq (x : Str) (i j : Nat) : subL x (i, j) = (x.cps.toList.take j).drop i := by
  unfold subL strSub
  rw [Array.toList_extract]
  show ((x.cps.toList.drop i).take (j - i)) = _
  rw [List.drop_take]
theorem subL_next {x : Str} {b j : Nat} (h : b ≤ j) (hj : j < x.cps.toList.length) : subL x (b, j + 1) = subL x (b, j) ++ [x.cps.toList[j]] := by
  rw [subL_eq, subL_eq, List.take_add_one, List.getElem?_eq_getElem hj, List.drop_append_of_le_length (by rw [List.length_take]; omega)]
  rfl
theorem subL_ne {x : Str} {b j : Nat} (h : b < j) (hj : j ≤ x.cps.toList.length) : subL x (b, j) ≠ [] := fun z => by
  have := congrArg List.length z
  rw [subL_eq, List.length_drop, List.length_take, List.length_nil] at this
  omega
def curW (x : Str) (cur : Nat) : Option Nat → List Nat
  | some b => subL x (b, cur)
  | none => []
theorem len_toList (x : Str) : x.cps.toList.length = x.length := Array.length_toList
theorem sw_words (s : Str) (limit : Nat) (hl : s.length < limit) : ∀ (m cur : Nat) (st : SwSt), cur + m = s.length → SwOk s.length cur st → (∀ b, st.snd.snd = some b → b < cur) →
    (swEnd s (forIn (List.range' cur m) st (swBody s limit)).run).map (subL s) = st.snd.fst.toList.map (subL s) ++ wl (curW s cur st.snd.snd) (s.cps.toList.drop cur)
  | 0, cur, (r, words, st0), hm, h, hb => by
    have e : s.cps.toList.drop cur = [] := List.drop_eq_nil_of_le (by rw [len_toList]; omega)
    rw [e]
    have h1 : r = none := h.1
    subst h1
    show (swEnd s (none, words, st0)).map (subL s) = _
    unfold swEnd
    cases st0 with
    | none =>
      show words.toList.map (subL s) = words.toList.map (subL s) ++ wl [] []
      rw [wl, if_pos rfl, List.append_nil]
    | some b =>
      have hb := hb b rfl
      show (words.push (b, s.length)).toList.map (subL s) = words.toList.map (subL s) ++ wl (subL s (b, cur)) []
      rw [wl, if_neg (subL_ne hb (by rw [len_toList]; omega)), Array.toList_push, List.map_append, show cur = s.length by omega]
      rfl
  | m + 1, cur, (r, words, st0), hm, h, hb => by
    rw [List.range'_succ, List.forIn_cons]
    obtain ⟨h1, h2, h3⟩ := h
    have hsz : ¬ ((words.size == limit) = true) := by
      have a := len_le_wsum words.toList
      have b : words.toList.length = words.size := by simp
      have c : wsum words.toList ≤ cur := by
        cases st0 with
        | none => exact h3
        | some b => exact Nat.le_trans h3.2 h3.1
      rw [beq_iff_eq]; omega
    have hc : cur < s.cps.toList.length := by rw [len_toList]; omega
    have eg : s.cps.getD cur 0 = s.cps.toList[cur] := by
      have : cur < s.cps.size := by rw [← Array.length_toList]; exact hc
      simp [Array.getD, this]
    have ed : s.cps.toList.drop cur = s.cps.toList[cur] :: s.cps.toList.drop (cur + 1) := List.drop_eq_getElem_cons hc
    rw [ed, ← eg]
    unfold swBody
    simp only [hsz, if_false]
    cases st0 with
    | none =>
      cases hsp : Unicode.isSpace (s.cps.getD cur 0)
      · have z := sw_words s limit hl m (cur + 1) (none, words, some cur) (by omega) ⟨rfl, h2, Nat.le_succ cur, h3⟩ (fun b e => by cases e; omega)
        refine z.trans ?_
        show _ ++ wl (subL s (cur, cur + 1)) _ = _ ++ wl [] _
        rw [wl, hsp, if_neg (by decide), List.nil_append, subL_next (Nat.le_refl _) hc, ← eg, subL_eq, List.drop_eq_nil_of_le (by rw [List.length_take]; omega), List.nil_append]
      · have z := sw_words s limit hl m (cur + 1) (none, words, none) (by omega) ⟨rfl, h2, Nat.le_succ_of_le h3⟩ (fun b e => by cases e)
        refine z.trans ?_
        show _ ++ wl [] _ = _ ++ wl [] _
        rw [wl.eq_2 [], hsp, if_pos rfl, if_pos rfl]
    | some b =>
      have hb' := hb b rfl
      cases hsp : Unicode.isSpace (s.cps.getD cur 0)
      · have z := sw_words s limit hl m (cur + 1) (none, words, some b) (by omega) ⟨rfl, h2, Nat.le_succ_of_le h3.1, h3.2⟩ (fun b' e => by cases e; omega)
        refine z.trans ?_
        show _ ++ wl (subL s (b, cur + 1)) _ = _ ++ wl (subL s (b, cur)) _
        rw [wl.eq_2 (subL s (b, cur)), hsp, if_neg (by decide), subL_next (by omega) hc, ← eg]
      · have z := sw_words s limit hl m (cur + 1) (none, words.push (b, cur), none) (by omega) ⟨rfl, ?_, ?_⟩ (fun b' e => by cases e)
        · refine z.trans ?_
          show (words.push (b, cur)).toList.map (subL s) ++ wl [] _ = _ ++ wl (subL s (b, cur)) _
          rw [wl.eq_2 (subL s (b, cur)), hsp, if_pos rfl, if_neg (subL_ne hb' (by omega)), Array.toList_push, List.map_append, List.append_assoc]
          rfl
        · intro p hp
          rw [Array.toList_push, List.mem_append, List.mem_singleton] at hp
          rcases hp with hp | rfl
          · exact h2 p hp
          · show cur ≤ s.length
            omega
        · show wsum (words.push (b, cur)).toList ≤ cur + 1
          rw [Array.toList_push, wsum_snoc]
          have a1 : b ≤ cur := h3.1
          have a2 : wsum words.toList ≤ b := h3.2
          show wsum words.toList + (cur - b + 1) ≤ cur + 1
          omega
/-- the words that split() tells -/
theorem words_wl (x : Str) : (Txt.words x).map (fun w => w.cps.toList) = wl [] x.cps.toList := by
  have key := sw_words x (x.length + 1) (Nat.lt_succ_self _) x.length 0 ((none, #[], none) : SwSt) (by omega) ⟨rfl, fun p hp => by simp at hp, Nat.le_refl 0⟩ (fun b e => by cases e)
  rw [← sw_eq] at key
  rw [List.drop_zero] at key
  have key2 : (spaceWords x (x.length + 1)).map (subL x) = wl [] x.cps.toList := key
  unfold Txt.words
  by_cases h : (spaceWords x (x.length + 1) == [(0, x.length)]) = true
  · rw [if_pos h]
    have e := eq_of_beq h
    rw [e] at key2
    rw [← key2]
    show [x.cps.toList] = [subL x (0, x.length)]
    rw [subL_eq, List.drop_zero, ← len_toList, List.take_length]
  · rw [if_neg h, ← key2]
    unfold wordsOf
    rw [List.map_map]
    rfl
end

/-! ### the text of a part or a plan, and its words -/
def headW : List PyData → List Nat
  | .str w :: _ => w.cps.toList
  | _ => []
mutual
/-- the signs of its text -/
def showL : PyData → List Nat
  | .tuple es => headW es ++ 40 :: (showsTl es ++ [41])
  | _ => [49]
def showsTl : List PyData → List Nat
  | [] => []
  | _ :: ds => showsHd ds
def showsHd : List PyData → List Nat
  | [] => []
  | d :: ds => showL d ++ restsL ds
def restsL : List PyData → List Nat
  | [] => []
  | d :: ds => 32 :: (showL d ++ restsL ds)
end
mutual
/-- the words that are read -/
def toksD : PyData → List (List Nat)
  | .tuple es => (headW es ++ [40]) :: (toksTl es ++ [[41]])
  | _ => [[49]]
def toksTl : List PyData → List (List Nat)
  | [] => []
  | _ :: ds => toksAll ds
def toksAll : List PyData → List (List Nat)
  | [] => []
  | d :: ds => toksD d ++ toksAll ds
end
mutual
/-- ones, and tuples of a plain word and such -/
inductive Sy : PyData → Prop
  | one : Sy (.int 1)
  | tup {w : Str} {ds : List PyData} : (∀ a ∈ w.cps.toList, Unicode.isSpace a = false ∧ a ≠ 40 ∧ a ≠ 41) → SyAll ds → Sy (.tuple (.str w :: ds))
inductive SyAll : List PyData → Prop
  | nil : SyAll []
  | cons {d : PyData} {ds : List PyData} : Sy d → SyAll ds → SyAll (d :: ds)
end
/-- a sign behind both replacements -/
def gS (a : Nat) : List Nat := (rpS 40 "( " a).flatMap (rpS 41 " ) ")
theorem gS_o : gS 40 = [40, 32] := by decide +kernel
theorem gS_c : gS 41 = [32, 41, 32] := by decide +kernel
theorem gS_1 : gS 49 = [49] := by decide +kernel
theorem gS_b : gS 32 = [32] := by decide +kernel
theorem gS_w {a : Nat} (h : a ≠ 40) (k : a ≠ 41) : gS a = [a] := by
  unfold gS
  rw [rpS, if_neg h, List.flatMap_cons, List.flatMap_nil, List.append_nil, rpS, if_neg k]
theorem gS_word : ∀ {l : List Nat}, (∀ a ∈ l, Unicode.isSpace a = false ∧ a ≠ 40 ∧ a ≠ 41) → l.flatMap gS = l
  | [], _ => rfl
  | a :: l, h => by
    have ha := h a List.mem_cons_self
    rw [List.flatMap_cons, gS_w ha.2.1 ha.2.2, gS_word fun b hb => h b (List.mem_cons_of_mem _ hb)]
    rfl
theorem wl_word : ∀ {u : List Nat}, (∀ a ∈ u, Unicode.isSpace a = false) → ∀ (cur X : List Nat), wl cur (u ++ X) = wl (cur ++ u) X
  | [], _, cur, X => by rw [List.nil_append, List.append_nil]
  | a :: u, h, cur, X => by
    rw [List.cons_append, wl, h a List.mem_cons_self, if_neg (by decide), wl_word (fun b hb => h b (List.mem_cons_of_mem _ hb)), List.append_assoc]
    rfl
theorem sp32 : Unicode.isSpace 32 = true := by decide +kernel
theorem wl_sp (X : List Nat) : wl [] (32 :: X) = wl [] X := by
  rw [wl, sp32, if_pos rfl, if_pos rfl]
theorem wl_end {u : List Nat} (ne : u ≠ []) (X : List Nat) : wl u (32 :: X) = u :: wl [] X := by
  rw [wl, sp32, if_pos rfl, if_neg ne]
/-- nothing behind, or a blank -/
def Bl (l : List Nat) : Prop := l = [] ∨ ∃ r, l = 32 :: r
theorem wl_bl {u l : List Nat} (ne : u ≠ []) (h : Bl l) : wl u l = u :: wl [] l := by
  rcases h with rfl | ⟨r, rfl⟩
  · rw [wl, if_neg ne, wl, if_pos rfl]
  · rw [wl_end ne, wl_sp]
theorem bl_rest (ds : List PyData) {l : List Nat} (h : Bl l) : Bl ((restsL ds).flatMap gS ++ l) := by
  cases ds with
  | nil =>
    rw [restsL]
    exact h
  | cons d ds =>
    rw [restsL, List.flatMap_cons, gS_b]
    exact .inr ⟨_, rfl⟩
mutual
theorem words_D : ∀ {d : PyData}, Sy d → ∀ {l : List Nat}, Bl l → wl [] ((showL d).flatMap gS ++ l) = toksD d ++ wl [] l
  | _, .one, l, h => by
    rw [showL, List.flatMap_cons, gS_1, List.flatMap_nil, List.append_nil, wl_word (u := [49]) (by decide +kernel), List.nil_append, wl_bl (by simp) h]
    · rfl
    · intro _ z
      cases z
  | _, .tup (w := w) (ds := ds) hw r, l, h => by
    rw [showL, toksD, showsTl, toksTl, show headW (.str w :: ds) = w.cps.toList from rfl, List.flatMap_append, List.flatMap_cons, List.flatMap_append, gS_word hw, gS_o, List.flatMap_cons, gS_c, List.flatMap_nil, List.append_nil]
    have e : w.cps.toList ++ ([40, 32] ++ ((showsHd ds).flatMap gS ++ [32, 41, 32])) ++ l = (w.cps.toList ++ [40]) ++ (32 :: ((showsHd ds).flatMap gS ++ (32 :: ([41] ++ (32 :: l))))) := by simp
    rw [e, wl_word (u := w.cps.toList ++ [40]) (fun a ha => by
      rcases List.mem_append.mp ha with z | z
      · exact (hw a z).1
      · rw [List.mem_singleton.mp z]
        decide +kernel), List.nil_append, wl_end (by simp), words_Hd r (.inr ⟨_, rfl⟩), wl_sp, wl_word (u := [41]) (by decide +kernel), List.nil_append, wl_end (by simp)]
    simp
theorem words_Hd : ∀ {ds : List PyData}, SyAll ds → ∀ {l : List Nat}, Bl l → wl [] ((showsHd ds).flatMap gS ++ l) = toksAll ds ++ wl [] l
  | _, .nil, l, h => by
    rw [showsHd, toksAll]
    rfl
  | _, .cons (ds := ds) x r, l, h => by
    rw [showsHd, toksAll, List.flatMap_append, List.append_assoc, words_D x (bl_rest ds h), words_rest r h, List.append_assoc]
theorem words_rest : ∀ {ds : List PyData}, SyAll ds → ∀ {l : List Nat}, Bl l → wl [] ((restsL ds).flatMap gS ++ l) = toksAll ds ++ wl [] l
  | _, .nil, l, h => by
    rw [restsL, toksAll]
    rfl
  | _, .cons (ds := ds) x r, l, h => by
    rw [restsL, toksAll, List.flatMap_cons, gS_b, List.flatMap_append]
    show wl [] (32 :: ((showL _).flatMap gS ++ (restsL ds).flatMap gS ++ l)) = _
    rw [wl_sp, List.append_assoc, words_D x (bl_rest ds h), words_rest r h, List.append_assoc]
end
/-- the words of a part's text, blanks put in beside its signs -/
theorem words_show {d : PyData} (h : Sy d) {x : Str} (e : x.cps.toList = showL d) : (Txt.words (Txt.replace (Txt.replace x "(" "( ") ")" " ) ")).map (fun w => w.cps.toList) = toksD d := by
  rw [words_wl]
  have e1 : (Txt.replace (Txt.replace x "(" "( ") ")" " ) ").cps.toList = (showL d).flatMap gS := by
    have a := replace_signs (Txt.replace x "(" "( ") " ) " 41
    have b : (Txt.replace x "(" "( ").cps.toList = x.cps.toList.flatMap (rpS 40 "( ") := replace_signs x "( " 40
    refine Eq.trans a ?_
    rw [b, e, List.flatMap_assoc]
    rfl
  have z := words_D h (l := []) (.inl rfl)
  rw [List.append_nil] at z
  rw [e1, z, wl, if_pos rfl, List.append_nil]
/-! ### reading them: what stands open -/
/-- one word: the lists that stand open, the last one ahead -/
def stepW (st : List (List PyData)) (u : List Nat) : Option (List (List PyData)) :=
    if u.getLast? = some 40 then some ([.str ⟨u.dropLast.toArray⟩] :: st)
    else match st with
      | top :: nxt :: r => if u = [41] then some ((nxt ++ [.tuple top]) :: r) else if u = [49] then some ((top ++ [.int 1]) :: nxt :: r) else none
      | [top] => if u = [49] then some [top ++ [.int 1]] else none
      | [] => none
def runW : List (List Nat) → List (List PyData) → Option (List (List PyData))
  | [], st => some st
  | u :: us, st => (stepW st u).bind (runW us)
theorem runW_app : ∀ (a b : List (List Nat)) (st : List (List PyData)), runW (a ++ b) st = (runW a st).bind (runW b)
  | [], b, st => rfl
  | u :: a, b, st => by
    rw [List.cons_append, runW, runW]
    cases stepW st u with
    | none => rfl
    | some st' => exact runW_app a b st'
theorem step_one (top : List PyData) (r : List (List PyData)) : stepW (top :: r) [49] = some ((top ++ [.int 1]) :: r) := by
  unfold stepW
  rw [if_neg (by decide)]
  cases r with
  | nil => exact if_pos rfl
  | cons nxt r =>
    show (if ([49] : List Nat) = [41] then _ else if ([49] : List Nat) = [49] then _ else _) = _
    rw [if_neg (by decide), if_pos rfl]
theorem step_open (st : List (List PyData)) (u : List Nat) : stepW st (u ++ [40]) = some ([.str ⟨u.toArray⟩] :: st) := by
  unfold stepW
  rw [if_pos (by simp), List.dropLast_concat]
theorem step_close (top nxt : List PyData) (r : List (List PyData)) : stepW (top :: nxt :: r) [41] = some ((nxt ++ [.tuple top]) :: r) := by
  unfold stepW
  rw [if_neg (by decide)]
  exact if_pos rfl
mutual
theorem run_D : ∀ {d : PyData}, Sy d → ∀ (top : List PyData) (r : List (List PyData)), runW (toksD d) (top :: r) = some ((top ++ [d]) :: r)
  | _, .one, top, r => by
    rw [toksD, runW, step_one]
    · rfl
    · intro _ z
      cases z
  | _, .tup (w := w) (ds := ds) hw k, top, r => by
    rw [toksD, toksTl, runW, show headW (.str w :: ds) = w.cps.toList from rfl, step_open]
    show runW (toksAll ds ++ [[41]]) ([.str ⟨w.cps.toList.toArray⟩] :: top :: r) = _
    rw [runW_app, run_all k]
    show (stepW (_ :: top :: r) [41]).bind (runW []) = _
    rw [step_close]
    rfl
theorem run_all : ∀ {ds : List PyData}, SyAll ds → ∀ (top : List PyData) (r : List (List PyData)), runW (toksAll ds) (top :: r) = some ((top ++ ds) :: r)
  | _, .nil, top, r => by
    rw [toksAll, runW, List.append_nil]
  | _, .cons x k, top, r => by
    rw [toksAll, runW_app, run_D x]
    show runW (toksAll _) _ = _
    rw [run_all k, List.append_assoc]
    rfl
end

/-! ### what a part, what a plan is, of any thing -/
mutual
def gB : Nat → PyData → Bool
  | _, .int i => decide (i = 1)
  | k, .tuple ds => decide (0 < k) && joinedP (.tuple ds) && gTl (k - 1) ds
  | _, _ => false
def gTl : Nat → List PyData → Bool
  | _, [] => true
  | k, _ :: ds => gBAll k ds
def gBAll : Nat → List PyData → Bool
  | _, [] => true
  | k, d :: ds => gB k d && gBAll k ds
end
def planP : PyData → Bool
  | .tuple (.str w :: ds) => decide (ds ≠ []) && (decide (w = "pairs") || decide (w = "codes"))
  | _ => false
def tlP : PyData → List PyData
  | .tuple ds => ds.drop 1
  | _ => []
theorem joined_inv {d : PyData} (h : joinedP d = true) : ∃ w es, d = .tuple (.str w :: es) ∧ es ≠ [] ∧ (w = "sums" ∨ (w = "net" ∧ es.length = 2)) := by
  unfold joinedP at h
  split at h
  · rename_i w es
    rw [Bool.and_eq_true, Bool.or_eq_true, Bool.and_eq_true] at h
    refine ⟨w, es, rfl, of_decide_eq_true h.1, ?_⟩
    rcases h.2 with z | z
    · exact .inl (of_decide_eq_true z)
    · exact .inr ⟨of_decide_eq_true z.1, of_decide_eq_true z.2⟩
  · cases h
theorem plan_inv {d : PyData} (h : planP d = true) : ∃ w es, d = .tuple (.str w :: es) ∧ es ≠ [] ∧ (w = "pairs" ∨ w = "codes") := by
  unfold planP at h
  split at h
  · rename_i w es
    rw [Bool.and_eq_true, Bool.or_eq_true] at h
    refine ⟨w, es, rfl, of_decide_eq_true h.1, ?_⟩
    rcases h.2 with z | z
    · exact .inl (of_decide_eq_true z)
    · exact .inr (of_decide_eq_true z)
  · cases h
theorem joined_short {ds : List PyData} (h : ds.length < 2) : joinedP (.tuple ds) = false := by
  cases e : joinedP (.tuple ds) with
  | false => rfl
  | true =>
    obtain ⟨w, es, z, ne, _⟩ := joined_inv e
    cases z
    rw [List.length_cons] at h
    exact absurd (List.length_eq_zero_iff.mp (by omega)) ne
theorem plan_short {ds : List PyData} (h : ds.length < 2) : planP (.tuple ds) = false := by
  cases e : planP (.tuple ds) with
  | false => rfl
  | true =>
    obtain ⟨w, es, z, ne, _⟩ := plan_inv e
    cases z
    rw [List.length_cons] at h
    exact absurd (List.length_eq_zero_iff.mp (by omega)) ne
theorem str_beqd (x y : Str) : (x == y) = decide (x = y) := by
  by_cases h : x = y
  · rw [h, decide_eq_true rfl]
    exact beq_self_eq_true y
  · rw [decide_eq_false h]
    exact beq_eq_false_iff_ne.mpr h
theorem joined_eq {d : PyData} {es : List PyData} (ne : es ≠ []) : joinedP (.tuple (d :: es)) = (PyData.eqv d (.str "sums") || (PyData.eqv d (.str "net") && decide (es.length = 2))) := by
  rw [eqv_s1, eqv_s1]
  unfold joinedP
  cases d with
  | str w =>
    show (decide (es ≠ []) && (decide (w = "sums") || (decide (w = "net") && decide (es.length = 2)))) = ((w == "sums") || ((w == "net") && decide (es.length = 2)))
    rw [str_beqd, str_beqd, decide_eq_true ne, Bool.true_and]
  | _ => rfl
theorem plan_eq {d : PyData} {es : List PyData} (ne : es ≠ []) : planP (.tuple (d :: es)) = [PyData.str "pairs", PyData.str "codes"].any fun z => PyData.eqv z d := by
  rw [List.any_cons, List.any_cons, List.any_nil, eqv_s2, eqv_s2, Bool.or_false]
  unfold planP
  cases d with
  | str w =>
    show (decide (es ≠ []) && (decide (w = "pairs") || decide (w = "codes"))) = (("pairs" == w) || ("codes" == w))
    rw [str_beqd, str_beqd, decide_eq_true ne, Bool.true_and]
    congr 1
    · exact decide_eq_decide.mpr ⟨fun h => h.symm, fun h => h.symm⟩
    · exact decide_eq_decide.mpr ⟨fun h => h.symm, fun h => h.symm⟩
  | _ => rfl
theorem gB_tup {k : Nat} {w : Str} {es : List PyData} (j : joinedP (.tuple (.str w :: es)) = true) : gB (k + 1) (.tuple (.str w :: es)) = gBAll k es := by
  rw [gB, j, decide_eq_true (Nat.succ_pos k), Bool.true_and, Bool.true_and, gTl]
  rfl
theorem gB_no {k : Nat} {d : PyData} (h1 : d ≠ .int 1) (h : k = 0 ∨ joinedP d = false) : gB k d = false := by
  cases d with
  | int i =>
    rw [gB]
    exact decide_eq_false fun z => h1 (by rw [z])
  | tuple ds =>
    rw [gB]
    rcases h with rfl | h
    · rfl
    · rw [h, Bool.and_false, Bool.false_and]
  | _ => rw [gB] <;> (intros; rename_i z; cases z)
mutual
theorem gB_pos : ∀ (k : Nat) (d : PyData), gB k d = true → 1 ≤ onesP d
  | _, .int _, _ => Nat.le_refl _
  | k, .tuple ds, h => by
    rw [gB] at h
    rw [onesP]
    have h1 := Bool.and_eq_true_iff.mp h
    have h2 := (Bool.and_eq_true_iff.mp h1.1).2
    have := gTl_pos (k - 1) ds h1.2
    obtain ⟨w, es, z, ne, _⟩ := joined_inv h2
    cases z
    have : 1 ≤ es.length := List.length_pos_iff.mpr ne
    rw [List.length_cons] at *
    omega
  | _, .none, h => by rw [gB] at h <;> first | cases h | (intros; rename_i z; cases z)
  | _, .bool _, h => by rw [gB] at h <;> first | cases h | (intros; rename_i z; cases z)
  | _, .str _, h => by rw [gB] at h <;> first | cases h | (intros; rename_i z; cases z)
  | _, .list _, h => by rw [gB] at h <;> first | cases h | (intros; rename_i z; cases z)
  | _, .dict _, h => by rw [gB] at h <;> first | cases h | (intros; rename_i z; cases z)
theorem gTl_pos : ∀ (k : Nat) (ds : List PyData), gTl k ds = true → ds.length ≤ onesAll ds + 1
  | _, [], _ => Nat.zero_le _
  | k, d :: ds, h => by
    rw [gTl] at h
    have := gBAll_pos k ds h
    rw [onesAll, List.length_cons]
    omega
theorem gBAll_pos : ∀ (k : Nat) (ds : List PyData), gBAll k ds = true → ds.length ≤ onesAll ds
  | _, [], _ => Nat.zero_le _
  | k, d :: ds, h => by
    rw [gBAll] at h
    have h1 := Bool.and_eq_true_iff.mp h
    have a := gB_pos k d h1.1
    have b := gBAll_pos k ds h1.2
    rw [onesAll, List.length_cons]
    omega
end
theorem gBAll_all (k : Nat) : ∀ ds : List PyData, gBAll k ds = ds.all (gB k)
  | [] => by rw [gBAll, List.all_nil]
  | d :: ds => by rw [gBAll, List.all_cons, gBAll_all k ds]
/-- things with so many tuples around them -/
def PGB (ps : List (PyData × Nat)) : Bool := ps.all fun p => gB (60 - p.2) p.1
theorem PGB_snoc (ps : List (PyData × Nat)) (p : PyData × Nat) : PGB (ps ++ [p]) = (PGB ps && gB (60 - p.2) p.1) := by
  unfold PGB
  rw [List.all_append, List.all_cons, List.all_nil, Bool.and_true]
theorem PGB_put (ps : List (PyData × Nat)) (ds : List PyData) (o : Nat) : PGB (ps ++ ds.map fun d => (d, o)) = (PGB ps && gBAll (60 - o) ds) := by
  unfold PGB
  rw [List.all_append, gBAll_all, List.all_map]
  rfl
theorem PGB_len : ∀ {ps : List (PyData × Nat)}, PGB ps = true → ps.length ≤ onesPs ps
  | [], _ => Nat.zero_le _
  | p :: ps, h => by
    unfold PGB at h
    rw [List.all_cons, Bool.and_eq_true] at h
    have a := gB_pos _ _ h.1
    have b := PGB_len (ps := ps) h.2
    unfold onesPs at b ⊢
    rw [List.map_cons, onesAll, List.length_cons]
    omega
def layPs (ps : List (PyData × Nat)) : Prop := ∀ p ∈ ps, p.1.canLay0 = true
theorem lay_mem : ∀ {ds : List PyData}, PyData.canLayAll0 ds = true → ∀ d ∈ ds, d.canLay0 = true
  | d :: ds, h, x, hx => by
    rw [PyData.canLayAll0, Bool.and_eq_true] at h
    rcases List.mem_cons.mp hx with z | z
    · rw [z]
      exact h.1
    · exact lay_mem h.2 x z
theorem lay_of : ∀ {ds : List PyData}, (∀ d ∈ ds, d.canLay0 = true) → PyData.canLayAll0 ds = true
  | [], _ => by rw [PyData.canLayAll0]
  | d :: ds, h => by
    rw [PyData.canLayAll0, Bool.and_eq_true]
    exact ⟨h d List.mem_cons_self, lay_of fun x hx => h x (List.mem_cons_of_mem _ hx)⟩
/-- a pair of a thing and what is around it, in a heap of later -/
def PrR (H H' : Hp) (v : V) (p : PyData × Nat) : Prop := ∃ b y, v = .ref b ∧ H' b = some (.tup [y, .int p.2]) ∧ Th H y p.1
inductive PrAll (H H' : Hp) : List V → List (PyData × Nat) → Prop
  | nil : PrAll H H' [] []
  | cons {v : V} {p : PyData × Nat} {vs : List V} {ps : List (PyData × Nat)} : PrR H H' v p → PrAll H H' vs ps → PrAll H H' (v :: vs) (p :: ps)
theorem PrR.kt {H H' H'' : Hp} {v : V} {p : PyData × Nat} (s : KT H' H'') (h : PrR H H' v p) : PrR H H'' v p := by
  obtain ⟨b, y, e, hb, t⟩ := h
  exact ⟨b, y, e, s _ _ hb, t⟩
theorem PrAll.kt {H H' H'' : Hp} (s : KT H' H'') : ∀ {vs : List V} {ps : List (PyData × Nat)}, PrAll H H' vs ps → PrAll H H'' vs ps
  | _, _, .nil => .nil
  | _, _, .cons h r => .cons (h.kt s) (r.kt s)
theorem PrAll.len {H H' : Hp} : ∀ {vs : List V} {ps : List (PyData × Nat)}, PrAll H H' vs ps → vs.length = ps.length
  | _, _, .nil => rfl
  | _, _, .cons _ r => congrArg (· + 1) r.len
theorem PrAll.app {H H' : Hp} {ws : List V} {qs : List (PyData × Nat)} : ∀ {vs : List V} {ps : List (PyData × Nat)}, PrAll H H' vs ps → PrAll H H' ws qs → PrAll H H' (vs ++ ws) (ps ++ qs)
  | _, _, .nil, h => h
  | _, _, .cons x r, h => .cons x (r.app h)
theorem PrAll.snoc_inv {H H' : Hp} : ∀ {vs : List V} {v : V} {ps : List (PyData × Nat)}, PrAll H H' (vs ++ [v]) ps → ∃ qs p, ps = qs ++ [p] ∧ PrAll H H' vs qs ∧ PrR H H' v p
  | [], _, _, .cons h .nil => ⟨[], _, rfl, .nil, h⟩
  | x :: vs, _, _, .cons h r => by
    obtain ⟨es, d, e, a, b⟩ := r.snoc_inv
    exact ⟨_ :: es, d, by rw [e]; rfl, .cons h a, b⟩
theorem prAll_of {H H' : Hp} {o : Nat} : ∀ {ys : List V} {ds : List PyData}, ys.length = ds.length → (∀ (i : Nat) y, ys[i]? = some y → ∃ d, ds[i]? = some d ∧ PrR H H' y (d, o)) → PrAll H H' ys (ds.map fun d => (d, o))
  | [], [], _, _ => .nil
  | y :: ys, d :: ds, e, h => by
    obtain ⟨d', e', r⟩ := h 0 y rfl
    cases e'
    exact .cons r (prAll_of (Nat.succ.inj e) fun i y hy => h (i + 1) y hy)
def spJ : Sp := fun vs H Q _ => ∃ (v : V) (d : PyData), vs = [v] ∧ Th H v d ∧ d.canLay0 = true ∧ Q (.bl (joinedP d)) H
def spAreG : Sp := fun vs H Q _ => ∃ (a : Addr) (o : Nat) (xs : List V) (ds : List PyData), vs = [.ref a, .int o] ∧ H a = some (.tup xs) ∧ ThAll H xs ds ∧ PyData.canLayAll0 ds = true ∧ szAll ds ≤ 100000 ∧
  ∀ H', Same H H' → Q (.bl (gBAll (60 - o) ds && decide (onesAll ds ≤ 60))) H'
def spPart : Sp := fun vs H Q _ => ∃ (v : V) (d : PyData), vs = [v] ∧ Th H v d ∧ d.canLay0 = true ∧ szP d ≤ 90000 ∧ ∀ H', Same H H' → Q (.bl (gB 60 d && decide (onesP d ≤ 60))) H'
def spPlan : Sp := fun vs H Q _ => ∃ (v : V) (d : PyData), vs = [v] ∧ Th H v d ∧ d.canLay0 = true ∧ szP d ≤ 90000 ∧ ∀ H', Same H H' → Q (.bl (planP d && (gBAll 59 (tlP d) && decide (onesAll (tlP d) ≤ 60)))) H'
theorem strOk_of {w : Str} (h : PyData.canLay0 (.str w) = true) : PyData.canLay0 (.str w) = true := h
section
variable {P : Program} {w : World} {K : PySem.W.Frag} {mg : Str → Option Value} {base : Heap}
theorem has_isjoined (T : Top K mg) : Has P w K mg base 1 "_is_joined" ["thing"] spJ := by
  refine has_of T.d__is_joined sc__is_joined bd__is_joined (fun vs H Q E h => ?_) (fun f cdv A outer s H vs Q E hr h => ?_)
  · obtain ⟨v, d, rfl, _⟩ := h
    rfl
  · have hu := hu_of hr
    have nd := sc__is_joined.nd
    obtain ⟨v, d, rfl, th, lay, k⟩ := h
    refine ⟨_, (pss_cons (ps_if (PW.pt (pw_or (pt_not (pt_val (pe_callB call_isi (by rfl) T.b_isinstance (by decide +kernel) (pa_cons (pv 0) (pa_cons (pe_bltn (v := .ty "tuple") (u := .type "tuple") (by rfl) T.b_tuple (by decide +kernel) (by rfl)) pa_nil))))) (pw_or1 (pt_cmpR op_lt (pe_callB call_len_seq (by rfl) T.b_len (by decide +kernel) (pa_cons (pv 0) pa_nil)) pe_int (nomark _))))) (pss_one (ps_ret pe_bl)) pss_nil)
    (pss_one (ps_ret (pe_or (pe_cmpR (op_eqS hr.units) (pe_ix ix_tup (pv 0) pe_int (fun _ _ => rfl)) pe_str (nomark _)) (pe_one (pe_and (pe_cmpR (op_eqS hr.units) (pe_ix ix_tup (pv 0) pe_int (fun _ _ => rfl)) pe_str (nomark _)) (pe_one (pe_cmpR op_eq (pe_callB call_len_seq (by rfl) T.b_len (by decide +kernel) (pa_cons (pv 0) pa_nil)) pe_int (nomark _))))))))), ?_⟩
    refine ⟨_, rfl, _, .ty "tuple", _, _, _, rfl, .ty _, th_ty th, kit_tupl th, _, rfl, ?_⟩
    cases ht : isT d with
    | false =>
      refine iteT (iteT ?_)
      have e : joinedP d = false := by
        cases d <;> first | rfl | cases ht
      rw [e] at k
      exact k
    | true =>
      obtain ⟨a, xs, ds, rfl, rfl, ha, tr⟩ := th_tup th ht
      have lx := tr.len
      refine iteF ⟨_, rfl, a, _, rfl, .inr (SqT.of ha), _, _, rfl, rfl, _, rfl, ite2 (fun c0 => ?_) (fun c0 => ?_)⟩
      · have c := of_decide_eq_true c0
        rw [joined_short (by omega)] at k
        exact k
      · replace c0 : ¬ ((xs.length : Nat) : Int) < 2 := fun z => c0 (decide_eq_true z)
        cases tr with
        | nil => exact absurd (by decide) c0
        | cons h1 h2 =>
          rename_i v0 xs d0 es
          have l2 := h2.len
          have ne : es ≠ [] := fun z => by
            rw [z] at l2
            rw [List.length_cons, l2] at c0
            exact c0 (by decide)
          rw [joined_eq ne] at k
          have hat : atI (v0 :: xs) 0 = some v0 := at_of (j := 0) rfl rfl
          rw [PyData.canLay0, PyData.canLayAll0, Bool.and_eq_true] at lay
          refine ⟨_, rfl, a, _, _, _, rfl, rfl, SqT.of ha, hat, d0, .str "sums", h1.dp, .str _, lay.1, by decide +kernel, by rfl, PyData.eqv d0 (.str "sums"), rfl, ?_⟩
          cases h0 : PyData.eqv d0 (.str "sums") with
          | true =>
            rw [h0] at k
            exact iteT k
          | false =>
            rw [h0, Bool.false_or] at k
            refine iteF ⟨_, rfl, a, _, _, _, rfl, rfl, SqT.of ha, hat, d0, .str "net", h1.dp, .str _, lay.1, by decide +kernel, by rfl, PyData.eqv d0 (.str "net"), rfl, ?_⟩
            cases h3 : PyData.eqv d0 (.str "net") with
            | false =>
              rw [h3] at k
              exact iteF k
            | true =>
              rw [h3, Bool.true_and] at k
              refine iteT ⟨_, rfl, a, _, rfl, .inr (SqT.of ha), rfl, ?_⟩
              have e3 : decide (V.int ((v0 :: xs).length : Nat) = V.int 3) = decide (es.length = 2) := by
                refine decide_eq_decide.mpr ⟨fun y => ?_, fun y => ?_⟩
                · have y2 := V.int.inj y
                  rw [List.length_cons] at y2
                  omega
                · rw [List.length_cons, l2, y]
                  rfl
              show Q (.bl (decide (V.int ((v0 :: xs).length : Nat) = V.int 3))) H
              rw [e3]
              exact k
end

/-! ### plans as texts, written -/
def showS (d : PyData) : Str := SX.S (showL d)
theorem showS_len (d : PyData) : (showS d).length = (showL d).length := by
  unfold showS
  show (showL d).toArray.size = _
  exact List.size_toArray
theorem joinL_rest : ∀ (d : PyData) (ds : List PyData), TL.joinL [32] ((d :: ds).map showL) = showL d ++ restsL ds
  | d, [] => by
    rw [restsL, List.append_nil]
    rfl
  | d, e :: ds => by
    rw [restsL, ← joinL_rest e ds]
    rfl
theorem joinL_show (ds : List PyData) : TL.joinL [32] (ds.map showL) = showsHd ds := by
  cases ds with
  | nil =>
    rw [showsHd]
    rfl
  | cons d ds => rw [joinL_rest, showsHd]
theorem join_show (ds : List PyData) : Txt.join " " (ds.map showS) = SX.S (showsHd ds) := by
  have e := SX.join_S [32] (ds.map showL)
  rw [joinL_show, List.map_map] at e
  exact e
theorem rests_len : ∀ ds : List PyData, ((ds.map showS).map (·.length)).sum + ds.length = (restsL ds).length
  | [] => by rw [restsL]; rfl
  | d :: ds => by
    rw [restsL, List.map_cons, List.map_cons, List.sum_cons, List.length_cons, List.length_cons, List.length_append, ← rests_len ds, showS_len]
    omega
theorem hd_len : ∀ ds : List PyData, ((ds.map showS).map (·.length)).sum + ds.length ≤ (showsHd ds).length + 1
  | [] => Nat.zero_le _
  | d :: ds => by
    have := rests_len ds
    rw [showsHd, List.map_cons, List.map_cons, List.sum_cons, List.length_cons, List.length_append, showS_len]
    omega
theorem show_mem : ∀ {ds : List PyData} (d : PyData), d ∈ ds → (showL d).length ≤ (showsHd ds).length ∧ d.depth ≤ PyData.depthAll ds
  | x :: ds, d, h => by
    rw [PyData.depthAll]
    rcases List.mem_cons.mp h with z | z
    · rw [z, showsHd, List.length_append]
      omega
    · have a := show_mem d z
      have b := hd_len ds
      have c := rests_len ds
      have e : (showsHd ds).length ≤ (restsL ds).length := by
        cases ds with
        | nil => cases z
        | cons y ds =>
          rw [showsHd, restsL, List.length_cons]
          omega
      rw [showsHd, List.length_append]
      omega
theorem str_ext {x y : Str} (h : x.cps.toList = y.cps.toList) : x = y := by
  rw [← SX.S_tl x, ← SX.S_tl y, h]
theorem show_tup (w : Str) (ds : List PyData) : showL (.tuple (.str w :: ds)) = w.cps.toList ++ 40 :: (showsHd ds ++ [41]) := by
  rw [showL, showsTl]
  rfl
theorem sy_all : ∀ {ds : List PyData}, SyAll ds → ∀ d ∈ ds, Sy d
  | _, .cons x r, d, h => by
    rcases List.mem_cons.mp h with z | z
    · rw [z]
      exact x
    · exact sy_all r d z
def spShow (n : Nat) : Sp := fun vs H Q _ => ∃ (v : V) (d : PyData), vs = [v] ∧ Tp H v d ∧ Sy d ∧ d.canLay0 = true ∧ d.depth + 1 ≤ n ∧ (showL d).length ≤ 100000 ∧ ∀ H', Same H H' → Q (.str (showS d)) H'
section
variable {P : Program} {w : World} {K : PySem.W.Frag} {mg : Str → Option Value} {base : Heap}
theorem has_u {k : Nat} {x : Str} {ps : List Str} {sp : Sp} (h : HasU P w K mg base k x ps sp) : Has P w K mg base k x ps sp := by
  obtain ⟨f, fd, hm, hk, hb, F⟩ := h.ex
  exact ⟨f, fd, hm, hk, hb, F.len, fun A outer s H args us vs Q E hr e0 b r h => codeAny_mono (F.run A outer s H args us vs Q E hr e0 b r h) fun _ _ z => z.2⟩
theorem has_show (T : Top K mg) : ∀ n, Has P w K mg base n "show_plan" ["part"] (spShow n)
  | 0 => has_zero T.d_show_plan bd_show_plan fun vs H Q E h => by
      obtain ⟨v, d, _, _, _, _, h1, _⟩ := h
      omega
  | n + 1 => by
    have h_show_plan := has_show T n
    refine has_of (k := n) T.d_show_plan sc_show_plan bd_show_plan (fun vs H Q E h => ?_) (fun f cdv A outer s H vs Q E hr h => ?_)
    · obtain ⟨v, d, rfl, _⟩ := h
      rfl
    · have hu := hu_of hr
      have nd := sc_show_plan.nd
      obtain ⟨v, d, rfl, tv, sy, lay, lv, few, k⟩ := h
      refine ⟨_, (pss_cons (ps_if (pt_not (pt_val (pe_callB call_isi (by rfl) T.b_isinstance (by decide +kernel) (pa_cons (pv 0) (pa_cons (pe_bltn (v := .ty "tuple") (u := .type "tuple") (by rfl) T.b_tuple (by decide +kernel) (by rfl)) pa_nil))))) (pss_one (ps_ret pe_str)) pss_nil)
    (pss_cons (ps_set (i := 1) nd rfl (.inl rfl) (pe_joinK (K := K) rfl pe_str (pe_lc (own := [("one", 2)]) (by rfl) nd (pi_tup (pe_slice sl_tupA (pv 0) (po_some pe_int) po_none)) (blkOk_by (own := [("one", 2)]) (N := nm_show_plan) (sc := defScope s_show_plan) (by decide +kernel)) (fun _ _ _ _ _ => pg_name (i := 2) nd rfl (.inl rfl)) (fun _ _ _ _ _ => pts_nil) (fun _ _ _ _ _ => (pe_has h_show_plan (hr.mono (by omega)) (by rfl) (pa_cons (pv 2) pa_nil))))))
    (pss_one (ps_ret (pe_joined (.cons (pe_fmtN (pe_ix ix_tup (pv 0) pe_int (fun _ _ => rfl))) (.cons pe_str (.cons (pe_fmtN (pv 1)) (.cons pe_str .nil))))))))), ?_⟩
      have line : (200000 : Nat) < sizeLine := by decide
      refine ⟨_, rfl, _, .ty "tuple", _, _, _, rfl, .ty _, th_ty tv.th, kit_tupl tv.th, _, rfl, ?_⟩
      cases sy with
      | one =>
        refine iteT ?_
        have e : showS (.int 1) = ("1" : Str) := str_ext (by
          unfold showS
          rw [showL]
          · decide +kernel
          · intro _ z
            cases z)
        rw [e] at k
        exact k _ (Same.refl _)
      | tup hw sa =>
        rename_i w' ds
        refine iteF ?_
        cases tv with
        | tup ha tr =>
          rename_i a xs
          cases tr with
          | cons t1 tr =>
            rename_i v0 xs
            cases t1
            have lx := tr.len
            rw [show_tup, List.length_append, List.length_cons, List.length_append] at few
            have hl := hd_len ds
            rw [PyData.canLay0, PyData.canLayAll0, Bool.and_eq_true] at lay
            rw [PyData.depth, PyData.depthAll] at lv
            refine ⟨⟨_, rfl⟩, _, rfl, 1, rfl, piece_dropC (i := 1) rfl ha fun H3 p3 s3 hp3 => ?_⟩
            rw [List.drop_succ_cons, List.drop_zero] at hp3
            refine ⟨p3, rfl, ⟨_, SqT.of hp3⟩, fun D hD => lc_relT (fun i y _ => ∃ e, ds[i]? = some e ∧ y = .str (showS e)) (fun _ _ _ _ r _ => r) (fun _ _ _ _ _ _ r => r) (SqT.of hp3) hD (by omega) (fun x => rfl) (fun i x hx H1 s1 R g => ?_) (fun H1 ys s1 hD1 ly ry => ?_)⟩
            · obtain ⟨e, he, te⟩ : ∃ e, ds[i]? = some e ∧ Tp H1 x e := by
                have hi : i < ds.length := by
                  rw [← lx]
                  exact (List.getElem?_eq_some_iff.mp hx).1
                obtain ⟨v', hv', tv'⟩ := tr.get (List.getElem?_eq_getElem hi)
                rw [hx] at hv'
                cases hv'
                exact ⟨_, List.getElem?_eq_getElem hi, tv'.kt (KT.same (s3.trans s1))⟩
              have me := List.mem_of_getElem? he
              have sm := show_mem e me
              exact ⟨_, rfl, x, e, rfl, te, sy_all sa e me, lay_mem lay.2 e me, by omega, by omega, fun H' s' => g _ _ s' ⟨e, he, rfl⟩⟩
            · have ey : ys = (ds.map showS).map V.str := by
                refine eq_of_get (by rw [List.length_map, List.length_map, ly, lx]) fun i y hy => ?_
                obtain ⟨e, he, rfl⟩ := ry i y hy
                rw [List.getElem?_map, List.getElem?_map, he]
                rfl
              subst ey
              refine ⟨_, D, ds.map showS, rfl, rfl, .inl (SqL.of hD1), by rw [List.length_map]; show _ + ds.length * 1 ≤ _; omega, ?_⟩
              rw [join_show]
              have ha1 := s1 _ _ (s3 _ _ ha)
              have hat : atI (V.str w' :: xs) 0 = some (.str w') := at_of (j := 0) rfl rfl
              have lw : w'.length = w'.cps.toList.length := (Array.length_toList).symm
              have li : (SX.S (showsHd ds)).length = (showsHd ds).length := by
                show (showsHd ds).toArray.size = _
                exact List.size_toArray
              have l1 : ∀ x y : Str, (x ++ y).length = x.length + y.length := fun x y => Str.length_append x y
              refine ⟨_, rfl, a, _, _, _, rfl, rfl, SqT.of ha1, hat, .inl ⟨w', rfl, by omega, w', rfl, ?_, "(", rfl, ?_, _, rfl, .inl ⟨SX.S (showsHd ds), rfl, by omega, SX.S (showsHd ds), rfl, ?_, ")", rfl, ?_, ?_⟩⟩⟩
              · rw [l1]
                show 0 + _ ≤ _
                omega
              · rw [l1, l1]
                show 0 + _ + 1 ≤ _
                omega
              · rw [l1, l1, l1]
                show 0 + _ + 1 + _ ≤ _
                omega
              · rw [l1, l1, l1, l1]
                show 0 + _ + 1 + _ + 1 ≤ _
                omega
              · have e : Str.empty ++ w' ++ ("(" : Str) ++ SX.S (showsHd ds) ++ (")" : Str) = showS (.tuple (.str w' :: ds)) := str_ext (by
                  unfold showS
                  rw [show_tup]
                  simp only [Str.cps_append, Array.toList_append]
                  show [] ++ w'.cps.toList ++ [40] ++ showsHd ds ++ [41] = _
                  simp)
                show Q (.str (Str.empty ++ w' ++ ("(" : Str) ++ SX.S (showsHd ds) ++ (")" : Str))) H1
                rw [e]
                exact k _ (s3.trans s1)
end

/-! ### size_of -/
def spSize : Sp := fun vs H Q _ => ∃ (v : V) (d : PyData), vs = [v] ∧ Tp H v d ∧ Wt d ∧ szP d ≤ 100000 ∧ ∀ H', Same H H' → Q (.int (onesP d)) H'
section
variable {P : Program} {w : World} {K : PySem.W.Frag} {mg : Str → Option Value} {base : Heap}
theorem has_size (T : Top K mg) : Has P w K mg base 1 "size_of" ["part"] spSize := by
  refine has_of T.d_size_of sc_size_of bd_size_of (fun vs H Q E h => ?_) (fun f cdv A outer s H vs Q E hr h => ?_)
  · obtain ⟨v, d, rfl, _⟩ := h
    rfl
  · have hu := hu_of hr
    have nd := sc_size_of.nd
    obtain ⟨v, d, rfl, tp, wt, few, k⟩ := h
    refine ⟨_, (pss_cons (ps_set (i := 1) nd rfl (.inl rfl) pe_int)
    (pss_cons (ps_set (i := 2) nd rfl (.inl rfl) (pe_lst (pa_cons (pv 0) pa_nil)))
    (pss_cons (ps_while PassesOwn.never (pt_truth (pv 2) (by intro _; rfl)) (pss_cons (ps_set (i := 3) nd rfl (.inl rfl) (pe_bm0 PySem.F.plainAttrs_list PySem.F.slot_list_pop PySem.F.type_list_pop mt_pop (pv 2)))
    (pss_one (ps_if (pt_val (pe_callB call_isi (by rfl) T.b_isinstance (by decide +kernel) (pa_cons (pv 3) (pa_cons (pe_bltn (v := .ty "tuple") (u := .type "tuple") (by rfl) T.b_tuple (by decide +kernel) (by rfl)) pa_nil)))) (pss_one (ps_expr (pe_bm PySem.F.plainAttrs_list PySem.F.slot_list_extend PySem.F.type_list_extend mt_extendT (pv 2) (pa_cons (pe_slice sl_tupA (pv 3) (po_some pe_int) po_none) pa_nil)))) (pss_one (ps_aug (i := 1) nd rfl (.inl rfl) pe_int ip_add))))))
    (pss_one (ps_ret (pv 1)))))), ?_⟩
    have line : (200000 : Nat) < sizeLine := by decide
    refine ⟨_, rfl, by show 1 ≤ sizeLine; decide, fun W nW => ?_⟩
    refine ⟨fun m σ H' => ∃ (v3 : Option V) (n : Nat) (vs : List V) (ds : List PyData), m = szAll ds ∧ σ = [some v, some (.int n), some (.ref W), v3] ∧ Same H H' ∧ H' W = some (.lst vs) ∧ TpAll H' vs ds ∧ WtAll ds ∧ n + onesAll ds = onesP d ∧ szAll ds ≤ 100000, ⟨szAll [d], none, 0, [v], [d], rfl, rfl, same_new nW, upd_same, .cons (tp.kt (KT.new nW)) .nil, .cons wt .nil, ?_, ?_⟩, ?_⟩
    · rw [onesAll, onesAll]
      omega
    · rw [szAll, szAll]
      omega
    rintro m σ H' ⟨v3, n, vs, ds, rfl, rfl, s, hW, tpa, wta, on, few2⟩
    have lvs := tpa.len
    have lsz := len_sz ds
    refine ⟨_, rfl, _, .inl ⟨vs, SqL.of hW, rfl⟩, ?_⟩
    by_cases e : vs = []
    · subst e
      cases tpa
      exact iteF ⟨_, rfl, by have z : n + 0 = onesP d := on; rw [Nat.add_zero] at z; rw [← z] at k; exact k _ s⟩
    obtain ⟨vs, y, rfl⟩ := snoc_of2 e
    obtain ⟨es, x, rfl, tpb, tpx⟩ := tpa.snoc_inv
    obtain ⟨wtb, wtx⟩ := wta.snoc_inv
    clear tpa wta
    have ne : (!(vs ++ [y]).isEmpty) = true := by cases vs <;> rfl
    rw [ne]
    refine iteT ⟨_, fun σ' H' h => h, ?_⟩
    refine ⟨_, rfl, .inl ⟨rfl, _, SqL.of hW⟩, W, _, y, rfl, rfl, hW, last_snoc, ?_⟩
    rw [dropLast_snoc]
    have k2 : KT H' (upd H' W (.lst vs)) := .lst hW
    have s2 : Same H (upd H' W (.lst vs)) := same_mut s nW
    have hW2 : (upd H' W (.lst vs)) W = some (.lst vs) := upd_same
    replace tpb := tpb.kt k2
    replace tpx := tpx.kt k2
    generalize upd H' W (.lst vs) = H2 at s2 hW2 tpb tpx
    rw [onesAll_app, onesAll, onesAll] at on
    rw [szAll_app, szAll, szAll] at few2
    rw [szAll_app, szAll, szAll]
    have lv := tpb.len
    have lz := len_sz es
    have px := szP_pos x
    rcases wt_cases tpx wtx with ⟨rfl, rfl⟩ | ⟨a, w', xs, ds, rfl, rfl, ha, tr, wr, ne'⟩
    · refine ⟨_, rfl, _, .ty "tuple", _, _, _, rfl, .ty _, ty_int, kt_int, _, rfl, iteF ?_⟩
      refine ⟨_, rfl, _, _, rfl, rfl, szAll es, by omega, _, n + 1, vs, es, rfl, rfl, s2, hW2, tpb, wtb, ?_, by omega⟩
      rw [onesP] at on
      omega
    · refine ⟨_, rfl, _, .ty "tuple", _, _, _, rfl, .ty _, ty_tup ha, kt_tup, _, rfl, iteT ?_⟩
      rw [szP, szAll] at few2 ⊢
      rw [onesP, onesAll, show onesP (.str w') = 0 from rfl, Nat.zero_add] at on
      have lr := tr.len
      have ls := len_sz ds
      refine ⟨_, rfl, .inl ⟨rfl, _, SqL.of hW2⟩, _, rfl, 1, rfl, piece_dropC (i := 1) rfl ha fun H3 p s3' hp3 => ?_⟩
      rw [List.drop_succ_cons, List.drop_zero] at hp3
      have hW3 := s3' _ _ hW2
      have s3 := s2.trans s3'
      refine ⟨W, p, vs, xs, rfl, rfl, hW3, SqT.of hp3, by omega, szAll (es ++ ds), ?_, _, n, vs ++ xs, es ++ ds, rfl, rfl, same_mut s3 nW, upd_same, ?_, wtb.app wr, ?_, ?_⟩
      · rw [szAll_app]
        omega
      · exact ((tpb.app tr).kt (KT.same s3')).kt (KT.lst hW3)
      · rw [onesAll_app]
        omega
      · rw [szAll_app]
        omega
end

/-! ### plans as texts, written by the law -/
theorem eqv_tup1 (ds : List PyData) (i : Int) : PyData.eqv (.tuple ds) (.int i) = false := by simp only [PyData.eqv]
section
variable {P : Program} {w : World} {K : PySem.W.Frag} {mg : Str → Option Value} {base : Heap}
theorem writtenU (T : Top K mg) {n : Nat} (h__law_written : Has P w K mg base n "_law_written" ["_law_part_here"] (spShow n)) : HasU P w K mg base (n + 1) "_law_written" ["_law_part_here"] (spShow (n + 1)) := by
  refine has_ofU (k := n) T.d__law_written sc__law_written bd__law_written (fun vs H Q E h => ?_) (fun f cdv A outer s H vs Q E hr h => ?_)
  · obtain ⟨v, d, rfl, _⟩ := h
    rfl
  · have hu := hu_of hr
    have nd := sc__law_written.nd
    obtain ⟨v, d, rfl, tv, sy, lay, lv, few, k⟩ := h
    refine ⟨_, (psu_if (pt_cmpR (op_eqS hr.units) (pv 0) pe_int (nomark _)) (psu_ret peu_str) (psu_ret (peu_op op_add_str (pe_op op_add_str (pe_op op_add_str (pe_ix ix_tup (pv 0) pe_int (fun _ _ => rfl)) pe_str) (pe_joinK (K := K) rfl pe_str (pe_lc (own := [("_law_one", 1)]) (by rfl) nd (pi_tup (pe_slice sl_tupA (pv 0) (po_some pe_int) po_none)) (blkOk_by (own := [("_law_one", 1)]) (N := nm__law_written) (sc := defScope s__law_written) (by decide +kernel)) (fun _ _ _ _ _ => pg_name (i := 1) nd rfl (.inl rfl)) (fun _ _ _ _ _ => pts_nil) (fun _ _ _ _ _ => (pe_has h__law_written (hr.mono (by omega)) (by rfl) (pa_cons (pv 1) pa_nil)))))) peu_str))), ?_⟩
    have line : (200000 : Nat) < sizeLine := by decide
    refine ⟨_, rfl, d, .int 1, tv.dp, .int 1, lay, rfl, by rfl, _, rfl, ?_⟩
    cases sy with
    | one =>
      refine iteT ?_
      have e : showS (.int 1) = ("1" : Str) := str_ext (by
        unfold showS
        rw [showL]
        · decide +kernel
        · intro _ z
          cases z)
      rw [e] at k
      exact k _ (Same.refl _)
    | tup hw sa =>
      rename_i w' ds
      rw [eqv_tup1]
      refine iteF ?_
      cases tv with
      | tup ha tr =>
        rename_i a xs
        cases tr with
        | cons t1 tr =>
          rename_i v0 xs
          cases t1
          have lx := tr.len
          rw [show_tup, List.length_append, List.length_cons, List.length_append] at few
          have hl := hd_len ds
          rw [PyData.canLay0, PyData.canLayAll0, Bool.and_eq_true] at lay
          rw [PyData.depth, PyData.depthAll] at lv
          have hat : atI (V.str w' :: xs) 0 = some (.str w') := at_of (j := 0) rfl rfl
          have lw : w'.length = w'.cps.toList.length := (Array.length_toList).symm
          have li : (SX.S (showsHd ds)).length = (showsHd ds).length := by
            show (showsHd ds).toArray.size = _
            exact List.size_toArray
          have l1 : ∀ x y : Str, (x ++ y).length = x.length + y.length := fun x y => Str.length_append x y
          refine ⟨_, rfl, a, _, _, _, rfl, rfl, SqT.of ha, hat, _, _, rfl, rfl, by show _ + 1 ≤ _; omega, ⟨_, rfl⟩, _, rfl, 1, rfl, piece_dropC (i := 1) rfl ha fun H3 p3 s3 hp3 => ?_⟩
          rw [List.drop_succ_cons, List.drop_zero] at hp3
          refine ⟨p3, rfl, ⟨_, SqT.of hp3⟩, fun D hD => lc_relT (fun i y _ => ∃ e, ds[i]? = some e ∧ y = .str (showS e)) (fun _ _ _ _ r _ => r) (fun _ _ _ _ _ _ r => r) (SqT.of hp3) hD (by omega) (fun x => rfl) (fun i x hx H1 s1 R g => ?_) (fun H1 ys s1 hD1 ly ry => ?_)⟩
          · obtain ⟨e, he, te⟩ : ∃ e, ds[i]? = some e ∧ Tp H1 x e := by
              have hi : i < ds.length := by
                rw [← lx]
                exact (List.getElem?_eq_some_iff.mp hx).1
              obtain ⟨v', hv', tv'⟩ := tr.get (List.getElem?_eq_getElem hi)
              rw [hx] at hv'
              cases hv'
              exact ⟨_, List.getElem?_eq_getElem hi, tv'.kt (KT.same (s3.trans s1))⟩
            have me := List.mem_of_getElem? he
            have sm := show_mem e me
            exact ⟨_, rfl, x, e, rfl, te, sy_all sa e me, lay_mem lay.2 e me, by omega, by omega, fun H' s' => g _ _ s' ⟨e, he, rfl⟩⟩
          · have ey : ys = (ds.map showS).map V.str := by
              refine eq_of_get (by rw [List.length_map, List.length_map, ly, lx]) fun i y hy => ?_
              obtain ⟨e, he, rfl⟩ := ry i y hy
              rw [List.getElem?_map, List.getElem?_map, he]
              rfl
            subst ey
            refine ⟨_, D, ds.map showS, rfl, rfl, .inl (SqL.of hD1), by rw [List.length_map]; show _ + ds.length * 1 ≤ _; omega, ?_⟩
            rw [join_show]
            refine ⟨_, _, rfl, rfl, ?_, _, _, rfl, rfl, ?_, ?_⟩
            · rw [l1]
              show _ + 1 + _ ≤ _
              omega
            · rw [l1, l1]
              show _ + 1 + _ + 1 ≤ _
              omega
            · have e : w' ++ ("(" : Str) ++ SX.S (showsHd ds) ++ (")" : Str) = showS (.tuple (.str w' :: ds)) := str_ext (by
                unfold showS
                rw [show_tup]
                simp only [Str.cps_append, Array.toList_append]
                show w'.cps.toList ++ [40] ++ showsHd ds ++ [41] = _
                simp)
              rw [e]
              exact k _ (s3.trans s1)
theorem has_written (T : Top K mg) : ∀ n, HasU P w K mg base (n + 1) "_law_written" ["_law_part_here"] (spShow (n + 1))
  | 0 => writtenU T (has_zero T.d__law_written bd__law_written fun vs H Q E h => by
      obtain ⟨v, d, _, _, _, _, h1, _⟩ := h
      omega)
  | n + 1 => writtenU T (has_u (has_written T n))
end

/-! ### what stands open while a text is read -/
theorem concat_of {α : Type} (l : List α) : l = [] ∨ ∃ r y, l = r ++ [y] := by
  cases l with
  | nil => exact .inl rfl
  | cons a l => exact .inr ⟨_, _, (List.dropLast_concat_getLast (List.cons_ne_nil a l)).symm⟩
theorem ends_open (w : Str) : Txt.endswith w "(" = decide (w.cps.toList.getLast? = some 40) := by
  have lw : w.length = w.cps.toList.length := (Array.length_toList).symm
  unfold Txt.endswith
  show (decide (0 + 1 ≤ w.length) && PySem.Builtin.Str.subAt w "(" (w.length - 1)) = _
  unfold PySem.Builtin.Str.subAt
  show (decide (0 + 1 ≤ w.length) && (w.cps.extract (w.length - 1) (w.length - 1 + 1) == #[40])) = _
  rcases concat_of w.cps.toList with h | ⟨r, y, h⟩
  · rw [h] at lw ⊢
    rw [lw]
    rfl
  · have lr : w.length = r.length + 1 := by rw [lw, h, List.length_append]; rfl
    have ex : w.cps.extract (w.length - 1) (w.length - 1 + 1) = #[y] := by
      apply Array.toList_inj.mp
      rw [Array.toList_extract, h, lr, Nat.add_sub_cancel]
      show ((r ++ [y]).drop r.length).take (r.length + 1 - r.length) = [y]
      rw [List.drop_append_of_le_length (Nat.le_refl _), List.drop_length, List.nil_append, show r.length + 1 - r.length = 1 by omega]
      rfl
    rw [ex, decide_eq_true (show 0 + 1 ≤ w.length by omega), Bool.true_and, h, List.getLast?_append]
    show (#[y] == #[40]) = decide (some y = some 40)
    by_cases e : y = 40
    · rw [e]
      rfl
    · rw [decide_eq_false fun z => e (Option.some.inj z)]
      exact beq_eq_false_iff_ne.mpr fun z => e (List.cons.inj (congrArg Array.toList z)).1
theorem str_is {w : Str} {u : List Nat} (h : w.cps.toList = u) (z : Str) : decide (V.str w = V.str z) = decide (u = z.cps.toList) := by
  refine decide_eq_decide.mpr ⟨fun e => ?_, fun e => ?_⟩
  · rw [← h, V.str.inj e]
  · exact congrArg V.str (str_ext (h.trans e))
def StA (H : Hp) : List Addr → List (List PyData) → Prop
  | [], [] => True
  | a :: as, ds :: st => (∃ vs, H a = some (.lst vs) ∧ TpAll H vs ds) ∧ StA H as st
  | _, _ => False
theorem StA.len {H : Hp} : ∀ {as : List Addr} {st : List (List PyData)}, StA H as st → as.length = st.length
  | [], [], _ => rfl
  | _ :: _, _ :: _, h => congrArg (· + 1) (StA.len h.2)
  | [], _ :: _, h => h.elim
  | _ :: _, [], h => h.elim
theorem StA.upd {H : Hp} {b : Addr} {o : HO} (kt : KT H (upd H b o)) : ∀ {as : List Addr} {st : List (List PyData)}, b ∉ as → StA H as st → StA (upd H b o) as st
  | [], [], _, _ => trivial
  | a :: as, ds :: st, n, h => by
    obtain ⟨⟨vs, ha, ta⟩, r⟩ := h
    refine ⟨⟨vs, ?_, ta.kt kt⟩, StA.upd kt (fun z => n (List.mem_cons_of_mem _ z)) r⟩
    rw [upd_ne (show a ≠ b from fun z => n (by rw [← z]; exact List.mem_cons_self))]
    exact ha
  | [], _ :: _, _, h => h.elim
  | _ :: _, [], _, h => h.elim
/-- the lists that stand open, in the order in which they were opened; the words -/
structure FS (H0 H : Hp) (O W : Addr) (ws : List V) (as : List Addr) (st : List (List PyData)) : Prop where
  s : Same H0 H
  nO : H0 O = none
  hW : H W = some (.lst ws)
  OW : O ≠ W
  hO : H O = some (.lst (as.reverse.map V.ref))
  nd : as.Nodup
  own : ∀ a ∈ as, a ≠ O ∧ a ≠ W ∧ H0 a = none
  sa : StA H as st
theorem FS.lst {H0 H : Hp} {O W : Addr} {ws : List V} {as : List Addr} {st : List (List PyData)} (z : FS H0 H O W ws as st) : ∀ a ∈ as, ∃ vs, H a = some (.lst vs) := by
  have h := z.sa
  clear z
  induction as generalizing st with
  | nil => intro a ha; cases ha
  | cons b as ih =>
    cases st with
    | nil => exact h.elim
    | cons ds st =>
      intro a ha
      rcases List.mem_cons.mp ha with e | e
      · obtain ⟨⟨vs, hb, _⟩, _⟩ := h
        exact ⟨vs, e ▸ hb⟩
      · exact ih h.2 a e
/-- one more stands open -/
theorem FS.push {H0 H : Hp} {O W p : Addr} {ws vs : List V} {as : List Addr} {ds : List PyData} {st : List (List PyData)} (z : FS H0 H O W ws as st) (np : H p = none) (tv : TpAll H vs ds) :
    FS H0 (upd (upd H p (.lst vs)) O (.lst (as.reverse.map V.ref ++ [.ref p]))) O W ws (p :: as) (ds :: st) := by
  have pO : p ≠ O := (ne_of_none z.hO np).symm
  have pW : p ≠ W := (ne_of_none z.hW np).symm
  have hO1 : (upd H p (.lst vs)) O = some (.lst (as.reverse.map V.ref)) := same_new np _ _ z.hO
  have pas : p ∉ as := fun h => by
    obtain ⟨vs', e⟩ := z.lst p h
    rw [np] at e
    cases e
  have np0 : H0 p = none := by
    cases e : H0 p with
    | none => rfl
    | some o =>
      have := z.s _ _ e
      rw [np] at this
      cases this
  have Oas : O ∉ as := fun h => (z.own O h).1 rfl
  refine ⟨same_mut (z.s.trans (same_new np)) z.nO, z.nO, ?_, z.OW, ?_, List.nodup_cons.mpr ⟨pas, z.nd⟩, fun a ha => ?_, ?_, ?_⟩
  · rw [upd_ne z.OW.symm]
    exact same_new np _ _ z.hW
  · rw [upd_same, List.reverse_cons, List.map_append]
    rfl
  · rcases List.mem_cons.mp ha with e | e
    · rw [e]
      exact ⟨pO, pW, np0⟩
    · exact z.own a e
  · refine ⟨vs, ?_, (tv.kt (KT.new np)).kt (KT.lst hO1)⟩
    rw [upd_ne pO]
    exact upd_same
  · exact StA.upd (KT.lst hO1) Oas (StA.upd (KT.new np) pas z.sa)
/-- an item more in the last one -/
theorem FS.item {H0 H : Hp} {O W a : Addr} {ws vs : List V} {v : V} {d : PyData} {as : List Addr} {ds : List PyData} {st : List (List PyData)} (z : FS H0 H O W ws (a :: as) (ds :: st)) (ha : H a = some (.lst vs)) (ta : TpAll H vs ds) (tv : Tp H v d) :
    FS H0 (upd H a (.lst (vs ++ [v]))) O W ws (a :: as) ((ds ++ [d]) :: st) := by
  have own := z.own a List.mem_cons_self
  have nd := List.nodup_cons.mp z.nd
  refine ⟨same_mut z.s own.2.2, z.nO, ?_, z.OW, ?_, z.nd, z.own, ?_, StA.upd (KT.lst ha) nd.1 z.sa.2⟩
  · rw [upd_ne own.2.1.symm]
    exact z.hW
  · rw [upd_ne own.1.symm]
    exact z.hO
  · exact ⟨_, upd_same, (ta.snoc tv).kt (KT.lst ha)⟩
/-- the last one taken out -/
theorem FS.pop {H0 H : Hp} {O W a : Addr} {ws : List V} {as : List Addr} {ds : List PyData} {st : List (List PyData)} (z : FS H0 H O W ws (a :: as) (ds :: st)) : FS H0 (upd H O (.lst (as.reverse.map V.ref))) O W ws as st := by
  have Oas : O ∉ as := fun h => (z.own O (List.mem_cons_of_mem _ h)).1 rfl
  refine ⟨same_mut z.s z.nO, z.nO, ?_, z.OW, upd_same, (List.nodup_cons.mp z.nd).2, fun b hb => z.own b (List.mem_cons_of_mem _ hb), StA.upd (KT.lst z.hO) Oas z.sa.2⟩
  rw [upd_ne z.OW.symm]
  exact z.hW

/-! ### plans as texts, read -/
theorem cut_open {w : Str} {u : List Nat} (h : w.cps.toList = u ++ [40]) : cutS w none (some (-1)) = SX.S u := by
  have lw : w.length = u.length + 1 := by
    have : w.length = w.cps.toList.length := (Array.length_toList).symm
    rw [this, h, List.length_append]
    rfl
  have e : HT.sIx w.length w.length (some (-1)) = u.length := by
    show (if (-1 : Int) < 0 then (-1 + (w.length : Int)).toNat else min (-1 : Int).toNat w.length) = _
    rw [if_pos (by decide)]
    omega
  unfold cutS
  rw [e, h]
  show (⟨(((u ++ [40]).drop 0).take (u.length - 0)).toArray⟩ : Str) = _
  rw [List.drop_zero, Nat.sub_zero, List.take_left]
theorem StA.same {H H' : Hp} (s : Same H H') : ∀ {as : List Addr} {st : List (List PyData)}, StA H as st → StA H' as st
  | [], [], _ => trivial
  | a :: as, ds :: st, h => by
    obtain ⟨⟨vs, ha, ta⟩, r⟩ := h
    exact ⟨⟨vs, s _ _ ha, ta.kt (KT.same s)⟩, StA.same s r⟩
  | [], _ :: _, h => h.elim
  | _ :: _, [], h => h.elim
theorem FS.same {H0 H H' : Hp} {O W : Addr} {ws : List V} {as : List Addr} {st : List (List PyData)} (z : FS H0 H O W ws as st) (s : Same H H') : FS H0 H' O W ws as st :=
  ⟨z.s.trans s, z.nO, s _ _ z.hW, z.OW, s _ _ z.hO, z.nd, z.own, z.sa.same s⟩
def spFirst : Sp := fun vs H Q _ => ∃ d : PyData, vs = [.str (showS d)] ∧ Sy d ∧ (showL d).length ≤ 100000 ∧ ∀ H' v, Same H H' → Tp H' v d → Q v H'
theorem run_pre {us : List (List Nat)} {st0 st : List (List PyData)} (h : runW us st0 = some st) (i : Nat) {u : List Nat} (hu : us[i]? = some u) {st1 : List (List PyData)} (h1 : runW (us.take i) st0 = some st1) : ∃ st2, stepW st1 u = some st2 ∧ runW (us.take (i + 1)) st0 = some st2 := by
  obtain ⟨hi, e⟩ := List.getElem?_eq_some_iff.mp hu
  have a : us.take (i + 1) = us.take i ++ [u] := by rw [List.take_add_one, hu]; rfl
  have b : us = us.take i ++ u :: us.drop (i + 1) := by
    rw [← e, ← List.drop_eq_getElem_cons hi, List.take_append_drop]
  rw [b, runW_app, h1] at h
  have h : (stepW st1 u).bind (runW (us.drop (i + 1))) = some st := h
  cases s : stepW st1 u with
  | none =>
    rw [s] at h
    cases h
  | some st2 =>
    refine ⟨st2, rfl, ?_⟩
    rw [a, runW_app, h1]
    show (stepW st1 u).bind (runW []) = _
    rw [s]
    rfl
def bd (st : List (List PyData)) : Nat := (st.map List.length).sum + st.length
theorem step_bd {st st2 : List (List PyData)} {u : List Nat} (h : stepW st u = some st2) : bd st2 ≤ bd st + 2 := by
  unfold stepW at h
  unfold bd
  split at h
  · cases h
    simp
    omega
  · split at h
    · rename_i top nxt r
      split at h
      · cases h
        simp
        omega
      · split at h
        · cases h
          simp
          omega
        · cases h
    · split at h
      · cases h
        simp
      · cases h
    · cases h
section
variable {P : Program} {w : World} {K : PySem.W.Frag} {mg : Str → Option Value} {base : Heap}
theorem has_first (T : Top K mg) : HasT P w K mg base 1 "_first_in" ["text"] spFirst := by
  refine has_ofT (k := 0) T.d__first_in sc__first_in bd__first_in (fun vs H Q E h => ?_) (fun f cdv A outer s H vs Q E hr h => ?_)
  · obtain ⟨d, rfl, _⟩ := h
    rfl
  · have hu := hu_of hr
    have nd := sc__first_in.nd
    obtain ⟨d, rfl, sy, few, k⟩ := h
    refine ⟨_, (psst_cons (PST.of (ps_set (i := 1) nd rfl (.inl rfl) (pe_lst (pa_cons (pe_lst pa_nil) pa_nil)))) (psst_cons (pst_for PassesOwn.never rfl (pit_list (pet_bm0 PySem.F.plainAttrs_str PySem.F.slot_str_split PySem.F.type_str_split mt_words (CwR.pet_replT (CwR.pet_replC (pv 0))))) (pg_name (i := 2) nd rfl (.inl rfl))
      (pss_one (ps_if (pt_val (pe_m1 F.slot_str_endswith F.type_str_endswith mt_endswith (pv 2) pe_str)) (pss_one (ps_expr (pe_bm PySem.F.plainAttrs_list PySem.F.slot_list_append PySem.F.type_list_append mt_append (pv 1) (pa_cons (pe_lst (pa_cons (pe_slice sl_str (pv 2) po_none (po_some (pe_un un_neg pe_int))) pa_nil)) pa_nil)))) (pss_one (ps_if (PW.pt (pw_and (pt_cmpR op_eq (pv 2) pe_str (nomark _)) (pw_and1 (pt_cmpR op_gt (pe_callB call_len_seq (by rfl) T.b_len (by decide +kernel) (pa_cons (pv 1) pa_nil)) pe_int (nomark _))))) (pss_cons (ps_set (i := 3) nd rfl (.inl rfl) (pe_callTy call_tuple_of (by rfl) T.b_tuple (by decide +kernel) (pa_cons (pe_bm0 PySem.F.plainAttrs_list PySem.F.slot_list_pop PySem.F.type_list_pop mt_pop (pv 1)) pa_nil)))
    (pss_one (ps_expr (pe_bm PySem.F.plainAttrs_list PySem.F.slot_list_append PySem.F.type_list_append mt_append (pe_ix ix_list (pv 1) (pe_un un_neg pe_int) (fun _ _ => rfl)) (pa_cons (pv 3) pa_nil))))) (pss_one (ps_if (pt_cmpR op_eq (pv 2) pe_str (nomark _)) (pss_one (ps_expr (pe_bm PySem.F.plainAttrs_list PySem.F.slot_list_append PySem.F.type_list_append mt_append (pe_ix ix_list (pv 1) (pe_un un_neg pe_int) (fun _ _ => rfl)) (pa_cons pe_int pa_nil)))) (pss_one (ps_ret pe_non))))))))) (PSsT.of (pss_cons (ps_if (pt_not (pt_truth (pe_ix ix_list (pv 1) pe_int (fun _ _ => rfl)) (by intro _; rfl))) (pss_one (ps_ret pe_non)) pss_nil)
    (pss_one (ps_ret (pe_ix ix_list (pe_ix ix_list (pv 1) pe_int (fun _ _ => rfl)) pe_int (fun _ _ => rfl)))))))), ?_⟩
    have line : (15000000 : Nat) < sizeLine := by decide
    have l0 := showS_len d
    have l1 := TK.replace_len (showS d) "(" "( "
    have l2 := TK.replace_len (Txt.replace (showS d) "(" "( ") ")" " ) "
    have e1 : ("( " : Str).length = 2 := rfl
    have e2 : (" ) " : Str).length = 3 := rfl
    rw [e1] at l1
    rw [e2] at l2
    have wsh : ∀ a ∈ Txt.words (Txt.replace (Txt.replace (showS d) "(" "( ") ")" " ) "), a.length ≤ 5000000 := fun a ha => by
      have := word_short ha
      omega
    have wfew : (Txt.words (Txt.replace (Txt.replace (showS d) "(" "( ") ")" " ) ")).length ≤ 5000000 := by
      have := PySem.StrLaws.words_weight (Txt.replace (Txt.replace (showS d) "(" "( ") ")" " ) ")
      omega
    have ws := words_show sy (x := showS d) (by unfold showS; rfl)
    refine ⟨by show 0 ≤ sizeLine; decide, fun p1 n1 => ⟨by show 1 ≤ sizeLine; decide, fun O nO => ?_⟩⟩
    refine ⟨_, rfl, showS d, rfl, by rw [e1]; omega, _, rfl, by rw [e2]; omega, rfl, _, rfl, rfl, by omega, fun W nW => ?_⟩
    have hW0 := (upd_same : (upd (upd (upd H p1 (.lst [])) O (.lst [.ref p1])) W (.lst ((Txt.words (Txt.replace (Txt.replace (showS d) "(" "( ") ")" " ) ")).map V.str))) W = some (.lst ((Txt.words (Txt.replace (Txt.replace (showS d) "(" "( ") ")" " ) ")).map V.str)))
    have hO0 := same_new nW (o := .lst ((Txt.words (Txt.replace (Txt.replace (showS d) "(" "( ") ")" " ) ")).map V.str)) _ _ (upd_same : (upd (upd H p1 (.lst [])) O (.lst [.ref p1])) O = some (.lst [.ref p1]))
    have hp0 := same_new nW (o := .lst ((Txt.words (Txt.replace (Txt.replace (showS d) "(" "( ") ")" " ) ")).map V.str)) _ _ (same_new nO (o := .lst [.ref p1]) _ _ (upd_same : (upd H p1 (.lst [])) p1 = some (.lst [])))
    have s0 := ((same_new (o := .lst []) n1).trans (same_new (o := .lst [.ref p1]) nO)).trans (same_new (o := .lst ((Txt.words (Txt.replace (Txt.replace (showS d) "(" "( ") ")" " ) ")).map V.str)) nW)
    have Op : O ≠ p1 := fun e => by
      rw [e, upd_same] at nO
      cases nO
    have WO : O ≠ W := fun e => by
      rw [← e, upd_same] at nW
      cases nW
    have Wp : p1 ≠ W := fun e => by
      rw [← e, upd_ne Op.symm, upd_same] at nW
      cases nW
    have nOH : H O = none := by
      rw [upd_ne Op] at nO
      exact nO
    generalize Txt.words (Txt.replace (Txt.replace (showS d) "(" "( ") ")" " ) ") = us at *
    have z0 : FS H (upd (upd (upd H p1 (.lst [])) O (.lst [.ref p1])) W (.lst (us.map V.str))) O W (us.map V.str) [p1] [[]] := by
      refine ⟨s0, nOH, hW0, WO, hO0, by simp, fun a ha => ?_, ⟨[], hp0, .nil⟩, trivial⟩
      rw [List.mem_singleton.mp ha]
      exact ⟨Op.symm, Wp, n1⟩
    have rd := run_D sy [] []
    refine ⟨W, rfl, ⟨_, SqL.of hW0⟩, for_list (xs := us.map V.str) (fun i σ H' => ∃ (v2 v3 : Option V) (as : List Addr) (st : List (List PyData)), σ = [some (.str (showS d)), some (.ref O), v2, v3] ∧ runW ((toksD d).take i) [[]] = some st ∧ FS H H' O W (us.map V.str) as st ∧ bd st ≤ 2 * i + 1) ⟨none, none, [p1], [[]], rfl, by rw [List.take_zero]; rfl, z0, by decide⟩ ?_ ?_ ?_⟩
    · rintro i σ H' _ ⟨v2, v3, as, st, _, _, z, _⟩
      exact SqL.of z.hW
    · rintro i x σ H' hx ⟨v2, v3, as, st, rfl, hr2, z, zb⟩
      obtain ⟨y, hy, rfl⟩ : ∃ y, us[i]? = some y ∧ x = .str y := by
        rw [List.getElem?_map] at hx
        cases e : us[i]? with
        | none =>
          rw [e] at hx
          cases hx
        | some y =>
          rw [e] at hx
          exact ⟨y, rfl, (Option.some.inj hx).symm⟩
      obtain ⟨u, hu2, eu⟩ : ∃ u, (toksD d)[i]? = some u ∧ y.cps.toList = u := by
        rw [← ws, List.getElem?_map, hy]
        exact ⟨_, rfl, rfl⟩
      obtain ⟨st2, h2, h3⟩ := run_pre rd i hu2 hr2
      have b2 := step_bd h2
      have ylen := wsh y (List.mem_of_getElem? hy)
      have ilt := (List.getElem?_eq_some_iff.mp hy).1
      have sl := z.sa.len
      have stl : st.length ≤ 2 * i + 1 := by
        unfold bd at zb
        omega
      have asl : (as.reverse.map V.ref).length = as.length := by rw [List.length_map, List.length_reverse]
      refine ⟨_, rfl, ⟨_, rfl⟩, y, "(", rfl, rfl, _, rfl, ?_⟩
      rw [ends_open, eu]
      unfold stepW at h2
      by_cases g : u.getLast? = some 40
      · rw [if_pos g] at h2
        cases h2
        obtain ⟨u', e'⟩ := List.getLast?_eq_some_iff.mp g
        refine iteT' g ⟨_, rfl, .inl ⟨rfl, _, SqL.of z.hO⟩, _, rfl, _, rfl, _, rfl, y, rfl, by omega, by show 1 ≤ sizeLine; decide, fun p np => ⟨O, _, _, rfl, rfl, same_new np _ _ z.hO, by rw [asl]; omega, ?_⟩⟩
        rw [cut_open (eu.trans e')]
        refine ⟨_, _, p :: as, _, rfl, h3, ?_, by omega⟩
        have e2 : u.dropLast = u' := by rw [e', List.dropLast_concat]
        rw [e2]
        exact z.push np (.cons (.str _) .nil)
      · rw [if_neg g] at h2
        refine iteF' g ?_
        cases st with
        | nil => cases h2
        | cons top r =>
          cases as with
          | nil => exact z.sa.elim
          | cons p as' =>
            obtain ⟨⟨vs, hp, tv⟩, _⟩ := z.sa
            have lO : (p :: as').reverse.map V.ref = as'.reverse.map V.ref ++ [.ref p] := by rw [List.reverse_cons, List.map_append]; rfl
            have lvt := tv.len
            have lat : atI (as'.reverse.map V.ref ++ [V.ref p]) (-1) = some (.ref p) := atI_last _ _
            have vl : vs.length ≤ 2 * i + 1 := by
              have : top.length + 1 ≤ bd (top :: r) := by
                unfold bd
                rw [List.map_cons, List.sum_cons, List.length_cons]
                omega
              omega
            refine ⟨_, rfl, rfl, _, rfl, ?_⟩
            rw [str_is eu ")"]
            by_cases g1 : u = [41]
            · subst g1
              cases r with
              | nil => exact absurd h2 (by simp)
              | cons nxt r =>
                cases as' with
                | nil => exact z.sa.2.elim
                | cons p2 as' =>
                  have e2 : st2 = (nxt ++ [.tuple top]) :: r := by
                    have h2 : (if ([41] : List Nat) = [41] then some ((nxt ++ [PyData.tuple top]) :: r) else if ([41] : List Nat) = [49] then _ else _) = some st2 := h2
                    rw [if_pos rfl] at h2
                    exact (Option.some.inj h2).symm
                  subst e2
                  refine iteT' rfl ⟨_, rfl, O, _, rfl, .inl (SqL.of z.hO), _, _, rfl, rfl, _, rfl, iteT' (by rw [asl, List.length_cons, List.length_cons]; omega) ?_⟩
                  have hO2 := z.hO
                  rw [lO] at hO2
                  refine ⟨_, rfl, .inl ⟨rfl, _, SqL.of z.hO⟩, O, _, .ref p, rfl, rfl, hO2, last_snoc, ?_⟩
                  rw [dropLast_snoc]
                  have z1 := z.pop
                  have hp1 : (upd H' O (.lst ((p2 :: as').reverse.map V.ref))) p = some (.lst vs) := by
                    rw [upd_ne (z.own p List.mem_cons_self).1]
                    exact hp
                  have tv1 := tv.kt (KT.lst z.hO (o := .lst ((p2 :: as').reverse.map V.ref)))
                  generalize upd H' O (.lst ((p2 :: as').reverse.map V.ref)) = H1 at z1 hp1 tv1 ⊢
                  refine ⟨p, _, rfl, .inl ⟨SqL.of hp1, fun q nq => ?_⟩⟩
                  have z2 := z1.same (same_new nq (o := .tup vs))
                  have tq : Tp (upd H1 q (.tup vs)) (.ref q) (.tuple top) := .new nq tv1
                  generalize upd H1 q (.tup vs) = H2 at z2 tq ⊢
                  obtain ⟨⟨vs2, hp2, tv2⟩, _⟩ := z2.sa
                  have l2 := tv2.len
                  have hO3 := z2.hO
                  have lO2 : (p2 :: as').reverse.map V.ref = as'.reverse.map V.ref ++ [.ref p2] := by rw [List.reverse_cons, List.map_append]; rfl
                  rw [lO2] at hO3
                  refine ⟨_, rfl, _, rfl, O, _, _, _, rfl, rfl, SqL.of hO3, atI_last _ _, .inl ⟨rfl, _, SqL.of hp2⟩, _, rfl, p2, _, _, rfl, rfl, hp2, ?_, ?_⟩
                  · have : nxt.length + 1 ≤ bd (top :: nxt :: r) := by
                      unfold bd
                      rw [List.map_cons, List.map_cons, List.sum_cons, List.sum_cons, List.length_cons]
                      omega
                    omega
                  · exact ⟨_, _, p2 :: as', _, rfl, h3, z2.item hp2 tv2 tq, by omega⟩
            · refine iteF' g1 (iteF ?_)
              have e49 : u = [49] ∧ st2 = (top ++ [.int 1]) :: r := by
                cases r with
                | nil =>
                  have h2 : (if u = [49] then some [top ++ [PyData.int 1]] else none) = some st2 := h2
                  by_cases g2 : u = [49]
                  · rw [if_pos g2] at h2
                    exact ⟨g2, (Option.some.inj h2).symm⟩
                  · rw [if_neg g2] at h2
                    cases h2
                | cons nxt r =>
                  have h2 : (if u = [41] then _ else if u = [49] then some ((top ++ [PyData.int 1]) :: nxt :: r) else none) = some st2 := h2
                  rw [if_neg g1] at h2
                  by_cases g2 : u = [49]
                  · rw [if_pos g2] at h2
                    exact ⟨g2, (Option.some.inj h2).symm⟩
                  · rw [if_neg g2] at h2
                    cases h2
              obtain ⟨g2, e2⟩ := e49
              subst e2
              have hO2 := z.hO
              rw [lO] at hO2
              refine ⟨_, rfl, rfl, _, rfl, ?_⟩
              rw [str_is eu "1"]
              refine iteT' g2 ⟨_, rfl, _, rfl, O, _, _, _, rfl, rfl, SqL.of hO2, lat, .inl ⟨rfl, _, SqL.of hp⟩, p, _, _, rfl, rfl, hp, by omega, ?_⟩
              exact ⟨_, _, p :: as', _, rfl, h3, z.item hp tv (.int 1), by omega⟩
    · rintro σ H' ⟨v2, v3, as, st, rfl, hr2, z, zb⟩
      have lus : (us.map V.str).length = (toksD d).length := by rw [List.length_map, ← ws, List.length_map]
      rw [lus, List.take_length, rd] at hr2
      cases hr2
      have sl := z.sa.len
      cases as with
      | nil => cases sl
      | cons p as =>
        cases as with
        | cons _ _ => cases sl
        | nil =>
          obtain ⟨⟨vs, hp, tv⟩, _⟩ := z.sa
          cases tv with
          | cons t1 t2 =>
            cases t2
            rename_i v1
            have hO := z.hO
            have hO : H' O = some (.lst [.ref p]) := hO
            have hat : atI [V.ref p] 0 = some (.ref p) := at_of (j := 0) rfl rfl
            have hat2 : atI [v1] 0 = some v1 := at_of (j := 0) rfl rfl
            refine ⟨_, rfl, O, _, _, _, rfl, rfl, SqL.of hO, hat, _, .inl ⟨_, SqL.of hp, rfl⟩, ?_⟩
            refine iteF ⟨_, rfl, O, _, _, _, rfl, rfl, SqL.of hO, hat, p, _, _, _, rfl, rfl, SqL.of hp, hat2, ?_⟩
            exact k _ _ z.s t1
end

/-! ### parts and plans as a law draws them -/
mutual
inductive Pa : Nat → Nat → PyData → Prop
  | one {m : Nat} : Pa m 1 (.int 1)
  | tup {m n : Nat} {w : Str} {ds : List PyData} : joinedP (.tuple (.str w :: ds)) = true → PaAll m n ds → Pa (m + 1) n (.tuple (.str w :: ds))
inductive PaAll : Nat → Nat → List PyData → Prop
  | nil {m : Nat} : PaAll m 0 []
  | cons {m n k : Nat} {d : PyData} {ds : List PyData} : Pa m n d → PaAll m k ds → PaAll m (n + k) (d :: ds)
end
mutual
theorem Pa.up : ∀ {m n : Nat} {d : PyData}, Pa m n d → ∀ {m' : Nat}, m ≤ m' → Pa m' n d
  | _, _, _, .one, _, _ => .one
  | _, _, _, .tup j r, 0, h => absurd h (by omega)
  | _, _, _, .tup j r, m' + 1, h => .tup j (PaAll.up r (Nat.le_of_succ_le_succ h))
theorem PaAll.up : ∀ {m n : Nat} {ds : List PyData}, PaAll m n ds → ∀ {m' : Nat}, m ≤ m' → PaAll m' n ds
  | _, _, _, .nil, _, _ => .nil
  | _, _, _, .cons h r, _, l => .cons (Pa.up h l) (PaAll.up r l)
end
mutual
theorem Pa.ones : ∀ {m n : Nat} {d : PyData}, Pa m n d → onesP d = n
  | _, _, _, .one => rfl
  | _, _, _, .tup (w := w) j r => by
    rw [onesP, onesAll, PaAll.ones r, show onesP (.str w) = 0 from rfl, Nat.zero_add]
theorem PaAll.ones : ∀ {m n : Nat} {ds : List PyData}, PaAll m n ds → onesAll ds = n
  | _, _, _, .nil => rfl
  | _, _, _, .cons h r => by rw [onesAll, Pa.ones h, PaAll.ones r]
end
mutual
theorem Pa.pos : ∀ {m n : Nat} {d : PyData}, Pa m n d → 1 ≤ n
  | _, _, _, .one => Nat.le_refl _
  | _, _, _, .tup (ds := ds) j r => by
    have := PaAll.pos r
    obtain ⟨w, es, z, ne, _⟩ := joined_inv j
    cases z
    have : 1 ≤ ds.length := List.length_pos_iff.mpr ne
    omega
theorem PaAll.pos : ∀ {m n : Nat} {ds : List PyData}, PaAll m n ds → ds.length ≤ n
  | _, _, _, .nil => Nat.le_refl _
  | _, _, _, .cons h r => by
    have := Pa.pos h
    have := PaAll.pos r
    rw [List.length_cons]
    omega
end
mutual
theorem Pa.sz : ∀ {m n : Nat} {d : PyData}, Pa m n d → szP d ≤ n * (2 * m + 1)
  | m, _, _, .one => by
    rw [Nat.one_mul, show szP (.int 1) = 1 from rfl]
    omega
  | _, n, _, .tup (m := m) (w := w) (ds := ds) j r => by
    have h := PaAll.sz r
    have p := Pa.pos (.tup j r)
    rw [szP, szAll, show szP (.str w) = 1 from rfl, show 2 * (m + 1) + 1 = (2 * m + 1) + 2 by omega, Nat.mul_add]
    omega
theorem PaAll.sz : ∀ {m n : Nat} {ds : List PyData}, PaAll m n ds → szAll ds ≤ n * (2 * m + 1)
  | _, _, _, .nil => Nat.zero_le _
  | m, _, _, .cons (n := n) (k := k) h r => by
    have a := Pa.sz h
    have b := PaAll.sz r
    rw [szAll, Nat.add_mul]
    omega
end
theorem paAll_ones (m : Nat) : ∀ n, PaAll m n (List.replicate n (.int 1))
  | 0 => .nil
  | n + 1 => by
    rw [List.replicate_succ, Nat.add_comm n 1]
    exact .cons .one (paAll_ones m n)
theorem PaAll.snoc {m k : Nat} {d : PyData} (h : Pa m k d) : ∀ {n : Nat} {ds : List PyData}, PaAll m n ds → PaAll m (n + k) (ds ++ [d])
  | _, _, .nil => by
    have := PaAll.cons h .nil
    rw [Nat.add_zero] at this
    rw [Nat.zero_add]
    exact this
  | _, _, .cons x r => by
    rw [Nat.add_assoc]
    exact .cons x (r.snoc h)
theorem joined_of {w : Str} {es : List PyData} (ne : es ≠ []) (h : w = "sums" ∨ (w = "net" ∧ es.length = 2)) : joinedP (.tuple (.str w :: es)) = true := by
  unfold joinedP
  show (decide (es ≠ []) && (decide (w = "sums") || (decide (w = "net") && decide (es.length = 2)))) = true
  rw [decide_eq_true ne, Bool.true_and, Bool.or_eq_true, Bool.and_eq_true]
  rcases h with h | h
  · exact .inl (decide_eq_true h)
  · exact .inr ⟨decide_eq_true h.1, decide_eq_true h.2⟩
/-! ### tests and texts told without what they come from -/
def tWI (z : Str) (i j : Nat) (p : Int → Bool) : TT := fun σ H R => ∃ (w : Str) (m : Int), σ[i]? = some (some (.str w)) ∧ σ[j]? = some (some (.int m)) ∧ R (decide (w = z) && p m) H
def tII (i j : Nat) (p q : Int → Bool) : TT := fun σ H R => ∃ (n m : Int), σ[i]? = some (some (.int n)) ∧ σ[j]? = some (some (.int m)) ∧ R (p n && q m) H
def tIO (i j : Nat) (p q : Int → Bool) : TT := fun σ H R => ∃ (n m : Int), σ[i]? = some (some (.int n)) ∧ σ[j]? = some (some (.int m)) ∧ R (p n || q m) H
theorem pe_wk {X : Cx} {e : Expr} {t : TE} (u : TE) (h : PE X e t) (hw : ∀ σ H R, u σ H R → t σ H R) : PE X e u := ⟨fun pins s σ H Q I hq => h.run pins s σ H Q I (hw σ H Q hq)⟩
/-- one of two texts -/
def uTwo (x y : Str) (i : Nat) : TE := fun σ H Q => ∃ w : Str, σ[i]? = some (some (.str w)) ∧ ∀ z, (z = x ∨ z = y) → Q (.str z) H
/-- one of two texts, by the tape at times -/
def uTape (x y : Str) (i : Nat) : TE := fun σ H Q => ∃ (n : Int) (t c : Addr) (j : Nat), σ[i]? = some (some (.int n)) ∧ σ[0]? = some (some (.ref t)) ∧ Tape H t c j ∧ j < 2 ^ 40 ∧ ∀ z H', ((z = x ∧ n = 1) ∨ z = y) → Tape H' t c (j + 1) → Kp t H H' → Q (.str z) H'
/-- items so far, parts all, behind as many draws -/
structure LS (H0 H : Hp) (t c D : Addr) (m s e : Nat) : Prop where
  tp : Tape H t c e
  kp : Kp t H0 H
  nD : H0 D = none
  nt : D ≠ t
  nc : D ≠ c
  ex : ∃ vs ds, H D = some (.lst vs) ∧ TpAll H vs ds ∧ PaAll m s ds
theorem LS.new {H : Hp} {t c D : Addr} {m e : Nat} (tp : Tape H t c e) (nD : H D = none) : LS H (upd H D (.lst [])) t c D m 0 e :=
  ⟨tp.new nD, Kp.new nD, nD, tp.fresh nD, tp.fresh_c nD, [], [], upd_same, .nil, .nil⟩
theorem LS.put {H0 H H2 : Hp} {t c D : Addr} {m s e e2 n : Nat} {v : V} {d : PyData} (z : LS H0 H t c D m s e) (lim : s ≤ 100000) (tp : Tape H2 t c e2) (kp : Kp t H H2) (tv : Tp H2 v d) (pa : Pa m n d) :
    ∃ acc, H2 D = some (.lst acc) ∧ acc.length < sizeLine ∧ LS H0 (upd H2 D (.lst (acc ++ [v]))) t c D m (s + n) e2 := by
  obtain ⟨vs, ds, hD, ta, pl⟩ := z.ex
  have hD2 := z.tp.sq hD kp
  have l1 := ta.len
  have l2 := pl.pos
  have line : (200000 : Nat) < sizeLine := by decide
  exact ⟨vs, hD2, by omega, tp.mut z.nt z.nc, Kp.mut (z.kp.trans kp) z.nD, z.nD, z.nt, z.nc, _, _, upd_same, ((ta.kt (KT.kp z.tp kp)).snoc tv).kt (KT.lst hD2), pl.snoc pa⟩
def spLPart (n : Nat) : Sp := fun vs H Q _ => ∃ (t c : Addr) (many deep j : Nat), vs = [.ref t, .int many, .int deep] ∧ Tape H t c j ∧ j + 4 * (many * (deep + 1)) < 2 ^ 40 ∧ 1 ≤ many ∧ many ≤ 1000 ∧ many + deep + 1 ≤ n ∧
  ∀ (H' : Hp) (v : V) (d : PyData), Tape H' t c (j + 4 * (many * (deep + 1)) - 2) → Kp t H H' → Tp H' v d → Pa (many + deep) many d → Q v H'
theorem pick_txt {ws : List V} {i : Nat} {v : V} (h : ws[i]? = some v) (a : ws.all (fun x => match x with | .str _ => true | _ => false) = true) : ∃ w, v = .str w := by
  have := List.all_eq_true.mp a v (List.mem_of_getElem? h)
  cases v with
  | str w => exact ⟨w, rfl⟩
  | _ => cases this
section
variable {P : Program} {w : World} {K : PySem.W.Frag} {mg : Str → Option Value} {base : Heap}
theorem has_lpart (T : Top K mg) (h__law_draw : Has P w K mg base 1 "_law_draw" ["_law_tape", "_law_many"] spDraw) (h__law_pick : Has P w K mg base 2 "_law_pick" ["_law_tape", "_law_some"] (spPick K)) :
    ∀ n, ∃ l, l ≤ n + 3 ∧ Has P w K mg base l "_law_part" ["_law_tape", "_law_many", "_law_deep"] (spLPart n)
  | 0 => ⟨0, by omega, has_zero T.d__law_part bd__law_part fun vs H Q E h => by
      obtain ⟨t, c, many, deep, j, _, _, _, h1, _, h2, _⟩ := h
      omega⟩
  | n + 1 => by
    obtain ⟨l, hl, h__law_part⟩ := has_lpart T h__law_draw h__law_pick n
    refine ⟨n + 3 + 1, by omega, has_of (k := n + 3) T.d__law_part sc__law_part bd__law_part (fun vs H Q E h => ?_) (fun f cdv A outer s H vs Q E hr h => ?_)⟩
    · obtain ⟨t, c, many, deep, j, rfl, _⟩ := h
      rfl
    · have hu := hu_of hr
      have nd := sc__law_part.nd
      obtain ⟨t, c, many, deep, j, rfl, tp, lim, m1, m60, lv, k⟩ := h
      refine ⟨_, (pss_cons (ps_set (i := 3) nd rfl (.inl rfl) (pe_op op_add pe_int (pe_has h__law_draw (hr.mono (by omega)) (by rfl) (pa_cons (pv 0) (pa_cons (pe_callB (call_max2 rfl) (by rfl) T.b_max (by decide +kernel) (pa_cons pe_int (pa_cons (pe_op op_sub (pv 1) pe_int) pa_nil))) pa_nil)))))
    (pss_cons (ps_set (i := 4) nd rfl (.inl rfl) (pe_has h__law_pick (hr.mono (by omega)) (by rfl) (pa_cons (pv 0) (pa_cons (pe_lst (pa_cons pe_str (pa_cons pe_str (pa_cons pe_str (pa_cons pe_str (pa_cons pe_str (pa_cons pe_str (pa_cons pe_str pa_nil)))))))) pa_nil))))
    (pss_cons (ps_if (pt_wk (tWI "one" 4 2 (fun n => decide (n > 0))) (PW.pt (pw_and (pt_cmpR op_eq (pv 4) pe_str (nomark _)) (pw_and1 (pt_cmpR op_gt (pv 2) pe_int (nomark _))))) ?one) (pss_one (ps_ret (pe_tup (pa_cons pe_str (pa_cons (pe_has h__law_part (hr.mono (by omega)) (by rfl) (pa_cons (pv 0) (pa_cons (pv 1) (pa_cons (pe_op op_sub (pv 2) pe_int) pa_nil)))) pa_nil))))) pss_nil)
    (pss_cons (ps_if (pt_cmpR op_eq (pv 1) pe_int (nomark _)) (pss_one (ps_ret pe_int)) pss_nil)
    (pss_cons (ps_if (pt_wk (tWI "flat" 4 1 (fun n => decide (n < 7))) (PW.pt (pw_and (pt_cmpR op_eq (pv 4) pe_str (nomark _)) (pw_and1 (pt_cmpR op_lt (pv 1) pe_int (nomark _))))) ?flat) (pss_one (ps_ret (pe_op op_catA (pe_tup (pa_cons pe_str pa_nil)) (pe_op op_repT1 (pe_tup (pa_cons pe_int pa_nil)) (pv 1))))) pss_nil)
    (pss_cons (ps_if (pt_wk (tWI "three" 4 3 (fun n => decide (n > 1))) (PW.pt (pw_and (pt_cmpR op_eq (pv 4) pe_str (nomark _)) (pw_and1 (pt_cmpR op_gt (pv 3) pe_int (nomark _))))) ?three) (pss_cons (ps_set (i := 5) nd rfl (.inl rfl) (pe_tup (pa_cons pe_int (pa_cons (pe_op op_sub (pv 3) pe_int) (pa_cons (pe_op op_sub (pv 1) (pv 3)) pa_nil)))))
    (pss_one (ps_ret (pe_op op_catA (pe_tup (pa_cons pe_str pa_nil)) (pe_callTy call_tuple_of (by rfl) T.b_tuple (by decide +kernel) (pa_cons (pe_lc (own := [("_law_one", 6)]) (by rfl) nd (pi_tup (pv 5)) (blkOk_by (own := [("_law_one", 6)]) (N := nm__law_part) (sc := defScope s__law_part) (by decide +kernel)) (fun _ _ _ _ _ => pg_name (i := 6) nd rfl (.inl rfl)) (fun _ _ _ _ _ => pts_nil) (fun _ _ _ _ _ => (pe_has h__law_part (hr.mono (by omega)) (by rfl) (pa_cons (pv 0) (pa_cons (pv 6) (pa_cons (pv 2) pa_nil)))))) pa_nil)))))) pss_nil)
    (pss_one (ps_ret (pe_tup (pa_cons (pe_wk (uTwo "net" "sums" 4) (pe_ifExp (pt_cmpR op_eq (pv 4) pe_str (nomark _)) pe_str pe_str) ?net) (pa_cons (pe_has h__law_part (hr.mono (by omega)) (by rfl) (pa_cons (pv 0) (pa_cons (pv 3) (pa_cons (pv 2) pa_nil)))) (pa_cons (pe_has h__law_part (hr.mono (by omega)) (by rfl) (pa_cons (pv 0) (pa_cons (pe_op op_sub (pv 1) (pv 3)) (pa_cons (pv 2) pa_nil)))) pa_nil)))))))))))), ?_⟩
      case one =>
        rintro σ H R ⟨w, m, e1, e2, r⟩
        refine ⟨_, e1, rfl, _, rfl, ?_⟩
        by_cases h : w = "one"
        · rw [decide_eq_true h, Bool.true_and] at r
          exact iteT' (by rw [h]) ⟨_, e2, _, _, rfl, rfl, _, rfl, r⟩
        · rw [decide_eq_false h] at r
          exact iteF' (fun z => h (V.str.inj z)) r
      case flat =>
        rintro σ H R ⟨w, m, e1, e2, r⟩
        refine ⟨_, e1, rfl, _, rfl, ?_⟩
        by_cases h : w = "flat"
        · rw [decide_eq_true h, Bool.true_and] at r
          exact iteT' (by rw [h]) ⟨_, e2, _, _, rfl, rfl, _, rfl, r⟩
        · rw [decide_eq_false h] at r
          exact iteF' (fun z => h (V.str.inj z)) r
      case three =>
        rintro σ H R ⟨w, m, e1, e2, r⟩
        refine ⟨_, e1, rfl, _, rfl, ?_⟩
        by_cases h : w = "three"
        · rw [decide_eq_true h, Bool.true_and] at r
          exact iteT' (by rw [h]) ⟨_, e2, _, _, rfl, rfl, _, rfl, r⟩
        · rw [decide_eq_false h] at r
          exact iteF' (fun z => h (V.str.inj z)) r
      case net =>
        rintro σ H R ⟨w, e1, r⟩
        exact ⟨_, e1, rfl, _, rfl, ite2 (fun _ => r _ (.inl rfl)) (fun _ => r _ (.inr rfl))⟩
      have dpos : many * (deep + 1) ≥ many := Nat.le_mul_of_pos_right _ (Nat.succ_pos _)
      obtain ⟨m, em, m0, mb, m2, mm1⟩ : ∃ m : Int, (if (many : Int) - 1 > 1 then (many : Int) - 1 else 1) = m ∧ 0 < m ∧ m ≤ 1000 ∧ (2 ≤ many → m = many - 1) ∧ (many = 1 → m = 1) := ⟨_, rfl, by split <;> omega, by split <;> omega, fun z => by split <;> omega, fun z => by split <;> omega⟩
      refine ⟨_, rfl, _, rfl, _, _, rfl, rfl, _, _, rfl, t, c, m, j, congrArg (fun z => [V.ref t, V.int z]) em, tp, by omega, m0, pow8000 (by omega), fun H1 r a1 b1 tp1 kp1 => ?_⟩
      obtain ⟨x, ex⟩ : ∃ x : Nat, 1 + r = (x : Int) := ⟨(1 + r).toNat, by omega⟩
      refine ⟨_, _, rfl, rfl, ?_⟩
      generalize hv : (fun i j : Int => V.int (i + j)) 1 r = nv
      obtain rfl : nv = V.int (x : Int) := hv.symm.trans (congrArg V.int ex)
      clear hv
      refine ⟨_, rfl, by show 7 ≤ sizeLine; decide, fun d2 n2 => ⟨t, c, d2, _, _, rfl, tp1.new n2, by omega, fun H' kp => .inl (SqL.of (kp d2 _ upd_same (tp1.fresh n2))), by show 0 < 7; decide, by show 7 ≤ 1000000; decide, fun H3 i3 v3 g3 tp3 kp3 => ?_⟩⟩
      obtain ⟨w3, rfl⟩ := pick_txt g3 (by rfl)
      have k3 : Kp t H H3 := kp1.trans ((Kp.new n2).trans kp3)
      clear g3 kp3 n2 tp1 kp1 em
      refine ⟨w3, _, rfl, rfl, ite2 (fun ca => ?_) (fun _ => ?_)⟩
      · -- one part alone
        have ca := of_decide_eq_true (Bool.and_eq_true_iff.mp ca).2
        obtain ⟨e, rfl⟩ : ∃ e, deep = e + 1 := ⟨deep - 1, by omega⟩
        have ms : many * (e + 1 + 1) = many * (e + 1) + many := Nat.mul_succ many (e + 1)
        refine ⟨_, rfl, _, rfl, _, rfl, _, _, rfl, rfl, t, c, many, e, j + 1 + 1, ?_, tp3, by omega, m1, m60, by omega, fun H4 v d tp4 kp4 tv pa => ⟨by show 2 ≤ sizeLine; decide, fun p hp => ?_⟩⟩
        · show [V.ref t, V.int (many : Int), V.int (((e + 1 : Nat) : Int) - 1)] = _
          rw [show ((e + 1 : Nat) : Int) - 1 = (e : Int) by omega]
        · exact k _ _ _ ((tp4.new hp).le (by omega)) ((k3.trans kp4).trans (Kp.new hp)) (.new hp (.cons (.str _) (.cons tv .nil))) (.tup (joined_of (by simp) (.inl rfl)) (.cons pa .nil))
      refine ⟨_, rfl, rfl, _, rfl, ite2 (fun cb => ?_) (fun cb => ?_)⟩
      · have cb : many = 1 := by
          have := V.int.inj (of_decide_eq_true cb)
          omega
        subst cb
        exact k _ _ _ (tp3.le (by omega)) k3 (.int 1) .one
      have cb : 2 ≤ many := by
        have : ¬ many = 1 := fun z => cb (decide_eq_true (by rw [z]; rfl))
        omega
      have em := m2 cb
      refine ⟨w3, _, rfl, rfl, ite2 (fun cc => ?_) (fun _ => ?_)⟩
      · refine ⟨by show 1 ≤ sizeLine; decide, fun p hp => ⟨by show 1 ≤ sizeLine; decide, fun q hq => ⟨_, rfl, .inr ⟨q, many, [.int 1], rfl, rfl, SqT.of upd_same, by simp, by omega, by omega, by decide, fun r hr => ?_⟩⟩⟩⟩
        rw [flat_one, show ((many : Nat) : Int).toNat = many from rfl] at *
        have line : (200000 : Nat) < sizeLine := by decide
        refine tup_catA (same_new hr _ _ (same_new hq _ _ upd_same)) upd_same (by rw [List.length_replicate, List.length_singleton]; omega) fun H' a s ha => ?_
        have s4 : Same H3 H' := (same_new hp).trans ((same_new hq).trans ((same_new hr).trans s))
        exact k _ _ _ ((tp3.same s4).le (by omega)) (k3.trans (Kp.same s4)) (.tup ha (.cons (.str _) (tp_rep (.int 1) many))) ((Pa.tup (m := 0) (joined_of (by intro z; have := congrArg List.length z; rw [List.length_replicate, List.length_nil] at this; omega) (.inl rfl)) (paAll_ones 0 many)).up (by omega))
      have x1 : 1 ≤ x := by omega
      have x2 : x + 1 ≤ many := by omega
      have hX : x * (deep + 1) + (many - x) * (deep + 1) = many * (deep + 1) := by
        rw [← Nat.add_mul, show x + (many - x) = many by omega]
      have x3 : x * (deep + 1) ≥ x := Nat.le_mul_of_pos_right _ (Nat.succ_pos _)
      have x4 : (many - x) * (deep + 1) ≥ many - x := Nat.le_mul_of_pos_right _ (Nat.succ_pos _)
      refine ⟨w3, _, rfl, rfl, ite2 (fun cd => ?_) (fun _ => ?_)⟩
      · -- three
        have cd := of_decide_eq_true (Bool.and_eq_true_iff.mp cd).2
        have hY : (x - 1) * (deep + 1) + (deep + 1) = x * (deep + 1) := by
          rw [← Nat.succ_mul, show (x - 1).succ = x by omega]
        refine ⟨_, rfl, _, _, rfl, rfl, _, rfl, _, rfl, _, _, rfl, rfl, by show 3 ≤ sizeLine; decide, fun S nS => ⟨by show 1 ≤ sizeLine; decide, fun p1 h1 => ?_⟩⟩
        have hS : (upd H3 S (.tup [V.int 1, V.int ((x : Int) - 1), V.int ((many : Int) - (x : Int))])) S = some (.tup [V.int 1, V.int ((x - 1 : Nat) : Int), V.int ((many - x : Nat) : Int)]) := by
          rw [upd_same, show ((x - 1 : Nat) : Int) = (x : Int) - 1 by omega, show ((many - x : Nat) : Int) = (many : Int) - (x : Int) by omega]
        have tpS := (tp3.new nS).new h1 (o := .tup [.str "sums"])
        have kS : Kp t H (upd (upd H3 S (.tup [V.int 1, V.int ((x : Int) - 1), V.int ((many : Int) - (x : Int))])) p1 (.tup [.str "sums"])) := k3.trans ((Kp.new nS).trans (Kp.new h1))
        have hS2 := same_new h1 (o := .tup [.str "sums"]) _ _ hS
        have hp2 : (upd (upd H3 S (.tup [V.int 1, V.int ((x : Int) - 1), V.int ((many : Int) - (x : Int))])) p1 (.tup [.str "sums"])) p1 = some (.tup [.str "sums"]) := upd_same
        generalize upd (upd H3 S (.tup [V.int 1, V.int ((x : Int) - 1), V.int ((many : Int) - (x : Int))])) p1 (.tup [.str "sums"]) = H4 at tpS kS hS2 hp2 ⊢
        refine ⟨_, rfl, S, rfl, ⟨_, SqT.of hS2⟩, fun D nD => lc_tup (xs := [1, x - 1, many - x].map fun y : Nat => V.int (y : Int)) (fun i H' => ∃ e, e + 2 * i ≤ j + 2 + 4 * ((([1, x - 1, many - x].take i).sum) * (deep + 1)) ∧ LS H4 H' t c D (many + deep - 1) (([1, x - 1, many - x].take i).sum) e) ⟨j + 1 + 1, by simp, .new tpS nD⟩ (fun i H' _ z => ?_) (fun i y H' hy z => ?_) (fun H' z => ?_)⟩
        · obtain ⟨e, _, z⟩ := z
          exact SqT.of (KT.kp tpS z.kp _ _ hS2)
        · obtain ⟨e, he, z⟩ := z
          obtain ⟨b, rfl, hb, hl2, hs, hsum, hs2⟩ : ∃ b : Nat, y = V.int (b : Int) ∧ 1 ≤ b ∧ b + 1 ≤ many ∧ ([1, x - 1, many - x].take (i + 1)).sum = ([1, x - 1, many - x].take i).sum + b ∧ ([1, x - 1, many - x].take i).sum + b ≤ many ∧ (i < 2 → ([1, x - 1, many - x].take i).sum + b + 1 ≤ many) := by
            match i, hy with
            | 0, hy => cases hy; exact ⟨1, rfl, by omega, by omega, by simp, by simp; omega, fun _ => by simp; omega⟩
            | 1, hy => cases hy; exact ⟨x - 1, rfl, by omega, by omega, by simp, by simp; omega, fun _ => by simp; omega⟩
            | 2, hy => cases hy; exact ⟨many - x, rfl, by omega, by omega, by simp; omega, by simp; omega, fun z => absurd z (by decide)⟩
            | i + 3, hy => exact absurd hy (by simp)
          have hi : i < 3 := by
            have := (List.getElem?_eq_some_iff.mp hy).1
            simpa using this
          have mu : (([1, x - 1, many - x].take i).sum + b) * (deep + 1) = ([1, x - 1, many - x].take i).sum * (deep + 1) + b * (deep + 1) := Nat.add_mul _ _ _
          have mu2 : (([1, x - 1, many - x].take i).sum + b) * (deep + 1) ≤ many * (deep + 1) := Nat.mul_le_mul_right _ hsum
          have bp : b * (deep + 1) ≥ b := Nat.le_mul_of_pos_right _ (Nat.succ_pos _)
          have mu3 : i < 2 → (([1, x - 1, many - x].take i).sum + b) * (deep + 1) + (deep + 1) ≤ many * (deep + 1) := fun h => by
            rw [← Nat.succ_mul]
            exact Nat.mul_le_mul_right _ (hs2 h)
          have lim2 : e + 4 * (b * (deep + 1)) < 2 ^ 40 := by
            rcases Nat.lt_or_ge i 2 with h | h
            · have := mu3 h
              omega
            · omega
          rw [hs]
          refine ⟨rfl, yes_go ⟨_, rfl, _, rfl, _, rfl, t, c, b, deep, e, rfl, z.tp, lim2, hb, by omega, by omega, fun H5 v d tp5 kp5 tv pa => ?_⟩⟩
          obtain ⟨acc, ha, hb, zz⟩ := z.put (by omega) tp5 kp5 tv (pa.up (by omega))
          exact ⟨acc, ha, hb, _, by omega, zz⟩
        · obtain ⟨e, he, z⟩ := z
          have es : ([1, x - 1, many - x].take ([1, x - 1, many - x].map fun y : Nat => V.int (y : Int)).length).sum = many := by
            simp
            omega
          rw [es] at he z
          obtain ⟨vs, ds, hD, ta, pl⟩ := z.ex
          have l1 := ta.len
          have l2 := pl.pos
          refine ⟨D, _, rfl, .inl ⟨SqL.of hD, fun r nr => ?_⟩⟩
          have line : (200000 : Nat) < sizeLine := by decide
          have hp3 := KT.kp tpS z.kp _ _ hp2
          refine tup_catA (same_new nr _ _ hp3) upd_same (by rw [List.length_singleton]; omega) fun H' a s ha => ?_
          have s4 := (same_new nr).trans s
          have ne : ds ≠ [] := fun z => by
            rw [z] at pl
            cases pl
            omega
          have hl3 : ([1, x - 1, many - x].map fun y : Nat => V.int (y : Int)).length = 3 := rfl
          rw [hl3] at he
          refine k _ _ _ ((z.tp.same s4).le (by omega)) ((kS.trans z.kp).trans (Kp.same s4)) (.tup ha (.cons (.str _) (ta.kt (KT.same s4)))) ?_
          have := Pa.tup (joined_of ne (.inl rfl)) pl
          rw [show many + deep - 1 + 1 = many + deep by omega] at this
          exact this
      -- two
      refine ⟨w3, rfl, fun z hz => ?_⟩
      refine ⟨_, rfl, _, rfl, _, rfl, t, c, x, deep, j + 1 + 1, rfl, tp3, by omega, x1, by omega, by omega, fun H4 v4 d4 tp4 kp4 tv4 pa4 => ?_⟩
      refine ⟨_, rfl, _, rfl, _, rfl, _, _, rfl, rfl, _, rfl, t, c, many - x, deep, _, ?_, tp4, by omega, by omega, by omega, by omega, fun H5 v5 d5 tp5 kp5 tv5 pa5 => ⟨by show 3 ≤ sizeLine; decide, fun p hp => ?_⟩⟩
      · show [V.ref t, V.int ((many : Int) - (x : Int)), V.int (deep : Int)] = _
        rw [show ((many - x : Nat) : Int) = (many : Int) - (x : Int) by omega]
      · have all := PaAll.cons (pa4.up (m' := many + deep - 1) (by omega)) (.cons (pa5.up (m' := many + deep - 1) (by omega)) .nil)
        have pp := Pa.tup (w := z) (joined_of (by simp) (by rcases hz with hz | hz; exact .inr ⟨hz, rfl⟩; exact .inl hz)) all
        rw [show many + deep - 1 + 1 = many + deep by omega, show x + (many - x + 0) = many by omega] at pp
        exact k _ _ _ ((tp5.new hp).le (by omega)) (((k3.trans kp4).trans kp5).trans (Kp.new hp)) (.new hp (.cons (.str _) (.cons (tv4.kt (KT.kp tp4 kp5)) (.cons tv5 .nil)))) pp
end

section
variable {P : Program} {w : World} {K : PySem.W.Frag} {mg : Str → Option Value} {base : Heap}
theorem has_areG (T : Top K mg) (h_is_whole : Has P w K mg base 1 "is_whole" ["thing"] spWhole) (h__is_joined : Has P w K mg base 1 "_is_joined" ["thing"] spJ) : Has P w K mg base 2 "_are_parts" ["things", "around"] spAreG := by
  refine has_of T.d__are_parts sc__are_parts bd__are_parts (fun vs H Q E h => ?_) (fun f cdv A outer s H vs Q E hr h => ?_)
  · obtain ⟨a, o, xs, ds, rfl, _⟩ := h
    rfl
  · have hu := hu_of hr
    have nd := sc__are_parts.nd
    obtain ⟨a, o, xs, ds, rfl, ha, tr, lay, few, k⟩ := h
    refine ⟨_, (pss_cons (ps_set (i := 2) nd rfl (.inl rfl) pe_int)
    (pss_cons (ps_setLc (i := 4) (own := [("thing", 3)]) (by rfl) nd rfl rfl (sw_true rfl rfl rfl (by decide +kernel)) (pi_tup (pv 0)) (blkOk_by (own := [("thing", 3)]) (N := nm__are_parts) (sc := defScope s__are_parts) (by decide +kernel)) (fun _ _ _ _ _ => pg_name (i := 3) nd rfl (.inl rfl)) (fun _ _ _ _ _ => pts_nil) (fun _ _ _ _ _ => (pe_tup (pa_cons (pv 3) (pa_cons (pv 1) pa_nil)))))
    (pss_cons (ps_while PassesOwn.never (pt_truth (pv 4) (by intro _; rfl)) (pss_cons (ps_if (pt_cmpR op_gt (pe_op op_add (pv 2) (pe_callB call_len_seq (by rfl) T.b_len (by decide +kernel) (pa_cons (pv 4) pa_nil))) (pe_const T.c_MOST_ONES (by rfl)) (nomark _)) (pss_one (ps_ret pe_bl)) pss_nil)
    (pss_cons (ps_asg (pe_bm0 PySem.F.plainAttrs_list PySem.F.slot_list_pop PySem.F.type_list_pop mt_pop (pv 4)) (pg_tup (by rfl) (pgs_cons (pg_name (i := 3) nd rfl (.inl rfl)) (pgs_cons (pg_name (i := 5) nd rfl (.inr rfl)) pgs_nil))))
    (pss_one (ps_if (PW.pt (pw_and (pt_val (pe_has h_is_whole (hr.mono (by omega)) (by rfl) (pa_cons (pv 3) pa_nil))) (pw_and1 (pt_cmpR op_eq (pv 3) pe_int (nomark _))))) (pss_one (ps_aug (i := 2) nd rfl (.inl rfl) pe_int ip_add)) (pss_one (ps_if (PW.pt (pw_and (pt_cmpR op_lt (pv 5) (pe_const T.c_MOST_TUPLES (by rfl)) (nomark _)) (pw_and1 (pt_val (pe_has h__is_joined (hr.mono (by omega)) (by rfl) (pa_cons (pv 3) pa_nil)))))) (pss_one (ps_expr (pe_bm PySem.F.plainAttrs_list PySem.F.slot_list_extend PySem.F.type_list_extend mt_extend (pv 4) (pa_cons (pe_lc (own := [("part", 6)]) (by rfl) nd (pi_tup (pe_slice sl_tupA (pv 3) (po_some pe_int) po_none)) (blkOk_by (own := [("part", 6)]) (N := nm__are_parts) (sc := defScope s__are_parts) (by decide +kernel)) (fun _ _ _ _ _ => pg_name (i := 6) nd rfl (.inl rfl)) (fun _ _ _ _ _ => pts_nil) (fun _ _ _ _ _ => (pe_tup (pa_cons (pv 6) (pa_cons (pe_op op_add (pv 5) pe_int) pa_nil))))) pa_nil)))) (pss_one (ps_ret pe_bl)))))))))
    (pss_one (ps_ret pe_bl))))), ?_⟩
    have line : (200000 : Nat) < sizeLine := by decide
    have lx := tr.len
    have ls := len_sz ds
    -- the things, with what is around
    refine ⟨_, rfl, a, rfl, ⟨_, SqT.of ha⟩, fun W nW => lc_relT (fun i y H1 => ∃ d, ds[i]? = some d ∧ PrR H H1 y (d, o)) (fun i y H1 H2 r s => ?_) (fun i y H1 l o' hl r => ?_) (SqT.of ha) nW (by omega) (fun x => rfl) (fun i x hx H1 s1 R g => ?_) (fun H1 ys s1 hW ly ry => ?_)⟩
    · obtain ⟨d, hd, r⟩ := r
      exact ⟨d, hd, r.kt (KT.same s)⟩
    · obtain ⟨d, hd, r⟩ := r
      exact ⟨d, hd, r.kt (KT.lst hl)⟩
    · obtain ⟨d, hd, td⟩ := tr.get hx
      exact ⟨_, rfl, _, rfl, by show 2 ≤ sizeLine; decide, fun p hp => g _ _ (same_new hp) ⟨d, hd, p, x, rfl, upd_same, td⟩⟩
    · have pr := prAll_of (by omega : ys.length = ds.length) ry
      generalize hres : (gBAll (60 - o) ds && decide (onesAll ds ≤ 60)) = res at k
      refine ⟨fun m σ H' => ∃ (v3 v5 v6 : Option V) (n : Nat) (vs : List V) (ps : List (PyData × Nat)), m = szPs ps ∧ σ = [some (.ref a), some (.int o), some (.int n), v3, some (.ref W), v5, v6] ∧ Same H H' ∧ H' W = some (.lst vs) ∧ PrAll H H' vs ps ∧ layPs ps ∧ n ≤ 60 ∧ res = (PGB ps && decide (n + onesPs ps ≤ 60)) ∧ szPs ps ≤ 100000,
          ⟨_, none, none, none, 0, ys, ds.map fun d => (d, o), rfl, rfl, s1, hW, pr, ?_, by omega, ?_, ?_⟩, ?_⟩
      · intro q hq
        obtain ⟨d, hd, rfl⟩ := List.mem_map.mp hq
        exact lay_mem lay d hd
      · have e := PGB_put [] ds o
        rw [List.nil_append, show PGB [] = true from rfl, Bool.true_and] at e
        rw [e, ← hres]
        unfold onesPs
        rw [map_fst, Nat.zero_add]
      · unfold szPs
        rw [map_fst]
        exact few
      clear hres
      rintro m σ H' ⟨v3, v5, v6, n, vs, ps, rfl, rfl, s, hW', pa, ly, n60, er, few'⟩
      have lv := pa.len
      refine ⟨_, rfl, _, .inl ⟨vs, SqL.of hW', rfl⟩, ?_⟩
      by_cases e : vs = []
      · subst e
        cases pa
        have er2 : res = true := by
          rw [er, show PGB [] = true from rfl, Bool.true_and]
          exact decide_eq_true (by show n + 0 ≤ 60; omega)
        rw [er2] at k
        exact iteF (k _ s)
      obtain ⟨vs, y, rfl⟩ := snoc_of2 e
      obtain ⟨qs, q, rfl, pb, pq⟩ := pa.snoc_inv
      have ne : (!(vs ++ [y]).isEmpty) = true := by cases vs <;> rfl
      rw [ne]
      refine iteT ⟨_, fun σ' H' h => h, ?_⟩
      refine ⟨_, rfl, _, rfl, W, _, rfl, .inl (SqL.of hW'), _, _, rfl, rfl, _, _, rfl, rfl, _, rfl, ite2 (fun c => ?_) (fun c => ?_)⟩
      · have c1 : (60 : Int) < (n : Int) + ((vs ++ [y]).length : Nat) := of_decide_eq_true c
        have er2 : res = false := by
          rw [er]
          cases hp : PGB (qs ++ [q]) with
          | false => rfl
          | true =>
            have := PGB_len hp
            rw [Bool.true_and]
            exact decide_eq_false (by omega)
        rw [er2] at k
        exact k _ s
      have c1 : ¬ (60 : Int) < (n : Int) + ((vs ++ [y]).length : Nat) := fun z => c (decide_eq_true z)
      refine ⟨_, rfl, .inl ⟨rfl, _, SqL.of hW'⟩, W, _, y, rfl, rfl, hW', last_snoc, ?_⟩
      rw [dropLast_snoc]
      have k2 : KT H' (upd H' W (.lst vs)) := .lst hW'
      have s2 : Same H (upd H' W (.lst vs)) := same_mut s nW
      have hW2 : (upd H' W (.lst vs)) W = some (.lst vs) := upd_same
      replace pb := pb.kt k2
      replace pq := pq.kt k2
      generalize upd H' W (.lst vs) = H2 at s2 hW2 pb pq
      obtain ⟨b, v, rfl, hb, tv⟩ := pq
      refine ⟨b, _, rfl, SqT.of hb, rfl, _, _, rfl, _, _, rfl, rfl, ?_⟩
      obtain ⟨d, o'⟩ := q
      dsimp only at tv hb
      have lyq : layPs qs := fun z hz => ly z (List.mem_append_left _ hz)
      have ld : d.canLay0 = true := ly (d, o') (List.mem_append_right _ List.mem_cons_self)
      rw [PGB_snoc, onesPs_snoc] at er
      rw [szPs_snoc] at few' ⊢
      have lv2 := pb.len
      have pz := szP_pos d
      dsimp only at er few' ⊢
      rw [List.length_append, List.length_singleton] at c1
      have tv2 := tv.ks (KS.same s2)
      by_cases h1 : d = .int 1
      · subst h1
        cases tv
        refine ⟨_, rfl, _, rfl, .int 1, _, rfl, iteT ⟨_, rfl, rfl, _, rfl, iteT ⟨_, rfl, _, _, rfl, rfl, szPs qs, by omega, _, _, _, n + 1, vs, qs, rfl, rfl, s2, hW2, pb, lyq, by omega, ?_, by omega⟩⟩⟩
        rw [er, show gB (60 - o') (.int 1) = true by rw [gB]; rfl, Bool.and_true, show onesP (.int 1) = 1 from rfl, show n + 1 + onesPs qs = n + (onesPs qs + 1) by omega]
      -- no one
      have fin : gB (60 - o') d = false → Q (.bl false) H2 := fun z => by
        rw [er, z, Bool.and_false, Bool.false_and] at k
        exact k _ s2
      refine ⟨_, rfl, _, rfl, plain_th tv2, _, rfl, ?_⟩
      cases hi : isIntV v with
      | true =>
        obtain ⟨i, rfl⟩ := int_of hi
        cases tv
        have f2 := fin (by rw [gB]; exact decide_eq_false fun z => h1 (by rw [z]))
        refine iteT ⟨_, rfl, rfl, _, rfl, iteF' (fun z => h1 (by rw [V.int.inj z])) ?_⟩
        exact ⟨_, rfl, _, _, rfl, rfl, _, rfl, ite2 (fun _ => ⟨_, rfl, _, _, rfl, tv2, ld, _, rfl, iteF f2⟩) (fun _ => iteF f2)⟩
      | false =>
        refine iteF (iteF ⟨_, rfl, _, _, rfl, rfl, _, rfl, ite2 (fun c2 => ⟨_, rfl, _, _, rfl, tv2, ld, _, rfl, ?_⟩) (fun c2 => iteF (fin (gB_no h1 (.inl ?_))))⟩)
        rotate_left
        · have : ¬ (o' : Int) < 60 := fun z => c2 (decide_eq_true z)
          omega
        have o60 : (o' : Int) < 60 := of_decide_eq_true c2
        cases hj : joinedP d with
        | false => exact iteF (fin (gB_no h1 (.inr hj)))
        | true =>
          obtain ⟨w', es, rfl, ne', _⟩ := joined_inv hj
          clear fin
          cases tv with
          | tup ha' tr0 =>
            cases tr0 with
            | cons tw tr' =>
              rename_i a' v0 xs'
              have eg : gB (60 - o') (.tuple (.str w' :: es)) = gBAll (60 - (o' + 1)) es := by
                have z := gB_tup (k := 60 - (o' + 1)) hj
                rw [show 60 - (o' + 1) + 1 = 60 - o' by omega] at z
                exact z
              rw [eg, onesP, onesAll, show onesP (.str w') = 0 from rfl, Nat.zero_add] at er
              rw [szP, szAll] at few' ⊢
              have lr := tr'.len
              have lz' := len_sz es
              refine iteT ⟨_, rfl, .inl ⟨rfl, _, SqL.of hW2⟩, _, rfl, 1, rfl, piece_dropC (i := 1) rfl (s2 _ _ ha') fun H3 p' s3 hp3 => ?_⟩
              rw [List.drop_succ_cons, List.drop_zero] at hp3
              have hW3 := s3 _ _ hW2
              have s23 := s2.trans s3
              replace pb := pb.kt (KT.same s3)
              refine ⟨p', rfl, ⟨_, SqT.of hp3⟩, fun D hD => lc_relT (fun i y H1 => ∃ d, es[i]? = some d ∧ PrR H H1 y (d, o' + 1)) (fun i y H1 H2 r s => ?_) (fun i y H1 l o' hl r => ?_) (SqT.of hp3) hD (by omega) (fun x => rfl) (fun i x hx H1 s1 R g => ?_) (fun H1 zs s1 hD1 lz rz => ?_)⟩
              · obtain ⟨d, hd, r⟩ := r
                exact ⟨d, hd, r.kt (KT.same s)⟩
              · obtain ⟨d, hd, r⟩ := r
                exact ⟨d, hd, r.kt (KT.lst hl)⟩
              · obtain ⟨d', hd', td'⟩ := tr'.get hx
                exact ⟨_, rfl, _, rfl, _, _, rfl, rfl, by show 2 ≤ sizeLine; decide, fun p hp => g _ _ (same_new hp) ⟨d', hd', p, x, rfl, upd_same, td'⟩⟩
              · have hW4 := s1 _ _ hW3
                have pzs := prAll_of (by omega : zs.length = es.length) rz
                refine ⟨W, D, vs, zs, rfl, rfl, hW4, hD1, by omega, szPs (qs ++ es.map fun d => (d, o' + 1)), ?_, _, _, _, n, vs ++ zs, qs ++ es.map fun d => (d, o' + 1), rfl, rfl, same_mut (s23.trans s1) nW, upd_same, ?_, ?_, n60, ?_, ?_⟩
                · rw [szPs_put]
                  omega
                · exact ((pb.kt (KT.same s1)).app pzs).kt (KT.lst hW4)
                · intro z hz
                  rcases List.mem_append.mp hz with hz | hz
                  · exact lyq z hz
                  · obtain ⟨d, hd, rfl⟩ := List.mem_map.mp hz
                    rw [PyData.canLay0, PyData.canLayAll0, Bool.and_eq_true] at ld
                    exact lay_mem ld.2 d hd
                · rw [PGB_put, onesPs_put]
                  exact er
                · rw [szPs_put]
                  omega
theorem has_part (T : Top K mg) (h__are_parts : Has P w K mg base 2 "_are_parts" ["things", "around"] spAreG) : Has P w K mg base 3 "is_part" ["thing"] spPart := by
  refine has_of T.d_is_part sc_is_part bd_is_part (fun vs H Q E h => ?_) (fun f cdv A outer s H vs Q E hr h => ?_)
  · obtain ⟨v, d, rfl, _⟩ := h
    rfl
  · have hu := hu_of hr
    have nd := sc_is_part.nd
    obtain ⟨v, d, rfl, th, lay, few, k⟩ := h
    refine ⟨_, (pss_one (ps_ret (pe_has h__are_parts (hr.mono (by omega)) (by rfl) (pa_cons (pe_tup (pa_cons (pv 0) pa_nil)) (pa_cons pe_int pa_nil))))), ?_⟩
    refine ⟨_, rfl, by show 1 ≤ sizeLine; decide, fun p hp => ⟨p, 0, [v], [d], rfl, upd_same, .cons (th.ks (KS.same (same_new hp))) .nil, ?_, ?_, fun H' s => ?_⟩⟩
    · rw [PyData.canLayAll0, lay, PyData.canLayAll0]
      rfl
    · rw [szAll, szAll]
      omega
    · rw [gBAll, gBAll, Bool.and_true, onesAll, onesAll, Nat.add_zero]
      exact k H' ((same_new hp).trans s)
theorem has_plan (T : Top K mg) (h__are_parts : Has P w K mg base 2 "_are_parts" ["things", "around"] spAreG) : Has P w K mg base 3 "is_plan" ["thing"] spPlan := by
  refine has_of T.d_is_plan sc_is_plan bd_is_plan (fun vs H Q E h => ?_) (fun f cdv A outer s H vs Q E hr h => ?_)
  · obtain ⟨v, d, rfl, _⟩ := h
    rfl
  · have hu := hu_of hr
    have nd := sc_is_plan.nd
    obtain ⟨v, d, rfl, th, lay, few, k⟩ := h
    refine ⟨_, (pss_cons (ps_if (PW.pt (pw_or (pt_not (pt_val (pe_callB call_isi (by rfl) T.b_isinstance (by decide +kernel) (pa_cons (pv 0) (pa_cons (pe_bltn (v := .ty "tuple") (u := .type "tuple") (by rfl) T.b_tuple (by decide +kernel) (by rfl)) pa_nil))))) (pw_or1 (pt_cmpR op_lt (pe_callB call_len_seq (by rfl) T.b_len (by decide +kernel) (pa_cons (pv 0) pa_nil)) pe_int (nomark _))))) (pss_one (ps_ret pe_bl)) pss_nil)
    (pss_one (ps_ret (pe_and (pe_cmpR (op_inS hr.units) (pe_ix ix_tup (pv 0) pe_int (fun _ _ => rfl)) (pe_tup (pa_cons pe_str (pa_cons pe_str pa_nil))) (by rfl)) (pe_one (pe_has h__are_parts (hr.mono (by omega)) (by rfl) (pa_cons (pe_slice sl_tupA (pv 0) (po_some pe_int) po_none) (pa_cons pe_int pa_nil)))))))), ?_⟩
    refine ⟨_, rfl, _, .ty "tuple", _, _, _, rfl, .ty _, th_ty th, kit_tupl th, _, rfl, ?_⟩
    cases ht : isT d with
    | false =>
      refine iteT (iteT ?_)
      have e : planP d = false := by
        cases d <;> first | rfl | cases ht
      rw [e] at k
      exact k _ (Same.refl _)
    | true =>
      obtain ⟨a, xs, ds, rfl, rfl, ha, tr⟩ := th_tup th ht
      have lx := tr.len
      refine iteF ⟨_, rfl, a, _, rfl, .inr (SqT.of ha), _, _, rfl, rfl, _, rfl, ite2 (fun c0 => ?_) (fun c0 => ?_)⟩
      · have c := of_decide_eq_true c0
        rw [plan_short (by omega)] at k
        exact k _ (Same.refl _)
      · replace c0 : ¬ ((xs.length : Nat) : Int) < 2 := fun z => c0 (decide_eq_true z)
        cases tr with
        | nil => exact absurd (by decide) c0
        | cons h1 h2 =>
          rename_i v0 xs d0 es
          have l2 := h2.len
          have ne : es ≠ [] := fun z => by
            rw [z] at l2
            rw [List.length_cons, l2] at c0
            exact c0 (by decide)
          have hat : atI (v0 :: xs) 0 = some v0 := at_of (j := 0) rfl rfl
          rw [PyData.canLay0, PyData.canLayAll0, Bool.and_eq_true] at lay
          rw [szP, szAll] at few
          refine ⟨_, rfl, a, _, _, _, rfl, rfl, SqT.of ha, hat, by show 2 ≤ sizeLine; decide, fun p hp => ⟨d0, [.str "pairs", .str "codes"], (h1.ks (KS.same (same_new hp))).dp, .tup (SqT.of upd_same) (.cons (.str _) (.cons (.str _) .nil)), lay.1, by decide +kernel, by rfl, _, rfl, ?_⟩⟩
          rw [← plan_eq ne]
          cases h0 : planP (.tuple (d0 :: es)) with
          | false =>
            rw [h0] at k
            exact iteF (k _ (same_new hp))
          | true =>
            rw [h0, Bool.true_and] at k
            refine iteT ⟨_, rfl, 1, rfl, piece_dropC (i := 1) rfl (same_new hp _ _ ha) fun H3 p3 s3 hp3 => ?_⟩
            exact ⟨p3, 1, xs, es, rfl, hp3, h2.ks (KS.same ((same_new hp).trans s3)), lay.2, by omega, fun H' s' => k H' ((same_new hp).trans (s3.trans s'))⟩
end

/-! ### plans as a law draws them -/
def spLPlan (N : Nat) : Sp := fun vs H Q _ => ∃ (t c : Addr) (many j : Nat) (most : Int), vs = [.ref t, .int many, .int most] ∧ Tape H t c j ∧ j + 12 * many + 20 < 2 ^ 40 ∧ 1 ≤ many ∧ many ≤ 1000 ∧ many + 3 ≤ N ∧
  ∀ (H' : Hp) (v : V) (z : Str) (ds : List PyData), Tape H' t c (j + 12 * many + 3) → Kp t H H' → Tp H' v (.tuple (.str z :: ds)) → (z = "pairs" ∨ (z = "codes" ∧ most = 1)) → PaAll (many + 2) many ds → Q v H'
section
variable {P : Program} {w : World} {K : PySem.W.Frag} {mg : Str → Option Value} {base : Heap}
theorem has_lplan (T : Top K mg) (h__law_draw : Has P w K mg base 1 "_law_draw" ["_law_tape", "_law_many"] spDraw) {l N : Nat} (hl : l ≤ N + 3) (h__law_part : Has P w K mg base l "_law_part" ["_law_tape", "_law_many", "_law_deep"] (spLPart N)) :
    Has P w K mg base (N + 4) "_law_plan" ["_law_tape", "_law_many", "_law_most"] (spLPlan N) := by
  refine has_of (k := N + 3) T.d__law_plan sc__law_plan bd__law_plan (fun vs H Q E h => ?_) (fun f cdv A outer s H vs Q E hr h => ?_)
  · obtain ⟨t, c, many, j, most, rfl, _⟩ := h
    rfl
  · have hu := hu_of hr
    have nd := sc__law_plan.nd
    obtain ⟨t, c, many, j, most, rfl, tp, lim, m1, m60, lv, k⟩ := h
    refine ⟨_, (pss_cons (ps_asg (pe_tup (pa_cons (pe_wk (uTape "codes" "pairs" 2) (pe_ifExp (PW.pt (pw_and (pt_cmpR op_eq (pv 2) pe_int (nomark _)) (pw_and1 (pt_cmpR op_eq (pe_has h__law_draw (hr.mono (by omega)) (by rfl) (pa_cons (pv 0) (pa_cons pe_int pa_nil))) pe_int (nomark _))))) pe_str pe_str) ?word) (pa_cons pe_int pa_nil))) (pg_tup (by rfl) (pgs_cons (pg_name (i := 3) nd rfl (.inl rfl)) (pgs_cons (pg_name (i := 4) nd rfl (.inr rfl)) pgs_nil))))
    (pss_cons (ps_par (i := 5) (j := 6) (by rfl) nd rfl rfl (by decide) rfl rfl (pa_cons (pe_has h__law_draw (hr.mono (by omega)) (by rfl) (pa_cons (pv 0) (pa_cons pe_int pa_nil))) (pa_cons (pe_op op_add pe_int (pe_has h__law_draw (hr.mono (by omega)) (by rfl) (pa_cons (pv 0) (pa_cons (pe_callB (call_max2 rfl) (by rfl) T.b_max (by decide +kernel) (pa_cons pe_int (pa_cons (pe_op op_sub (pv 1) pe_int) pa_nil))) pa_nil)))) pa_nil)) (by rfl))
    (pss_cons (ps_if (pt_wk (tIO 5 1 (fun n => decide (n = 0)) (fun n => decide (n = 1))) (PW.pt (pw_or (pt_cmpR op_eq (pv 5) pe_int (nomark _)) (pw_or1 (pt_cmpR op_eq (pv 1) pe_int (nomark _))))) ?flat) (pss_one (ps_ret (pe_op op_catA (pe_tup (pa_cons (pv 3) pa_nil)) (pe_op op_repT1 (pe_tup (pa_cons pe_int pa_nil)) (pv 1))))) pss_nil)
    (pss_cons (ps_if (pt_wk (tII 5 1 (fun n => decide (n = 1)) (fun n => decide (n > 2))) (PW.pt (pw_and (pt_cmpR op_eq (pv 5) pe_int (nomark _)) (pw_and1 (pt_cmpR op_gt (pv 1) pe_int (nomark _))))) ?three) (pss_cons (ps_set (i := 7) nd rfl (.inl rfl) (pe_tup (pa_cons (pv 6) (pa_cons pe_int (pa_cons (pe_op op_sub (pe_op op_sub (pv 1) (pv 6)) pe_int) pa_nil)))))
    (pss_one (ps_ret (pe_op op_catA (pe_tup (pa_cons (pv 3) pa_nil)) (pe_callTy call_tuple_of (by rfl) T.b_tuple (by decide +kernel) (pa_cons (pe_lc (own := [("_law_one", 8)]) (by rfl) nd (pi_tup (pv 7)) (blkOk_by (own := [("_law_one", 8)]) (N := nm__law_plan) (sc := defScope s__law_plan) (by decide +kernel)) (fun _ _ _ _ _ => pg_name (i := 8) nd rfl (.inl rfl)) (fun _ _ _ _ _ => pts_one (pt_cmpR op_gt (pv 8) pe_int (nomark _))) (fun _ _ _ _ _ => (pe_has h__law_part (hr.mono (by omega)) (by rfl) (pa_cons (pv 0) (pa_cons (pv 8) (pa_cons (pv 4) pa_nil)))))) pa_nil)))))) pss_nil)
    (pss_one (ps_ret (pe_tup (pa_cons (pv 3) (pa_cons (pe_has h__law_part (hr.mono (by omega)) (by rfl) (pa_cons (pv 0) (pa_cons (pv 6) (pa_cons (pv 4) pa_nil)))) (pa_cons (pe_has h__law_part (hr.mono (by omega)) (by rfl) (pa_cons (pv 0) (pa_cons (pe_op op_sub (pv 1) (pv 6)) (pa_cons (pv 4) pa_nil)))) pa_nil)))))))))), ?_⟩
    case word =>
      rintro σ H R ⟨n, t, c, j, e1, e2, tp, lim, r⟩
      refine ⟨_, e1, rfl, _, rfl, ite2 (fun c0 => ?_) (fun _ => iteF (r _ _ (.inr rfl) (tp.le (by omega)) (Kp.refl _)))⟩
      have c1 : n = 1 := V.int.inj (of_decide_eq_true c0)
      exact ⟨_, e2, t, c, 3, j, rfl, tp, lim, by decide, pow8000 (by decide), fun H1 r1 a1 b1 tp1 kp1 => ⟨rfl, _, rfl, ite2 (fun _ => r _ _ (.inl ⟨rfl, c1⟩) tp1 kp1) (fun _ => r _ _ (.inr rfl) tp1 kp1)⟩⟩
    case flat =>
      rintro σ H R ⟨n, m, e1, e2, r⟩
      replace r : R (decide (n = 0) || decide (m = 1)) H := r
      refine ⟨_, e1, rfl, _, rfl, ?_⟩
      by_cases h : n = 0
      · rw [decide_eq_true h, Bool.true_or] at r
        exact iteT' (by rw [h]) r
      · rw [decide_eq_false h, Bool.false_or] at r
        refine iteF' (fun z => h (V.int.inj z)) ⟨_, e2, rfl, _, rfl, ?_⟩
        rw [show decide (V.int m = V.int 1) = decide (m = 1) from decide_eq_decide.mpr ⟨fun z => V.int.inj z, fun z => by rw [z]⟩]
        exact r
    case three =>
      rintro σ H R ⟨n, m, e1, e2, r⟩
      replace r : R (decide (n = 1) && decide (m > 2)) H := r
      refine ⟨_, e1, rfl, _, rfl, ?_⟩
      by_cases h : n = 1
      · rw [decide_eq_true h, Bool.true_and] at r
        exact iteT' (by rw [h]) ⟨_, e2, _, _, rfl, rfl, _, rfl, r⟩
      · rw [decide_eq_false h, Bool.false_and] at r
        exact iteF' (fun z => h (V.int.inj z)) r
    have line : (200000 : Nat) < sizeLine := by decide
    refine ⟨most, t, c, j, rfl, rfl, tp, by omega, fun z H1 hz tp1 kp1 => ⟨by show 2 ≤ sizeLine; decide, fun p hp => ⟨p, _, rfl, SqT.of upd_same, rfl, _, _, rfl, _, _, rfl, rfl, ?_⟩⟩⟩
    have tp2 := tp1.new hp (o := .tup [.str z, .int 2])
    have k2 : Kp t H (upd H1 p (.tup [.str z, .int 2])) := kp1.trans (Kp.new hp)
    generalize upd H1 p (.tup [.str z, .int 2]) = H2 at tp2 k2 ⊢
    clear kp1 tp1 hp
    replace hz : z = "pairs" ∨ (z = "codes" ∧ most = 1) := hz.symm
    obtain ⟨m, em, m0, mb, m2, mm1⟩ : ∃ m : Int, (if (many : Int) - 1 > 1 then (many : Int) - 1 else 1) = m ∧ 0 < m ∧ m ≤ 1000 ∧ (2 ≤ many → m = many - 1) ∧ (many = 1 → m = 1) := ⟨_, rfl, by split <;> omega, by split <;> omega, fun z => by split <;> omega, fun z => by split <;> omega⟩
    refine ⟨_, rfl, t, c, 4, j + 1, rfl, tp2, by omega, by decide, pow8000 (by decide), fun H3 r3 a3 b3 tp3 kp3 => ?_⟩
    refine ⟨_, rfl, _, rfl, _, _, rfl, rfl, _, _, rfl, t, c, m, j + 1 + 1, congrArg (fun z => [V.ref t, V.int z]) em, tp3, by omega, m0, pow8000 (by omega), fun H4 r a1 b1 tp4 kp4 => ?_⟩
    obtain ⟨x, ex⟩ : ∃ x : Nat, 1 + r = (x : Int) := ⟨(1 + r).toNat, by omega⟩
    refine ⟨_, _, rfl, rfl, ?_⟩
    generalize hv : (fun i j : Int => V.int (i + j)) 1 r = nv
    obtain rfl : nv = V.int (x : Int) := hv.symm.trans (congrArg V.int ex)
    have k4 : Kp t H H4 := (k2.trans kp3).trans kp4
    clear hv kp3 kp4 k2 tp2 tp3 em
    refine ⟨_, _, rfl, r3, many, rfl, rfl, ite2 (fun _ => ?_) (fun cb => ?_)⟩
    · -- ones alone
      refine ⟨_, rfl, by show 1 ≤ sizeLine; decide, fun p hp => ⟨by show 1 ≤ sizeLine; decide, fun q hq => ⟨_, rfl, ?_⟩⟩⟩
      have s1 : Same H4 (upd (upd H4 p (.tup [.str z])) q (.tup [.int 1])) := (same_new hp).trans (same_new hq)
      have hp2 := same_new hq (o := .tup [.int 1]) _ _ (show (upd H4 p (.tup [.str z])) p = some (.tup [.str z]) from upd_same)
      have hq2 : (upd (upd H4 p (.tup [.str z])) q (.tup [.int 1])) q = some (.tup [.int 1]) := upd_same
      generalize upd (upd H4 p (.tup [.str z])) q (.tup [.int 1]) = H5 at s1 hp2 hq2 ⊢
      by_cases c1 : many = 1
      · subst c1
        refine .inl ⟨q, [.int 1], rfl, rfl, SqT.of hq2, ?_⟩
        refine tup_catA hp2 hq2 (by show 2 ≤ sizeLine; decide) fun H' a s ha => ?_
        have s4 := s1.trans s
        exact k _ _ _ _ ((tp4.same s4).le (by omega)) (k4.trans (Kp.same s4)) (.tup ha (.cons (.str _) (.cons (.int 1) .nil))) hz (paAll_ones _ 1)
      · refine .inr ⟨q, many, [.int 1], rfl, rfl, SqT.of hq2, by simp, by omega, by omega, by decide, fun r hr => ?_⟩
        rw [flat_one, show ((many : Nat) : Int).toNat = many from rfl] at *
        refine tup_catA (same_new hr _ _ hp2) upd_same (by rw [List.length_replicate, List.length_singleton]; omega) fun H' a s ha => ?_
        have s4 : Same H4 H' := s1.trans ((same_new hr).trans s)
        exact k _ _ _ _ ((tp4.same s4).le (by omega)) (k4.trans (Kp.same s4)) (.tup ha (.cons (.str _) (tp_rep (.int 1) many))) hz (paAll_ones _ many)
    have cb : 2 ≤ many := by
      have : ¬ many = 1 := fun z => cb (by
        rw [Bool.or_eq_true]
        exact .inr (decide_eq_true (by rw [z]; rfl)))
      omega
    have em := m2 cb
    have x1 : 1 ≤ x := by omega
    have x2 : x + 1 ≤ many := by omega
    refine ⟨r3, many, rfl, rfl, ite2 (fun _ => ?_) (fun _ => ?_)⟩
    · -- three
      refine ⟨_, rfl, _, rfl, _, rfl, _, _, rfl, rfl, _, _, rfl, rfl, by show 3 ≤ sizeLine; decide, fun S nS => ⟨_, rfl, by show 1 ≤ sizeLine; decide, fun p1 h1 => ?_⟩⟩
      have hS : (upd H4 S (.tup [V.int (x : Int), V.int 1, V.int ((many : Int) - (x : Int) - 1)])) S = some (.tup [V.int (x : Int), V.int ((1 : Nat) : Int), V.int ((many - x - 1 : Nat) : Int)]) := by
        rw [upd_same, show ((many - x - 1 : Nat) : Int) = (many : Int) - (x : Int) - 1 by omega]
        rfl
      have tpS := (tp4.new nS (o := .tup [V.int (x : Int), V.int 1, V.int ((many : Int) - (x : Int) - 1)])).new h1 (o := .tup [.str z])
      have kS : Kp t H (upd (upd H4 S (.tup [V.int (x : Int), V.int 1, V.int ((many : Int) - (x : Int) - 1)])) p1 (.tup [.str z])) := k4.trans ((Kp.new nS).trans (Kp.new h1))
      have hS2 := same_new h1 (o := .tup [.str z]) _ _ hS
      have hp2 : (upd (upd H4 S (.tup [V.int (x : Int), V.int 1, V.int ((many : Int) - (x : Int) - 1)])) p1 (.tup [.str z])) p1 = some (.tup [.str z]) := upd_same
      generalize upd (upd H4 S (.tup [V.int (x : Int), V.int 1, V.int ((many : Int) - (x : Int) - 1)])) p1 (.tup [.str z]) = H5 at tpS kS hS2 hp2 ⊢
      refine ⟨_, rfl, S, rfl, ⟨_, SqT.of hS2⟩, fun D nD => lc_tup (xs := [x, 1, many - x - 1].map fun y : Nat => V.int (y : Int)) (fun i H' => ∃ e, e ≤ j + 3 + 12 * (([x, 1, many - x - 1].take i).sum) ∧ LS H5 H' t c D (many + 2) (([x, 1, many - x - 1].take i).sum) e) ⟨j + 1 + 1 + 1, by simp, .new tpS nD⟩ (fun i H' _ z => ?_) (fun i y H' hy z => ?_) (fun H' z => ?_)⟩
      · obtain ⟨e, _, z⟩ := z
        exact SqT.of (KT.kp tpS z.kp _ _ hS2)
      · obtain ⟨e, he, z⟩ := z
        obtain ⟨b, rfl, hl2, hs, hsum⟩ : ∃ b : Nat, y = V.int (b : Int) ∧ b + 1 ≤ many ∧ ([x, 1, many - x - 1].take (i + 1)).sum = ([x, 1, many - x - 1].take i).sum + b ∧ ([x, 1, many - x - 1].take i).sum + b ≤ many := by
          match i, hy with
          | 0, hy => cases hy; exact ⟨x, rfl, by omega, by simp, by simp; omega⟩
          | 1, hy => cases hy; exact ⟨1, rfl, by omega, by simp, by simp; omega⟩
          | 2, hy => cases hy; exact ⟨many - x - 1, rfl, by omega, by simp; omega, by simp; omega⟩
          | i + 3, hy => exact absurd hy (by simp)
        rw [hs]
        refine ⟨rfl, _, rfl, _, _, rfl, rfl, _, rfl, ?_⟩
        by_cases hb : 0 < b
        · refine iteT' (by omega) ⟨_, rfl, _, rfl, _, rfl, t, c, b, 2, e, rfl, z.tp, by omega, hb, by omega, by omega, fun H6 v d tp6 kp6 tv pa => ?_⟩
          obtain ⟨acc, ha, hb, zz⟩ := z.put (by omega) tp6 kp6 tv (pa.up (by omega))
          exact ⟨acc, ha, hb, _, by omega, zz⟩
        · obtain rfl : b = 0 := by omega
          exact iteF' (by omega) ⟨e, he, z⟩
      · obtain ⟨e, he, z⟩ := z
        have es : ([x, 1, many - x - 1].take ([x, 1, many - x - 1].map fun y : Nat => V.int (y : Int)).length).sum = many := by
          simp
          omega
        rw [es] at he z
        obtain ⟨vs, ds, hD, ta, pl⟩ := z.ex
        have l1 := ta.len
        have l2 := pl.pos
        refine ⟨D, _, rfl, .inl ⟨SqL.of hD, fun r nr => ?_⟩⟩
        have hp3 := KT.kp tpS z.kp _ _ hp2
        refine tup_catA (same_new nr _ _ hp3) upd_same (by rw [List.length_singleton]; omega) fun H' a s ha => ?_
        have s4 := (same_new nr).trans s
        exact k _ _ _ _ ((z.tp.same s4).le (by omega)) ((kS.trans z.kp).trans (Kp.same s4)) (.tup ha (.cons (.str _) (ta.kt (KT.same s4)))) hz pl
    -- two
    refine ⟨_, rfl, _, rfl, _, rfl, _, rfl, t, c, x, 2, j + 1 + 1 + 1, rfl, tp4, by omega, x1, by omega, by omega, fun H6 v6 d6 tp6 kp6 tv6 pa6 => ?_⟩
    refine ⟨_, rfl, _, rfl, _, rfl, _, _, rfl, rfl, _, rfl, t, c, many - x, 2, _, ?_, tp6, by omega, by omega, by omega, by omega, fun H7 v7 d7 tp7 kp7 tv7 pa7 => ⟨by show 3 ≤ sizeLine; decide, fun p hp => ?_⟩⟩
    · show [V.ref t, V.int ((many : Int) - (x : Int)), V.int 2] = _
      rw [show ((many - x : Nat) : Int) = (many : Int) - (x : Int) by omega]
      rfl
    · have all := PaAll.cons (pa6.up (m' := many + 2) (by omega)) (.cons (pa7.up (m' := many + 2) (by omega)) .nil)
      rw [show x + (many - x + 0) = many by omega] at all
      exact k _ _ _ _ ((tp7.new hp).le (by omega)) (((k4.trans kp6).trans kp7).trans (Kp.new hp)) (.new hp (.cons (.str _) (.cons (tv6.kt (KT.kp tp6 kp7)) (.cons tv7 .nil)))) hz all
end

/-! ### what the law's parts and plans keep -/
def Word4 (w : Str) : Prop := w = "sums" ∨ w = "net" ∨ w = "pairs" ∨ w = "codes"
theorem w4 {w : Str} (h : Word4 w) : (∀ a ∈ w.cps.toList, Unicode.isSpace a = false ∧ a ≠ 40 ∧ a ≠ 41) ∧ PyData.canLay0 (.str w) = true ∧ (w.cps.toList.all fun c => decide (c < 16 ^ 8)) = true ∧ w.cps.size ≤ 5 := by
  rcases h with rfl | rfl | rfl | rfl <;> exact ⟨by decide +kernel, by decide +kernel, by decide +kernel, by decide +kernel⟩
mutual
inductive Wd : PyData → Prop
  | one : Wd (.int 1)
  | tup {w : Str} {ds : List PyData} : Word4 w → ds ≠ [] → WdAll ds → Wd (.tuple (.str w :: ds))
inductive WdAll : List PyData → Prop
  | nil : WdAll []
  | cons {d : PyData} {ds : List PyData} : Wd d → WdAll ds → WdAll (d :: ds)
end
theorem show_one : showL (.int 1) = [49] := by
  rw [showL]
  intro _ z
  cases z
mutual
theorem Wd.facts : ∀ {d : PyData}, Wd d → Sy d ∧ d.canLay0 = true ∧ Lf d ∧ Wt d ∧ (showL d).length + 1 ≤ 8 * szP d ∧ d.bulk + 1 ≤ 8 * szP d
  | _, .one => ⟨.one, rfl, lf_one, .one, by rw [show_one]; decide, by decide⟩
  | _, .tup (w := w) (ds := ds) hw ne r => by
    obtain ⟨a, b, c, d, e, f⟩ := WdAll.facts r
    obtain ⟨w1, w2, w3, w5⟩ := w4 hw
    have l1 : w.cps.toList.length = w.cps.size := Array.length_toList
    have l2 : (showsHd ds).length ≤ (restsL ds).length := by
      cases ds with
      | nil => exact absurd rfl ne
      | cons y ds =>
        rw [showsHd, restsL, List.length_cons]
        omega
    refine ⟨.tup w1 a, ?_, .tup (.cons (.str w w3) c), .tup _ ne d, ?_, ?_⟩
    · rw [PyData.canLay0, PyData.canLayAll0, w2, b]
      rfl
    · rw [show_tup, List.length_append, List.length_cons, List.length_append, List.length_singleton, szP, szAll, show szP (.str w) = 1 from rfl]
      omega
    · rw [PyData.bulk, PyData.bulkAll, PyData.bulk, szP, szAll, show szP (.str w) = 1 from rfl]
      omega
theorem WdAll.facts : ∀ {ds : List PyData}, WdAll ds → SyAll ds ∧ PyData.canLayAll0 ds = true ∧ LfAll ds ∧ WtAll ds ∧ (restsL ds).length ≤ 8 * szAll ds ∧ PyData.bulkAll ds ≤ 8 * szAll ds
  | _, .nil => ⟨.nil, by rw [PyData.canLayAll0], .nil, .nil, by rw [restsL]; exact Nat.zero_le _, by rw [PyData.bulkAll]; exact Nat.zero_le _⟩
  | _, .cons h r => by
    obtain ⟨a, b, c, d, e, f⟩ := Wd.facts h
    obtain ⟨a2, b2, c2, d2, e2, f2⟩ := WdAll.facts r
    refine ⟨.cons a a2, by rw [PyData.canLayAll0, b, b2]; rfl, .cons c c2, .cons d d2, ?_, ?_⟩
    · rw [restsL, List.length_cons, List.length_append, szAll]
      omega
    · rw [PyData.bulkAll, szAll]
      omega
end
mutual
theorem Pa.wd : ∀ {m n : Nat} {d : PyData}, Pa m n d → Wd d
  | _, _, _, .one => .one
  | _, _, _, .tup (w := w) (ds := ds) j r => by
    obtain ⟨w', es, z, ne, hw⟩ := joined_inv j
    cases z
    refine .tup ?_ ne (PaAll.wd r)
    rcases hw with h | ⟨h, _⟩
    · exact .inl h
    · exact .inr (.inl h)
theorem PaAll.wd : ∀ {m n : Nat} {ds : List PyData}, PaAll m n ds → WdAll ds
  | _, _, _, .nil => .nil
  | _, _, _, .cons h r => .cons (Pa.wd h) (PaAll.wd r)
end
mutual
theorem Pa.dep : ∀ {m n : Nat} {d : PyData}, Pa m n d → d.depth ≤ m
  | _, _, _, .one => Nat.zero_le _
  | _, _, _, .tup j r => by
    have := PaAll.dep r
    rw [PyData.depth, PyData.depthAll, PyData.depth]
    omega
theorem PaAll.dep : ∀ {m n : Nat} {ds : List PyData}, PaAll m n ds → PyData.depthAll ds ≤ m
  | _, _, _, .nil => Nat.zero_le _
  | _, _, _, .cons h r => by
    have := Pa.dep h
    have := PaAll.dep r
    rw [PyData.depthAll]
    omega
end
mutual
theorem Pa.gb : ∀ {m n : Nat} {d : PyData}, Pa m n d → ∀ {k : Nat}, m ≤ k → gB k d = true
  | _, _, _, .one, _, _ => by rw [gB]; rfl
  | _, _, _, .tup j r, 0, h => absurd h (by omega)
  | _, _, _, .tup j r, k + 1, h => by
    rw [gB_tup j]
    exact PaAll.gb r (Nat.le_of_succ_le_succ h)
theorem PaAll.gb : ∀ {m n : Nat} {ds : List PyData}, PaAll m n ds → ∀ {k : Nat}, m ≤ k → gBAll k ds = true
  | _, _, _, .nil, _, _ => by rw [gBAll]
  | _, _, _, .cons h r, _, l => by
    rw [gBAll, Pa.gb h l, PaAll.gb r l]
    rfl
end
structure LDt (n : Nat) (d : PyData) : Prop where
  sy : Sy d
  lay : d.canLay0 = true
  wt : Wt d
  few : (showL d).length ≤ 100000
  dp : d.depth ≤ 60
  ones : onesP d = n
  sz : szP d ≤ 10000
  showy : Showy d
  is : (gB 60 d && decide (onesP d ≤ 60)) = true ∨ (planP d && (gBAll 59 (tlP d) && decide (onesAll (tlP d) ≤ 60))) = true
theorem ldt_of {n : Nat} {d : PyData} (wd : Wd d) (dp : d.depth ≤ 60) (ones : onesP d = n) (sz : szP d ≤ 10000) (is : (gB 60 d && decide (onesP d ≤ 60)) = true ∨ (planP d && (gBAll 59 (tlP d) && decide (onesAll (tlP d) ≤ 60))) = true) : LDt n d := by
  obtain ⟨a, b, c, e, f, g⟩ := wd.facts
  exact ⟨a, b, e, by omega, dp, ones, sz, c.showy2 dp (by omega), is⟩
theorem ld_pa {m n : Nat} {d : PyData} (h : Pa m n d) (hm : m ≤ 60) (hn : n ≤ 60) : LDt n d := by
  have h := h.up hm
  have sz := h.sz
  refine ldt_of h.wd h.dep h.ones ?_ (.inl ?_)
  · have : n * (2 * 60 + 1) ≤ 60 * (2 * 60 + 1) := Nat.mul_le_mul_right _ hn
    omega
  · rw [h.gb (Nat.le_refl _), h.ones, decide_eq_true hn]
    rfl
theorem ld_plan {m n : Nat} {z : Str} {ds : List PyData} (hz : z = "pairs" ∨ z = "codes") (h : PaAll m n ds) (hm : m ≤ 59) (hn : n ≤ 60) (ne : ds ≠ []) : LDt n (.tuple (.str z :: ds)) := by
  have sz := h.sz
  have dp := h.dep
  have on : onesP (.tuple (.str z :: ds)) = n := by
    rw [onesP, onesAll, show onesP (.str z) = 0 from rfl, Nat.zero_add, h.ones]
  refine ldt_of (.tup (.inr (.inr hz)) ne h.wd) ?_ on ?_ (.inr ?_)
  · rw [PyData.depth, PyData.depthAll, PyData.depth]
    omega
  · have a : n * (2 * m + 1) ≤ n * (2 * 59 + 1) := Nat.mul_le_mul_left _ (by omega)
    have b : n * (2 * 59 + 1) ≤ 60 * (2 * 59 + 1) := Nat.mul_le_mul_right _ hn
    rw [szP, szAll, show szP (.str z) = 1 from rfl]
    omega
  · have e : planP (.tuple (.str z :: ds)) = true := by
      unfold planP
      show (decide (ds ≠ []) && (decide (z = "pairs") || decide (z = "codes"))) = true
      rw [decide_eq_true ne, Bool.true_and, Bool.or_eq_true]
      rcases hz with h | h
      · exact .inl (decide_eq_true h)
      · exact .inr (decide_eq_true h)
    rw [e, show tlP (.tuple (.str z :: ds)) = ds from rfl, h.gb hm, h.ones, decide_eq_true hn]
    rfl
/-- how it is shown -/
def reprD : PyData → Str
  | .int i => toString i
  | d => d.shown
theorem rrepr {K : PySem.W.Frag} {H : Hp} {v : V} {d : PyData} {n : Nat} {Q : VK} (t : Tp H v d) (ok : LDt n d) (q : Q (.str (reprD d)) H) : RRepr K [v] H Q := by
  have sy := ok.sy
  have sh := ok.showy
  cases sy with
  | one =>
    cases t with
    | int i => exact ⟨.inr (.inl ⟨1, rfl, by decide, q⟩)⟩
  | tup hw r => exact tp_reprT t sh q

/-! ### plans as texts, read back -/
def spRead : Sp := fun vs H Q _ => ∃ (d : PyData) (n : Nat), vs = [.str (showS d)] ∧ LDt n d ∧ ∀ H' v, Same H H' → Tp H' v d → Q v H'
section
variable {P : Program} {w : World} {K : PySem.W.Frag} {mg : Str → Option Value} {base : Heap}
theorem has_read (T : Top K mg) (h__first_in : HasT P w K mg base 1 "_first_in" ["text"] spFirst) (h_is_part : Has P w K mg base 3 "is_part" ["thing"] spPart) (h_is_plan : Has P w K mg base 3 "is_plan" ["thing"] spPlan) (h_show_plan : Has P w K mg base 62 "show_plan" ["part"] (spShow 62)) : HasT P w K mg base 63 "read_plan" ["text"] spRead := by
  refine has_ofT (k := 62) T.d_read_plan sc_read_plan bd_read_plan (fun vs H Q E h => ?_) (fun f cdv A outer s H vs Q E hr h => ?_)
  · obtain ⟨d, n, rfl, _⟩ := h
    rfl
  · have hu := hu_of hr
    have nd := sc_read_plan.nd
    obtain ⟨d, n, rfl, ok, k⟩ := h
    refine ⟨_, (psst_cons (pst_set (i := 1) nd rfl (.inl rfl) (pet_has h__first_in (hr.mono (by omega)) (by rfl) (pa_cons (pv 0) pa_nil))) (PSsT.of (pss_cons (ps_if (PW.pt (pw_or (pt_val (pe_has h_is_part (hr.mono (by omega)) (by rfl) (pa_cons (pv 1) pa_nil))) (pw_or1 (pt_val (pe_has h_is_plan (hr.mono (by omega)) (by rfl) (pa_cons (pv 1) pa_nil)))))) (pss_one (ps_if (pt_cmpR op_eq (pe_has h_show_plan (hr.mono (by omega)) (by rfl) (pa_cons (pv 1) pa_nil)) (pv 0) (nomark _)) (pss_one (ps_ret (pv 1))) pss_nil)) pss_nil)
    (pss_one ps_never)))), ?_⟩
    have sz := ok.sz
    have dp := ok.dp
    refine ⟨_, rfl, d, rfl, ok.sy, ok.few, fun H1 v s1 tv => ?_⟩
    refine ⟨_, rfl, v, d, rfl, tv.th, ok.lay, by omega, fun H2 s2 => ⟨_, rfl, ?_⟩⟩
    cases c : (gB 60 d && decide (onesP d ≤ 60)) with
    | true =>
      refine iteT (iteT ⟨_, rfl, v, d, rfl, tv.kt (KT.same s2), ok.sy, ok.lay, by omega, ok.few, fun H3 s3 => ⟨_, rfl, rfl, _, rfl, iteT' rfl ⟨_, rfl, k _ _ (s1.trans (s2.trans s3)) (tv.kt (KT.same (s2.trans s3)))⟩⟩⟩)
    | false =>
      have c2 : (planP d && (gBAll 59 (tlP d) && decide (onesAll (tlP d) ≤ 60))) = true := by
        rcases ok.is with z | z
        · rw [c] at z
          cases z
        · exact z
      refine iteF ⟨_, rfl, v, d, rfl, (tv.kt (KT.same s2)).th, ok.lay, by omega, fun H3 s3 => ⟨_, rfl, ?_⟩⟩
      rw [c2]
      refine iteT ⟨_, rfl, v, d, rfl, tv.kt (KT.same (s2.trans s3)), ok.sy, ok.lay, by omega, ok.few, fun H4 s4 => ⟨_, rfl, rfl, _, rfl, iteT' rfl ⟨_, rfl, k _ _ (s1.trans (s2.trans (s3.trans s4))) (tv.kt (KT.same (s2.trans (s3.trans s4))))⟩⟩⟩
end

/-! ### the law itself -/
def spLaw (K : PySem.W.Frag) : Sp := fun vs H Q _ => ∃ (a : Addr) (ns : List Int), vs = [.ref a] ∧ SqL K H a (ns.map V.int) ∧ ns.length ≤ 63 ∧ ∀ H', Q (.bl true) H'
/-- what stands behind the drawing -/
def C13 (a t c : Addr) (e : Nat) (σ : L2.St) (H : Hp) : Prop := ∃ (v2 v5 v6 : Option V) (n : Nat) (x : V) (d : PyData), σ = [some (.ref a), some (.ref t), v2, some (.int n), some x, v5, v6] ∧ Tape H t c e ∧ Tp H x d ∧ LDt n d ∧ n ≤ 60
section
variable {P : Program} {w : World} {K : PySem.W.Frag} {mg : Str → Option Value} {base : Heap}
theorem ok_law {f : Addr} {fd : FuncData} (F : Fun K "law" "law" s_law f fd) (T : Top K mg) (h__law_begun : Has P w K mg base 1 "_law_begun" ["_law_script"] (spBegun K)) (h__law_draw : Has P w K mg base 1 "_law_draw" ["_law_tape", "_law_many"] spDraw)
    (h__law_pick : Has P w K mg base 2 "_law_pick" ["_law_tape", "_law_some"] (spPick K)) {lp : Nat} (hlp : lp ≤ 51) (h__law_part : Has P w K mg base lp "_law_part" ["_law_tape", "_law_many", "_law_deep"] (spLPart 48))
    (h__law_plan : Has P w K mg base 52 "_law_plan" ["_law_tape", "_law_many", "_law_most"] (spLPlan 48)) (h__law_written : HasU P w K mg base 62 "_law_written" ["_law_part_here"] (spShow 62)) (h_show_plan : Has P w K mg base 62 "show_plan" ["part"] (spShow 62))
    (h_read_plan : HasT P w K mg base 63 "read_plan" ["text"] spRead) (h_size_of : Has P w K mg base 1 "size_of" ["part"] spSize) :
    FnG P w K mg base 101 f fd ["_law_script"] (spLaw K) := by
  refine fnG F sc_law (fun vs H Q E h => ?_) (fun cdv Ar outer s H vs Q E hr hgd h => ?_)
  · obtain ⟨a, ns, rfl, _⟩ := h
    rfl
  · have hu := hu_of hr
    have nd := sc_law.nd
    obtain ⟨a, ns, rfl, hS, hl, k⟩ := h
    refine ⟨_, (pss_cons (ps_set (i := 1) nd rfl (.inl rfl) (pe_has h__law_begun (hr.mono (by omega)) (by rfl) (pa_cons (pv 0) pa_nil)))
    (pss_cons (ps_for PassesOwn.never rfl (pi_range1 (by rfl) T.b_range (pa_cons pe_int pa_nil)) (pg_name (i := 2) nd rfl (.inl rfl))
      (pss_cons (ps_set (i := 3) nd rfl (.inl rfl) (pe_op op_add pe_int (pe_has h__law_pick (hr.mono (by omega)) (by rfl) (pa_cons (pv 1) (pa_cons (pe_lst (pa_cons (pe_has h__law_draw (hr.mono (by omega)) (by rfl) (pa_cons (pv 1) (pa_cons pe_int pa_nil))) (pa_cons (pe_has h__law_draw (hr.mono (by omega)) (by rfl) (pa_cons (pv 1) (pa_cons pe_int pa_nil))) (pa_cons (pe_has h__law_draw (hr.mono (by omega)) (by rfl) (pa_cons (pv 1) (pa_cons pe_int pa_nil))) pa_nil)))) pa_nil)))))
    (C8.pss_cut (ps_set (i := 4) nd rfl (.inl rfl) (pe_ifExp (pt_cmpR op_eq (pe_has h__law_draw (hr.mono (by omega)) (by rfl) (pa_cons (pv 1) (pa_cons pe_int pa_nil))) pe_int (nomark _)) (pe_has h__law_plan (hr.mono (by omega)) (by rfl) (pa_cons (pv 1) (pa_cons (pv 3) (pa_cons pe_int pa_nil)))) (pe_has h__law_part (hr.mono (by omega)) (by rfl) (pa_cons (pv 1) (pa_cons (pv 3) (pa_cons pe_int pa_nil))))))
    (C8.pss_cut (ps_if (pt_cmpR op_eq (pe_has h__law_draw (hr.mono (by omega)) (by rfl) (pa_cons (pv 1) (pa_cons pe_int pa_nil))) pe_int (nomark _)) (pss_cons (ps_asg (pe_tup (pa_cons pe_int (pa_cons pe_int pa_nil))) (pg_tup (by rfl) (pgs_cons (pg_name (i := 4) nd rfl (.inl rfl)) (pgs_cons (pg_name (i := 3) nd rfl (.inl rfl)) pgs_nil))))
    (pss_cons (ps_for PassesOwn.never rfl (pi_range1 (by rfl) T.b_range (pa_cons (pe_has h__law_pick (hr.mono (by omega)) (by rfl) (pa_cons (pv 1) (pa_cons (pe_lst (pa_cons pe_int (pa_cons (pe_has h__law_draw (hr.mono (by omega)) (by rfl) (pa_cons (pv 1) (pa_cons pe_int pa_nil))) pa_nil))) pa_nil))) pa_nil)) (pg_name (i := 5) nd rfl (.inl rfl))
      (pss_one (ps_asg (pe_has h__law_pick (hr.mono (by omega)) (by rfl) (pa_cons (pv 1) (pa_cons (pe_lst (pa_cons (pe_tup (pa_cons (pe_tup (pa_cons pe_str (pa_cons (pv 4) pa_nil))) (pa_cons (pv 3) pa_nil))) (pa_cons (pe_tup (pa_cons (pe_tup (pa_cons pe_str (pa_cons pe_int (pa_cons (pv 4) pa_nil)))) (pa_cons (pe_op op_add (pv 3) pe_int) pa_nil))) pa_nil))) pa_nil))) (pg_tup (by rfl) (pgs_cons (pg_name (i := 4) nd rfl (.inl rfl)) (pgs_cons (pg_name (i := 3) nd rfl (.inl rfl)) pgs_nil))))))
    (pss_one (ps_set (i := 4) nd rfl (.inl rfl) (pe_tup (pa_cons (pe_has h__law_pick (hr.mono (by omega)) (by rfl) (pa_cons (pv 1) (pa_cons (pe_lst (pa_cons pe_str (pa_cons pe_str (pa_cons pe_str pa_nil)))) pa_nil))) (pa_cons (pv 4) pa_nil))))))) pss_nil)
    (pss_cons (ps_if (pt_cmpR op_gt (pv 3) pe_int (nomark _)) (pss_one (ps_ret pe_bl)) pss_nil)
    (pss_setU (i := 6) nd rfl (.inl rfl) (peu_has h__law_written (hr.mono (by omega)) (by rfl) (pa_cons (pv 4) pa_nil)) (psst_cons (pst_ifT (PWT.pt (pwt_or (pt_cmpR op_ne (pe_has h_show_plan (hr.mono (by omega)) (by rfl) (pa_cons (pv 4) pa_nil)) (pv 6) (nomark _)) (pwt_orT (ptt_cmpR op_ne (pet_callB (call_reprW hgd hr.units) (by rfl) T.b_repr (by decide +kernel) (pat_one (pet_has h_read_plan (hr.mono (by omega)) (by rfl) (pa_cons (pv 6) pa_nil)))) (pe_callB (call_reprW hgd hr.units) (by rfl) T.b_repr (by decide +kernel) (pa_cons (pv 4) pa_nil)) (nomark _)) (pw_or1 (pt_cmpR op_ne (pe_has h_size_of (hr.mono (by omega)) (by rfl) (pa_cons (pv 4) pa_nil)) (pv 3) (nomark _)))))) (pss_one (ps_ret pe_bl)) pss_nil) (PSsT.of pss_nil))))))))
    (pss_one (ps_ret pe_bl)))), ?_⟩
    have line : (5000000 : Nat) < sizeLine := by decide
    refine ⟨_, rfl, a, ns, rfl, hS, hl, fun H1 t c ht hc sm tp => ?_⟩
    refine ⟨4, rfl, by decide, by decide, for_range (lo := 0) (fun i σ H2 => ∃ v2 v3 v4 v5 v6, σ = [some (.ref a), some (.ref t), v2, v3, v4, v5, v6] ∧ Tape H2 t c (1000 * i)) ⟨none, none, none, none, none, rfl, tp⟩ ?_ ?_⟩
    · rintro i σ H2 hi ⟨v2, v3, v4, v5, v6, rfl, tp2⟩
      have hi2 : i < 4 := hi
      refine ⟨_, rfl, _, rfl, t, c, 4, _, rfl, tp2, by omega, by decide, pow8000 (by decide), fun H3 r3 a3 b3 tp3 kp3 => ⟨_, rfl, t, c, 12, _, rfl, tp3, by omega, by decide, pow8000 (by decide), fun H4 r4 a4 b4 tp4 kp4 => ⟨_, rfl, t, c, 45, _, rfl, tp4, by omega, by decide, pow8000 (by decide), fun H5 r5 a5 b5 tp5 kp5 => ⟨by show 3 ≤ sizeLine; decide, fun L nL => ⟨t, c, L, _, _, rfl, tp5.new nL, by omega, fun H' kp => .inl (SqL.of (kp L _ upd_same (tp5.fresh nL))), by show 0 < 3; decide, by show 3 ≤ 1000000; decide, fun H6 i6 v6' g6 tp6 kp6 => ?_⟩⟩⟩⟩⟩
      obtain ⟨z6, rfl, m6⟩ := pick_int (zs := [r3, r4, r5]) g6
      have zb : 0 ≤ z6 ∧ z6 < 45 := by
        simp only [List.mem_cons, List.not_mem_nil, or_false] at m6
        omega
      refine ⟨_, _, rfl, rfl, ?_⟩
      obtain ⟨mn, em⟩ : ∃ mn : Nat, 1 + z6 = (mn : Int) := ⟨(1 + z6).toNat, by omega⟩
      generalize hv : (fun i j : Int => V.int (i + j)) 1 z6 = nv
      obtain rfl : nv = V.int (mn : Int) := hv.symm.trans (congrArg V.int em)
      clear hv
      refine ⟨C13 a t c (1000 * i + 600), ?_, ?_⟩
      · refine ⟨_, rfl, t, c, 2, _, rfl, tp6, by omega, by decide, pow8000 (by decide), fun H7 r7 a7 b7 tp7 kp7 => ⟨rfl, _, rfl, ite2 (fun _ => ?_) (fun _ => ?_)⟩⟩
        · refine ⟨_, rfl, _, rfl, t, c, mn, _, 1, rfl, tp7, by omega, by omega, by omega, by omega, fun H8 v z ds tp8 kp8 tv hz pl => ?_⟩
          have ne : ds ≠ [] := fun e => by
            have := pl.ones
            rw [e] at this
            have : (0 : Nat) = mn := this
            omega
          exact ⟨_, _, _, mn, v, _, rfl, tp8.le (by omega), tv, ld_plan (hz.imp id And.left) pl (by omega) (by omega) ne, by omega⟩
        · refine ⟨_, rfl, _, rfl, t, c, mn, 2, _, rfl, tp7, by omega, by omega, by omega, by omega, fun H8 v d tp8 kp8 tv pa => ?_⟩
          exact ⟨_, _, _, mn, v, d, rfl, tp8.le (by omega), tv, ld_pa pa (by omega) (by omega), by omega⟩
      clear tp3 tp4 tp5 tp6 kp3 kp4 kp5 kp6 g6 em zb m6 nL
      rintro σ H3 ⟨v2, v5, v6, n, x, d, rfl, tp3, tv, ld, hn⟩
      refine ⟨C13 a t c (1000 * i + 700), ?_, ?_⟩
      · refine ⟨_, rfl, t, c, 4, _, rfl, tp3, by omega, by decide, pow8000 (by decide), fun H7 r7 a7 b7 tp7 kp7 => ⟨rfl, _, rfl, ite2 (fun _ => ?_) (fun _ => ⟨_, _, _, n, x, d, rfl, tp7.le (by omega), tv.kt (KT.kp tp3 kp7), ld, hn⟩)⟩⟩
        clear tv ld hn
        refine ⟨by show 2 ≤ sizeLine; decide, fun p np => ⟨p, _, rfl, SqT.of upd_same, rfl, _, _, rfl, _, _, rfl, rfl, ?_⟩⟩
        refine ⟨_, rfl, _, rfl, t, c, 60, _, rfl, tp7.new np, by omega, by decide, pow8000 (by decide), fun H8 r8 a8 b8 tp8 kp8 => ⟨by show 2 ≤ sizeLine; decide, fun L nL => ⟨t, c, L, _, _, rfl, tp8.new nL, by omega, fun H' kp => .inl (SqL.of (kp L _ upd_same (tp8.fresh nL))), by show 0 < 2; decide, by show 2 ≤ 1000000; decide, fun H9 i9 v9 g9 tp9 kp9 => ?_⟩⟩⟩
        obtain ⟨z9, rfl, m9⟩ := pick_int (zs := [59, r8]) g9
        have zb : 0 ≤ z9 ∧ z9 ≤ 59 := by
          simp only [List.mem_cons, List.not_mem_nil, or_false] at m9
          omega
        obtain ⟨q, rfl⟩ : ∃ q : Nat, z9 = (q : Int) := ⟨z9.toNat, by omega⟩
        refine ⟨q, rfl, by omega, by omega, for_range (lo := 0) (fun k σ H' => ∃ (v5 : Option V) (x : V) (n : Nat) (d : PyData), σ = [some (.ref a), some (.ref t), v2, some (.int n), some x, v5, v6] ∧ Tape H' t c (1000 * i + 610 + k) ∧ Tp H' x d ∧ Pa k n d ∧ n ≤ k + 1) ⟨_, .int 1, 1, .int 1, rfl, tp9.le (by omega), .int 1, .one, by omega⟩ ?_ ?_⟩
        · rintro k' σ H10 hk ⟨v5, x, n, d, rfl, tp10, tv, pa, hn⟩
          have hk2 : k' < q := hk
          refine ⟨_, rfl, _, rfl, by show 2 ≤ sizeLine; decide, fun p1 m1 => ⟨_, rfl, by show 2 ≤ sizeLine; decide, fun p2 m2 => ⟨_, rfl, by show 3 ≤ sizeLine; decide, fun p3 m3 => ⟨_, rfl, _, _, rfl, rfl, by show 2 ≤ sizeLine; decide, fun p4 m4 => ⟨by show 2 ≤ sizeLine; decide, fun L mL => ?_⟩⟩⟩⟩⟩
          have k1 := KT.new (o := .tup [V.str "sums", x]) m1
          have tpL := ((((tp10.new m1 (o := .tup [V.str "sums", x])).new m2 (o := .tup [V.ref p1, .int n])).new m3 (o := .tup [V.str "net", .int 1, x])).new m4 (o := .tup [V.ref p3, .int ((n : Int) + 1)])).new mL (o := .lst [V.ref p2, .ref p4])
          have k2 := KT.new (o := .tup [V.ref p1, .int n]) m2
          have k3 := KT.new (o := .tup [V.str "net", .int 1, x]) m3
          have k4 := KT.new (o := .tup [V.ref p3, .int ((n : Int) + 1)]) m4
          have k5 := KT.new (o := .lst [V.ref p2, .ref p4]) mL
          have e1 : Tp _ (.ref p1) (.tuple [.str "sums", d]) := (Tp.new m1 (.cons (.str _) (.cons tv .nil))).kt (k2.trans (k3.trans (k4.trans k5)))
          have e3 : Tp _ (.ref p3) (.tuple [.str "net", .int 1, d]) := (Tp.new m3 (.cons (.str _) (.cons (.int 1) (.cons (tv.kt (k1.trans k2)) .nil)))).kt (k4.trans k5)
          have h2 := (k3.trans (k4.trans k5)) p2 _ upd_same
          have h4 := k5 p4 _ upd_same
          refine ⟨t, c, L, [.ref p2, .ref p4], _, rfl, tpL, by omega, fun H' kp => .inl (SqL.of (tpL.sq upd_same kp)), by show 0 < 2; decide, by show 2 ≤ 1000000; decide, fun H11 i11 v11 g11 tp11 kp11 => ?_⟩
          have kt := KT.kp tpL kp11
          have mm := List.mem_of_getElem? g11
          simp only [List.mem_cons, List.not_mem_nil, or_false] at mm
          rcases mm with e | e <;> rw [e]
          · refine ⟨p2, _, rfl, SqT.of (kt _ _ h2), rfl, _, _, rfl, _, _, rfl, rfl, ?_⟩
            refine ⟨_, _, n, _, rfl, tp11.le (by omega), e1.kt kt, .tup (joined_of (by simp) (.inl rfl)) ?_, by omega⟩
            have := PaAll.cons pa .nil
            rw [Nat.add_zero] at this
            exact this
          · refine ⟨p4, _, rfl, SqT.of (kt _ _ h4), rfl, _, _, rfl, _, _, rfl, rfl, ?_⟩
            refine ⟨_, _, n + 1, _, rfl, tp11.le (by omega), e3.kt kt, .tup (joined_of (by simp) (.inr ⟨rfl, rfl⟩)) ?_, by omega⟩
            have := PaAll.cons (.one (m := k')) (PaAll.cons pa .nil)
            rw [Nat.add_zero, Nat.add_comm 1 n] at this
            exact this
        · rintro σ H10 ⟨v5, x, n, d, rfl, tp10, tv, pa, hn⟩
          have pl : PaAll q n [d] := by
            have := PaAll.cons pa .nil
            rw [Nat.add_zero] at this
            exact this
          refine ⟨_, rfl, by show 3 ≤ sizeLine; decide, fun L mL => ⟨t, c, L, _, _, rfl, tp10.new mL, by omega, fun H' kp => .inl (SqL.of (kp L _ upd_same (tp10.fresh mL))), by show 0 < 3; decide, by show 3 ≤ 1000000; decide, fun H11 i11 v11 g11 tp11 kp11 => ?_⟩⟩
          obtain ⟨z, rfl, hz⟩ : ∃ z, v11 = .str z ∧ LDt n (.tuple [.str z, d]) := by
            have mm := List.mem_of_getElem? g11
            simp only [List.mem_cons, List.not_mem_nil, or_false] at mm
            rcases mm with e | e | e
            · exact ⟨_, e, ld_plan (.inl rfl) pl (by omega) (by omega) (by simp)⟩
            · exact ⟨_, e, ld_plan (.inr rfl) pl (by omega) (by omega) (by simp)⟩
            · exact ⟨_, e, ld_pa (.tup (joined_of (by simp) (.inl rfl)) pl) (by omega) (by omega)⟩
          refine ⟨_, rfl, by show 2 ≤ sizeLine; decide, fun p np => ⟨_, _, _, n, _, _, rfl, (tp11.new np).le (by omega), .new np (.cons (.str z) (.cons (tv.kt ((KT.new mL).trans (KT.kp (tp10.new mL) kp11))) .nil)), hz, by omega⟩⟩
      clear tp3 tv ld hn
      rintro σ H3 ⟨v2, v5, v6, n, x, d, rfl, tp3, tv, ld, hn⟩
      have sz := ld.sz
      have dp := ld.dp
      refine ⟨_, rfl, _, _, rfl, rfl, _, rfl, iteF' (by omega) ?_⟩
      refine ⟨_, rfl, x, d, rfl, tv, ld.sy, ld.lay, by omega, ld.few, fun H4 s4 => ?_⟩
      have tv4 := tv.kt (KT.same s4)
      refine ⟨_, rfl, x, d, rfl, tv4, ld.sy, ld.lay, by omega, ld.few, fun H5 s5 => ⟨_, rfl, rfl, _, rfl, iteNS rfl ?_⟩⟩
      have tv5 := tv4.kt (KT.same s5)
      refine ⟨_, rfl, d, n, rfl, ld, fun H6 v s6 tw => ?_⟩
      have tv6 := tv5.kt (KT.same s6)
      refine rrepr tw ld ?_
      refine ⟨_, rfl, rrepr tv6 ld ?_⟩
      refine ⟨rfl, _, rfl, iteNS rfl ?_⟩
      refine ⟨_, rfl, x, d, rfl, tv6, ld.wt, by omega, fun H7 s7 => ?_⟩
      rw [ld.ones]
      refine ⟨_, rfl, rfl, _, rfl, iteNS rfl ?_⟩
      exact ⟨_, _, _, _, _, rfl, (tp3.same (s4.trans (s5.trans (s6.trans s7)))).le (by omega)⟩
    · rintro σ H2 ⟨v2, v3, v4, v5, v6, rfl, tp2⟩
      exact k H2
theorem at_law {f : Addr} {fd : FuncData} (F : Fun K "law" "law" s_law f fd) (T : Top K mg) : RunAt P w K mg base f fd ["_law_script"] (spLaw K) := by
  have d := has_draw (P := P) (w := w) (base := base) T
  have p : Has P w K mg base 2 "_law_pick" ["_law_tape", "_law_some"] (spPick K) := by
    obtain ⟨f, fd, hm, hk, hb, F⟩ := (has_pick T d).ex
    exact ⟨f, fd, hm, hk, hb, F.imp fun vs H Q E h => .inl h⟩
  obtain ⟨lp, hlp, hp⟩ := has_lpart T d p 48
  have ar := has_areG (P := P) (w := w) (base := base) T (has_whole T) (has_isjoined T)
  exact (ok_law F T (has_begun T) d p hlp hp (has_lplan T d hlp hp) (has_written T 61) (has_show T 62) (has_read T (has_first T) (has_part T ar) (has_plan T ar) (has_show T 62)) (has_size T)).at_ ⟨rfl, by decide, by decide⟩
end

theorem all_mk {l : PySem.W.OpenLaw} {w : World} {K : PySem.W.Frag} {h : Heap} {mg : Str → Option Value} {fa : Addr} (X : K.In h) (G : h.Ns mainGlobals mg) (hfa : mg "law" = some (.ref fa))
    {f0 : Addr} {od0 an0 : Option Addr} {sl0 : Array (Option Value)} {oc0 kV0 dc0 pm0 cd0 ct0 : Value}
    (a0 : PySem.W.nsIn K mainGlobals "is_whole" = some (some (.ref f0))) (l0 : K.lookup f0 = some ⟨oc0, od0, .func (PySem.W.fnOf "is_whole" "is_whole" (defArgs s_is_whole) (defBody s_is_whole) (defScope s_is_whole) .none kV0 dc0 pm0 an0 cd0 ct0), sl0⟩) (cc0 : PySem.W.codeIn K cd0 "is_whole" = true) (k0 : PySem.W.keepIn K (.ref f0) = true)
    {f1 : Addr} {od1 an1 : Option Addr} {sl1 : Array (Option Value)} {oc1 kV1 dc1 pm1 cd1 ct1 : Value}
    (a1 : PySem.W.nsIn K mainGlobals "is_part" = some (some (.ref f1))) (l1 : K.lookup f1 = some ⟨oc1, od1, .func (PySem.W.fnOf "is_part" "is_part" (defArgs s_is_part) (defBody s_is_part) (defScope s_is_part) .none kV1 dc1 pm1 an1 cd1 ct1), sl1⟩) (cc1 : PySem.W.codeIn K cd1 "is_part" = true) (k1 : PySem.W.keepIn K (.ref f1) = true)
    {f2 : Addr} {od2 an2 : Option Addr} {sl2 : Array (Option Value)} {oc2 kV2 dc2 pm2 cd2 ct2 : Value}
    (a2 : PySem.W.nsIn K mainGlobals "is_plan" = some (some (.ref f2))) (l2 : K.lookup f2 = some ⟨oc2, od2, .func (PySem.W.fnOf "is_plan" "is_plan" (defArgs s_is_plan) (defBody s_is_plan) (defScope s_is_plan) .none kV2 dc2 pm2 an2 cd2 ct2), sl2⟩) (cc2 : PySem.W.codeIn K cd2 "is_plan" = true) (k2 : PySem.W.keepIn K (.ref f2) = true)
    {f3 : Addr} {od3 an3 : Option Addr} {sl3 : Array (Option Value)} {oc3 kV3 dc3 pm3 cd3 ct3 : Value}
    (a3 : PySem.W.nsIn K mainGlobals "size_of" = some (some (.ref f3))) (l3 : K.lookup f3 = some ⟨oc3, od3, .func (PySem.W.fnOf "size_of" "size_of" (defArgs s_size_of) (defBody s_size_of) (defScope s_size_of) .none kV3 dc3 pm3 an3 cd3 ct3), sl3⟩) (cc3 : PySem.W.codeIn K cd3 "size_of" = true) (k3 : PySem.W.keepIn K (.ref f3) = true)
    {f4 : Addr} {od4 an4 : Option Addr} {sl4 : Array (Option Value)} {oc4 kV4 dc4 pm4 cd4 ct4 : Value}
    (a4 : PySem.W.nsIn K mainGlobals "show_plan" = some (some (.ref f4))) (l4 : K.lookup f4 = some ⟨oc4, od4, .func (PySem.W.fnOf "show_plan" "show_plan" (defArgs s_show_plan) (defBody s_show_plan) (defScope s_show_plan) .none kV4 dc4 pm4 an4 cd4 ct4), sl4⟩) (cc4 : PySem.W.codeIn K cd4 "show_plan" = true) (k4 : PySem.W.keepIn K (.ref f4) = true)
    {f5 : Addr} {od5 an5 : Option Addr} {sl5 : Array (Option Value)} {oc5 kV5 dc5 pm5 cd5 ct5 : Value}
    (a5 : PySem.W.nsIn K mainGlobals "read_plan" = some (some (.ref f5))) (l5 : K.lookup f5 = some ⟨oc5, od5, .func (PySem.W.fnOf "read_plan" "read_plan" (defArgs s_read_plan) (defBody s_read_plan) (defScope s_read_plan) .none kV5 dc5 pm5 an5 cd5 ct5), sl5⟩) (cc5 : PySem.W.codeIn K cd5 "read_plan" = true) (k5 : PySem.W.keepIn K (.ref f5) = true)
    {f6 : Addr} {od6 an6 : Option Addr} {sl6 : Array (Option Value)} {oc6 kV6 dc6 pm6 cd6 ct6 : Value}
    (a6 : PySem.W.nsIn K mainGlobals "_are_parts" = some (some (.ref f6))) (l6 : K.lookup f6 = some ⟨oc6, od6, .func (PySem.W.fnOf "_are_parts" "_are_parts" (defArgs s__are_parts) (defBody s__are_parts) (defScope s__are_parts) .none kV6 dc6 pm6 an6 cd6 ct6), sl6⟩) (cc6 : PySem.W.codeIn K cd6 "_are_parts" = true) (k6 : PySem.W.keepIn K (.ref f6) = true)
    {f7 : Addr} {od7 an7 : Option Addr} {sl7 : Array (Option Value)} {oc7 kV7 dc7 pm7 cd7 ct7 : Value}
    (a7 : PySem.W.nsIn K mainGlobals "_is_joined" = some (some (.ref f7))) (l7 : K.lookup f7 = some ⟨oc7, od7, .func (PySem.W.fnOf "_is_joined" "_is_joined" (defArgs s__is_joined) (defBody s__is_joined) (defScope s__is_joined) .none kV7 dc7 pm7 an7 cd7 ct7), sl7⟩) (cc7 : PySem.W.codeIn K cd7 "_is_joined" = true) (k7 : PySem.W.keepIn K (.ref f7) = true)
    {f8 : Addr} {od8 an8 : Option Addr} {sl8 : Array (Option Value)} {oc8 kV8 dc8 pm8 cd8 ct8 : Value}
    (a8 : PySem.W.nsIn K mainGlobals "_first_in" = some (some (.ref f8))) (l8 : K.lookup f8 = some ⟨oc8, od8, .func (PySem.W.fnOf "_first_in" "_first_in" (defArgs s__first_in) (defBody s__first_in) (defScope s__first_in) .none kV8 dc8 pm8 an8 cd8 ct8), sl8⟩) (cc8 : PySem.W.codeIn K cd8 "_first_in" = true) (k8 : PySem.W.keepIn K (.ref f8) = true)
    {f9 : Addr} {od9 an9 : Option Addr} {sl9 : Array (Option Value)} {oc9 kV9 dc9 pm9 cd9 ct9 : Value}
    (a9 : PySem.W.nsIn K mainGlobals "_law_begun" = some (some (.ref f9))) (l9 : K.lookup f9 = some ⟨oc9, od9, .func (PySem.W.fnOf "_law_begun" "_law_begun" (defArgs s__law_begun) (defBody s__law_begun) (defScope s__law_begun) .none kV9 dc9 pm9 an9 cd9 ct9), sl9⟩) (cc9 : PySem.W.codeIn K cd9 "_law_begun" = true) (k9 : PySem.W.keepIn K (.ref f9) = true)
    {f10 : Addr} {od10 an10 : Option Addr} {sl10 : Array (Option Value)} {oc10 kV10 dc10 pm10 cd10 ct10 : Value}
    (a10 : PySem.W.nsIn K mainGlobals "_law_draw" = some (some (.ref f10))) (l10 : K.lookup f10 = some ⟨oc10, od10, .func (PySem.W.fnOf "_law_draw" "_law_draw" (defArgs s__law_draw) (defBody s__law_draw) (defScope s__law_draw) .none kV10 dc10 pm10 an10 cd10 ct10), sl10⟩) (cc10 : PySem.W.codeIn K cd10 "_law_draw" = true) (k10 : PySem.W.keepIn K (.ref f10) = true)
    {f11 : Addr} {od11 an11 : Option Addr} {sl11 : Array (Option Value)} {oc11 kV11 dc11 pm11 cd11 ct11 : Value}
    (a11 : PySem.W.nsIn K mainGlobals "_law_pick" = some (some (.ref f11))) (l11 : K.lookup f11 = some ⟨oc11, od11, .func (PySem.W.fnOf "_law_pick" "_law_pick" (defArgs s__law_pick) (defBody s__law_pick) (defScope s__law_pick) .none kV11 dc11 pm11 an11 cd11 ct11), sl11⟩) (cc11 : PySem.W.codeIn K cd11 "_law_pick" = true) (k11 : PySem.W.keepIn K (.ref f11) = true)
    {f12 : Addr} {od12 an12 : Option Addr} {sl12 : Array (Option Value)} {oc12 kV12 dc12 pm12 cd12 ct12 : Value}
    (a12 : PySem.W.nsIn K mainGlobals "_law_part" = some (some (.ref f12))) (l12 : K.lookup f12 = some ⟨oc12, od12, .func (PySem.W.fnOf "_law_part" "_law_part" (defArgs s__law_part) (defBody s__law_part) (defScope s__law_part) .none kV12 dc12 pm12 an12 cd12 ct12), sl12⟩) (cc12 : PySem.W.codeIn K cd12 "_law_part" = true) (k12 : PySem.W.keepIn K (.ref f12) = true)
    {f13 : Addr} {od13 an13 : Option Addr} {sl13 : Array (Option Value)} {oc13 kV13 dc13 pm13 cd13 ct13 : Value}
    (a13 : PySem.W.nsIn K mainGlobals "_law_plan" = some (some (.ref f13))) (l13 : K.lookup f13 = some ⟨oc13, od13, .func (PySem.W.fnOf "_law_plan" "_law_plan" (defArgs s__law_plan) (defBody s__law_plan) (defScope s__law_plan) .none kV13 dc13 pm13 an13 cd13 ct13), sl13⟩) (cc13 : PySem.W.codeIn K cd13 "_law_plan" = true) (k13 : PySem.W.keepIn K (.ref f13) = true)
    {f14 : Addr} {od14 an14 : Option Addr} {sl14 : Array (Option Value)} {oc14 kV14 dc14 pm14 cd14 ct14 : Value}
    (a14 : PySem.W.nsIn K mainGlobals "_law_written" = some (some (.ref f14))) (l14 : K.lookup f14 = some ⟨oc14, od14, .func (PySem.W.fnOf "_law_written" "_law_written" (defArgs s__law_written) (defBody s__law_written) (defScope s__law_written) .none kV14 dc14 pm14 an14 cd14 ct14), sl14⟩) (cc14 : PySem.W.codeIn K cd14 "_law_written" = true) (k14 : PySem.W.keepIn K (.ref f14) = true)
    {f15 : Addr} {od15 an15 : Option Addr} {sl15 : Array (Option Value)} {oc15 kV15 dc15 pm15 cd15 ct15 : Value}
    (a15 : PySem.W.nsIn K mainGlobals "law" = some (some (.ref f15))) (l15 : K.lookup f15 = some ⟨oc15, od15, .func (PySem.W.fnOf "law" "law" (defArgs s_law) (defBody s_law) (defScope s_law) .none kV15 dc15 pm15 an15 cd15 ct15), sl15⟩) (cc15 : PySem.W.codeIn K cd15 "law" = true) (k15 : PySem.W.keepIn K (.ref f15) = true)
    {t0 : Tok} (v0 : PySem.W.nsIn K mainGlobals "MOST_ONES" = some (some (.int 60 t0)))
    {t1 : Tok} (v1 : PySem.W.nsIn K mainGlobals "MOST_TUPLES" = some (some (.int 60 t1)))
    (z0 : PySem.W.nsIn K mainGlobals "isinstance" = some none)
    (z1 : PySem.W.nsIn K mainGlobals "bool" = some none)
    (z2 : PySem.W.nsIn K mainGlobals "int" = some none)
    (z3 : PySem.W.nsIn K mainGlobals "len" = some none)
    (z4 : PySem.W.nsIn K mainGlobals "tuple" = some none)
    (z5 : PySem.W.nsIn K mainGlobals "max" = some none)
    (z6 : PySem.W.nsIn K mainGlobals "range" = some none)
    (z7 : PySem.W.nsIn K mainGlobals "repr" = some none)
    : ∃ fd : FuncData, (∀ (s : Shared) (v : Value), BindsTo s fd ⟨[v], []⟩ [("_law_script", v)]) ∧ ∀ base : Heap, K.In base → base.Ns mainGlobals mg → RunAt l.prog w K mg base fa fd ["_law_script"] (spLaw K) := by
  have e := hfa.symm.trans (PySem.W.mg_of X G a15)
  cases e
  have T : Top K mg := ⟨⟨⟨_, _, PySem.W.mg_of X G a0, fun_mk (st := s_is_whole) l0 cc0 k0⟩⟩, ⟨⟨_, _, PySem.W.mg_of X G a1, fun_mk (st := s_is_part) l1 cc1 k1⟩⟩, ⟨⟨_, _, PySem.W.mg_of X G a2, fun_mk (st := s_is_plan) l2 cc2 k2⟩⟩, ⟨⟨_, _, PySem.W.mg_of X G a3, fun_mk (st := s_size_of) l3 cc3 k3⟩⟩, ⟨⟨_, _, PySem.W.mg_of X G a4, fun_mk (st := s_show_plan) l4 cc4 k4⟩⟩, ⟨⟨_, _, PySem.W.mg_of X G a5, fun_mk (st := s_read_plan) l5 cc5 k5⟩⟩, ⟨⟨_, _, PySem.W.mg_of X G a6, fun_mk (st := s__are_parts) l6 cc6 k6⟩⟩, ⟨⟨_, _, PySem.W.mg_of X G a7, fun_mk (st := s__is_joined) l7 cc7 k7⟩⟩, ⟨⟨_, _, PySem.W.mg_of X G a8, fun_mk (st := s__first_in) l8 cc8 k8⟩⟩, ⟨⟨_, _, PySem.W.mg_of X G a9, fun_mk (st := s__law_begun) l9 cc9 k9⟩⟩, ⟨⟨_, _, PySem.W.mg_of X G a10, fun_mk (st := s__law_draw) l10 cc10 k10⟩⟩, ⟨⟨_, _, PySem.W.mg_of X G a11, fun_mk (st := s__law_pick) l11 cc11 k11⟩⟩, ⟨⟨_, _, PySem.W.mg_of X G a12, fun_mk (st := s__law_part) l12 cc12 k12⟩⟩, ⟨⟨_, _, PySem.W.mg_of X G a13, fun_mk (st := s__law_plan) l13 cc13 k13⟩⟩, ⟨⟨_, _, PySem.W.mg_of X G a14, fun_mk (st := s__law_written) l14 cc14 k14⟩⟩, ⟨⟨_, _, PySem.W.mg_of X G a15, fun_mk (st := s_law) l15 cc15 k15⟩⟩, ⟨_, PySem.W.mg_of X G v0⟩, ⟨_, PySem.W.mg_of X G v1⟩, PySem.W.mg_none_of X G z0, PySem.W.mg_none_of X G z1, PySem.W.mg_none_of X G z2, PySem.W.mg_none_of X G z3, PySem.W.mg_none_of X G z4, PySem.W.mg_none_of X G z5, PySem.W.mg_none_of X G z6, PySem.W.mg_none_of X G z7⟩
  exact ⟨_, fun s v => .of_eq rfl, fun base _ _ => at_law (fun_mk (st := s_law) l15 cc15 k15) T⟩
end Mc
open PySem PySem.W PyProof.Rows
set_option maxRecDepth 100000 in
set_option maxHeartbeats 0 in
theorem PySem.Challenge.cw_mostclauses_k13_plans_as_texts_holds : PySem.Challenge.rw_mostclauses_k13_plans_as_texts.Holds := by
  w_on; o_law; k_head; (case hw => w_witness2)
  k_fill
  refine Mc.walk_at (l := PySem.Challenge.rw_mostclauses_k13_plans_as_texts) (n := 63) (x := "_law_script") (sp := fun w => Mc.spLaw _) rfl (by decide) rfl (fun w h Y => PySem.W.kIn_of Y) ?F (fun _ _ a ns hl _ hS => ⟨a, ns, rfl, hS, hl, fun _ => rfl⟩)
  case F =>
    intro w mg fa h KX G hmg
    refine' Mc.all_mk KX G hmg ?a0 ?l0 ?cc0 ?k0 ?a1 ?l1 ?cc1 ?k1 ?a2 ?l2 ?cc2 ?k2 ?a3 ?l3 ?cc3 ?k3 ?a4 ?l4 ?cc4 ?k4 ?a5 ?l5 ?cc5 ?k5 ?a6 ?l6 ?cc6 ?k6 ?a7 ?l7 ?cc7 ?k7 ?a8 ?l8 ?cc8 ?k8 ?a9 ?l9 ?cc9 ?k9 ?a10 ?l10 ?cc10 ?k10 ?a11 ?l11 ?cc11 ?k11 ?a12 ?l12 ?cc12 ?k12 ?a13 ?l13 ?cc13 ?k13 ?a14 ?l14 ?cc14 ?k14 ?a15 ?l15 ?cc15 ?k15 ?v0 ?v1 ?z0 ?z1 ?z2 ?z3 ?z4 ?z5 ?z6 ?z7
    (case a0 => k_is)
    (case l0 => k_is)
    (case cc0 => k_is)
    (case k0 => k_is)
    (case a1 => k_is)
    (case l1 => k_is)
    (case cc1 => k_is)
    (case k1 => k_is)
    (case a2 => k_is)
    (case l2 => k_is)
    (case cc2 => k_is)
    (case k2 => k_is)
    (case a3 => k_is)
    (case l3 => k_is)
    (case cc3 => k_is)
    (case k3 => k_is)
    (case a4 => k_is)
    (case l4 => k_is)
    (case cc4 => k_is)
    (case k4 => k_is)
    (case a5 => k_is)
    (case l5 => k_is)
    (case cc5 => k_is)
    (case k5 => k_is)
    (case a6 => k_is)
    (case l6 => k_is)
    (case cc6 => k_is)
    (case k6 => k_is)
    (case a7 => k_is)
    (case l7 => k_is)
    (case cc7 => k_is)
    (case k7 => k_is)
    (case a8 => k_is)
    (case l8 => k_is)
    (case cc8 => k_is)
    (case k8 => k_is)
    (case a9 => k_is)
    (case l9 => k_is)
    (case cc9 => k_is)
    (case k9 => k_is)
    (case a10 => k_is)
    (case l10 => k_is)
    (case cc10 => k_is)
    (case k10 => k_is)
    (case a11 => k_is)
    (case l11 => k_is)
    (case cc11 => k_is)
    (case k11 => k_is)
    (case a12 => k_is)
    (case l12 => k_is)
    (case cc12 => k_is)
    (case k12 => k_is)
    (case a13 => k_is)
    (case l13 => k_is)
    (case cc13 => k_is)
    (case k13 => k_is)
    (case a14 => k_is)
    (case l14 => k_is)
    (case cc14 => k_is)
    (case k14 => k_is)
    (case a15 => k_is)
    (case l15 => k_is)
    (case cc15 => k_is)
    (case k15 => k_is)
    (case v0 => k_is)
    (case v1 => k_is)
    (case z0 => k_is)
    (case z1 => k_is)
    (case z2 => k_is)
    (case z3 => k_is)
    (case z4 => k_is)
    (case z5 => k_is)
    (case z6 => k_is)
    (case z7 => k_is)
