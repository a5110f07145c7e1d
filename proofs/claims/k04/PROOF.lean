import PyProof.Rows.All
import Wide.All
import OpenK.AllK
import Wide.FinOn
import HandS.ForMost
import HandS.Evl
import HandS.Steps
import HandS.IsInst
import HandS.Walk
import HandS.Conv
import HandS.SortInts
import KE.KEqNest
import HandS.SortKw
import HandS.SetFor
import HandS.DeepEq
import HandS.DictComp
import KE.KDictList
import HandS.Strs
import HandS.Star
import PySem.Challenge.RW_innkinds_k04_first_short_night
set_option Elab.async false
set_option linter.all false
set_option maxRecDepth 100000
set_option maxHeartbeats 4000000

namespace Ik
open PySem PySem.Spec PyProof.Rows L2 Evl

/-! ### calls of own defs -/
structure Cal (P : Program) (w : World) (K : PySem.W.Frag) (mg : Str → Option Value) (base : Heap) (x : Str) (k : Nat) (ps : List Str) (sp : Sp) : Prop where
  ex : ∃ (f : Addr) (fd : FuncData), FnOk P w K mg base CX0 k f fd ps sp ∧ mg x = some (.ref f) ∧ PySem.W.keepIn K (.ref f) = true ∧ Binds K fd ps []
theorem pe_cal {X : Cx} {x : Str} {k : Nat} {ps : List Str} {sp : Sp} {e : Expr} {es : List Expr} {t : TA} {p pos : Pos} (C : Cal X.prog X.w X.K X.mg X.base x k ps sp) (hr : Room k X.A) (hg : Gl X x) (ha : PA X (e :: es) t)
    (hdb : (x == ("__debug__" : Str)) = false := by decide) (he : starEach (e :: es) X.env = (false, eval e X.env) :: starEach es X.env := by rfl) (hpl : (backTo pos (starEach es X.env)).any (·.1) = false := by rfl) :
    PE X (.Call (.Name x p) (e :: es) [] pos) (tCall sp [] E0 t) := by
  obtain ⟨f, fd, F, hm, hk, hb⟩ := C.ex
  exact pe_call F hr hg hm hk hb .nil pass0 ha hdb he hpl

/-! ### what evaluates to something of which R tells: the value, the heap ahead, the heap behind -/
abbrev Rel := V → Hp → Hp → Prop
def EvR (te : TE) (σ : L2.St) (H : Hp) (R : Rel) : Prop := ∀ H1, Ex H H1 → ∀ Q : VK, (∀ v H2, Ex H1 H2 → R v H1 H2 → Q v H2) → te σ H1 Q
def SpR (sp : Sp) (vs : List V) (H : Hp) (R : Rel) : Prop := ∀ H1, Ex H H1 → ∀ Q : VK, (∀ v H2, Ex H1 H2 → R v H1 H2 → Q v H2) → ∀ E : XK, sp vs H1 Q E
section
variable {K : PySem.W.Frag} {σ : L2.St} {H H' : Hp} {ta tb tc te tx : TE} {t u : TT} {x y z v : V} {r r' : R2} {R : Rel}
theorem EvR.mono (e : Ex H H') (h : EvR te σ H R) : EvR te σ H' R := fun H1 a Q q => h H1 (e.trans a) Q q
theorem er_call {sp : Sp} {dvs vs : List V} {E : XK} {ta : TA} (h : EvA ta σ H vs) (hs : SpR sp (vs ++ dvs) H (fun v _ H2 => R v H H2)) : EvR (tCall sp dvs E ta) σ H (fun v _ H2 => R v H H2) := fun H1 e Q q =>
  h H1 e _ fun H2 e2 => hs H2 (e.trans e2) Q (fun v H3 e3 r => q v H3 (e2.trans e3) r) E
theorem ev_call0 {sp : Sp} {vs : List V} {E : XK} {ta : TA} (h : EvA ta σ H vs) (hs : SpV sp vs H z) : Ev (tCall sp [] E ta) σ H z := ev_call h (by rw [List.append_nil]; exact hs)
theorem el_call0 {sp : Sp} {vs xs : List V} {E : XK} {ta : TA} (h : EvA ta σ H vs) (hs : SpL sp vs H xs) : EvL (tCall sp [] E ta) σ H xs := el_call h (by rw [List.append_nil]; exact hs)
theorem ea_1 (h : Ev ta σ H x) : EvA (tCons ta tNil) σ H [x] := ea_cons h ea_nil
theorem ea_2 (h : Ev ta σ H x) (h2 : Ev tb σ H y) : EvA (tCons ta (tCons tb tNil)) σ H [x, y] := ea_cons h (ea_1 h2)
theorem ea_3 (h : Ev ta σ H x) (h2 : Ev tb σ H y) (h3 : Ev tc σ H z) : EvA (tCons ta (tCons tb (tCons tc tNil))) σ H [x, y, z] := ea_cons h (ea_2 h2 h3)

/-! operators -/
theorem ev_add {i j : Int} (ha : Ev ta σ H (.int i)) (hb : Ev tb σ H (.int j)) : Ev (tOp (rI0 fun i j => .int (i + j)) ta tb) σ H (.int (i + j)) := ev_op ha hb (rv_I0 (g := fun i j => .int (i + j)))
theorem ev_sub {i j : Int} (ha : Ev ta σ H (.int i)) (hb : Ev tb σ H (.int j)) : Ev (tOp (rI0 fun i j => .int (i - j)) ta tb) σ H (.int (i - j)) := ev_op ha hb (rv_I0 (g := fun i j => .int (i - j)))
theorem ev_mulR {i j : Int} (ha : Ev ta σ H (.int i)) (hb : Ev tb σ H (.int j)) (h : -(2 ^ 64) < j ∧ j < 2 ^ 64) : Ev (tOp (rI CMul fun i j => .int (i * j)) ta tb) σ H (.int (i * j)) := ev_op ha hb (rv_I (g := fun i j => .int (i * j)) (.inr h))
theorem ev_mulL {i j : Int} (ha : Ev ta σ H (.int i)) (hb : Ev tb σ H (.int j)) (h : -(2 ^ 64) < i ∧ i < 2 ^ 64) : Ev (tOp (rI CMul fun i j => .int (i * j)) ta tb) σ H (.int (i * j)) := ev_op ha hb (rv_I (g := fun i j => .int (i * j)) (.inl h))
theorem ev_fdiv {i j : Int} (ha : Ev ta σ H (.int i)) (hb : Ev tb σ H (.int j)) (h : CDiv i j) : Ev (tOp (rI CDiv fun i j => .int (i / j)) ta tb) σ H (.int (i / j)) := ev_op ha hb (rv_I (g := fun i j => .int (i / j)) h)
theorem ev_mod {i j : Int} (ha : Ev ta σ H (.int i)) (hb : Ev tb σ H (.int j)) (h : 0 < j) : Ev (tOp (rI (fun _ j => 0 < j) fun i j => .int (i % j)) ta tb) σ H (.int (i % j)) := ev_op ha hb (rv_I (g := fun i j => .int (i % j)) h)
theorem ev_cmp {g : Int → Int → Bool} {i j : Int} (ha : Ev ta σ H (.int i)) (hb : Ev tb σ H (.int j)) : Ev (tOp (rI0 fun i j => .bl (g i j)) ta tb) σ H (.bl (g i j)) := ev_op ha hb (rv_I0 (g := fun i j => .bl (g i j)))
theorem ev_eqI {i j : Int} (ha : Ev ta σ H (.int i)) (hb : Ev tb σ H (.int j)) : Ev (tOp rEq ta tb) σ H (.bl (decide (i = j))) := by
  have h := ev_op ha hb (rv_eq (H := H) (x := .int i) (y := .int j) rfl)
  have e : decide (V.int i = V.int j) = decide (i = j) := by simp
  rw [e] at h
  exact h
theorem ev_neI {i j : Int} (ha : Ev ta σ H (.int i)) (hb : Ev tb σ H (.int j)) : Ev (tOp rNe ta tb) σ H (.bl (!decide (i = j))) := by
  have h := ev_op ha hb (rv_ne (H := H) (x := .int i) (y := .int j) rfl)
  have e : decide (V.int i = V.int j) = decide (i = j) := by simp
  rw [e] at h
  exact h
theorem ev_neg {i : Int} (ha : Ev ta σ H (.int i)) : Ev (tUn (rU fun i => .int (-i)) ta) σ H (.int (-i)) := ev_un ha ru_neg
theorem ev_pow {i j : Int} (ha : Ev ta σ H (.int i)) (hb : Ev tb σ H (.int j)) (h : CPow i j) : Ev (tOp (rI CPow fun i j => .int (i ^ j.toNat)) ta tb) σ H (.int (i ^ j.toNat)) := ev_op ha hb (rv_I (g := fun i j => .int (i ^ j.toNat)) h)
theorem ev_chain {b c : Bool} (ha : Ev ta σ H x) (hb : Ev tb σ H y) (hr : RV r x y H (.bl b)) (hc : b = true → Ev tc σ H z) (hr' : b = true → RV r' y z H (.bl c)) : Ev (tChain r r' ta tb tc) σ H (.bl (b && c)) := fun H1 e Q q =>
  ha H1 e _ fun H2 e2 => hb H2 (e.trans e2) _ fun H3 e3 => hr H3 ((e.trans e2).trans e3) _ fun H4 e4 => ⟨b, rfl, by
    have e14 := (e2.trans e3).trans e4
    cases b with
    | true =>
      show tc σ H4 _
      exact hc rfl H4 (e.trans e14) _ fun H5 e5 => hr' rfl H5 ((e.trans e14).trans e5) Q fun H6 e6 => q H6 ((e14.trans e5).trans e6)
    | false =>
      show Q (.bl false) H4
      exact q H4 e14⟩
/-- int comparisons twice -/
theorem ev_chainI {g g' : Int → Int → Bool} {i j k : Int} (ha : Ev ta σ H (.int i)) (hb : Ev tb σ H (.int j)) (hc : Ev tc σ H (.int k)) : Ev (tChain (rI0 fun i j => .bl (g i j)) (rI0 fun i j => .bl (g' i j)) ta tb tc) σ H (.bl (g i j && g' j k)) :=
  ev_chain ha hb (rv_I0 (g := fun i j => .bl (g i j))) (fun _ => hc) (fun _ => rv_I0 (g := fun i j => .bl (g' i j)))
theorem ev_isN (ha : Ev ta σ H x) : Ev (tOp rIsN ta (tC .non)) σ H (.bl (decide (x = .non))) := ev_op ha ev_c fun H1 _ _ q => ⟨rfl, q H1 (Ex.refl H1)⟩
theorem ev_notN (ha : Ev ta σ H x) : Ev (tOp rNotN ta (tC .non)) σ H (.bl (!decide (x = .non))) := ev_op ha ev_c fun H1 _ _ q => ⟨rfl, q H1 (Ex.refl H1)⟩
theorem ev_isi {a b : String} {c : Bool} (ha : Ev ta σ H x) (ht : ∀ H1, Ex H H1 → TyX K H1 x (.type a)) (hk : kitB a b = some c) : Ev (tCB (rIsi K) (tCons ta (tCons (tC (.ty b)) tNil))) σ H (.bl c) :=
  ev_cb (ea_2 ha ev_c) fun H1 e _ q => ⟨x, .ty b, .type a, .type b, c, rfl, .ty b, ht H1 e, kit_ty hk, q H1 (Ex.refl H1)⟩
theorem ev_all {bs : List Bool} (ha : EvL ta σ H (bs.map V.bl)) : Ev (tCB (rAll K) (tCons ta tNil)) σ H (.bl (bs.all id)) := fun H1 e Q q =>
  ha H1 e _ fun p H2 _ e2 h2 => ⟨p, bs, rfl, sq_of h2, q H2 e2⟩
theorem ev_sum {p : Addr} {ns : List Int} (ha : Ev ta σ H (.ref p)) (h : SqL K H p (ns.map V.int)) : Ev (tCB (rSum K) (tCons ta tNil)) σ H (.int ns.sum) := fun H1 e Q q =>
  ha H1 e _ fun H2 e2 => ⟨p, ns, rfl, ex_l (e.trans e2) h, q H2 e2⟩
theorem ev_sumN {ns : List Int} (ha : EvL ta σ H (ns.map V.int)) : Ev (tCB (rSum K) (tCons ta tNil)) σ H (.int ns.sum) := fun H1 e Q q =>
  ha H1 e _ fun p H2 _ e2 h2 => ⟨p, ns, rfl, sq_of h2, q H2 e2⟩
theorem ev_abs {i : Int} (ha : Ev ta σ H (.int i)) : Ev (tCB (fun xs H Q => ∃ i, xs = [V.int i] ∧ Q (.int (if i < 0 then -i else i)) H) (tCons ta tNil)) σ H (.int (if i < 0 then -i else i)) :=
  ev_cb (ea_1 ha) fun H1 _ _ q => ⟨i, rfl, q H1 (Ex.refl H1)⟩
/-- len, as the list layer says it -/
theorem ev_len' {p : Addr} {xs : List V} (ha : Ev ta σ H (.ref p)) (h : SqL K H p xs) : Ev (tCB (rLenS K) (tCons ta tNil)) σ H (.int (xs.length : Int)) := fun H1 e Q q =>
  ha H1 e _ fun H2 e2 => ⟨p, xs, rfl, Or.inl (ex_l (e.trans e2) h), q H2 e2⟩
theorem ev_ixL {p : Addr} {xs : List V} {i : Int} (ha : Ev ta σ H (.ref p)) (hb : Ev tb σ H (.int i)) (h : SqL K H p xs) (hv : atI xs i = some v) : Ev (tOp (rIxL K) ta tb) σ H v := ev_op ha hb (rv_ixL h hv)
/-- an item of a new list -/
theorem ev_ixN {xs : List V} {i : Int} (ha : EvL ta σ H xs) (hb : Ev tb σ H (.int i)) (hv : atI xs i = some v) : Ev (tOp (rIxL K) ta tb) σ H v := ev_opL1 ha (fun H1 e => hb.mono e) fun _ _ hp _ => rv_ixL (sq_of hp) hv
theorem el_cat {p q : Addr} {xs ys : List V} (ha : Ev ta σ H (.ref p)) (hb : Ev tb σ H (.ref q)) (h : H p = some (.lst xs)) (h' : H q = some (.lst ys)) (hz : xs.length + ys.length ≤ sizeLine) : EvL (tOp rCat ta tb) σ H (xs ++ ys) := fun H1 e Q k =>
  ha H1 e _ fun H2 e2 => hb H2 (e.trans e2) _ fun H3 e3 => ⟨p, q, xs, ys, rfl, rfl, ((e.trans e2).trans e3) _ _ h, ((e.trans e2).trans e3) _ _ h', hz, fun l hl => k l _ (fresh_back (e2.trans e3) hl) ((e2.trans e3).trans (Ex.new hl)) upd_same⟩
theorem el_catN {p : Addr} {xs ys : List V} (ha : Ev ta σ H (.ref p)) (hb : EvL tb σ H ys) (h : H p = some (.lst xs)) (hz : xs.length + ys.length ≤ sizeLine) : EvL (tOp rCat ta tb) σ H (xs ++ ys) := fun H1 e Q k =>
  ha H1 e _ fun H2 e2 => hb H2 (e.trans e2) _ fun q H3 _ e3 hq => ⟨p, q, xs, ys, rfl, rfl, ((e.trans e2).trans e3) _ _ h, hq, hz, fun l hl => k l _ (fresh_back (e2.trans e3) hl) ((e2.trans e3).trans (Ex.new hl)) upd_same⟩
theorem el_repN {xs : List V} {n : Int} (ha : EvL ta σ H xs) (hb : Ev tb σ H (.int n)) (hn : -(2 ^ 63) ≤ n ∧ n < 2 ^ 63) (hz : xs.length * n.toNat ≤ sizeLine) : EvL (tOp rRep ta tb) σ H ((List.replicate n.toNat xs).flatten) := fun H1 e Q k =>
  ha H1 e _ fun p H2 _ e2 hp => hb H2 (e.trans e2) _ fun H3 e3 => ⟨p, n, xs, rfl, rfl, e3 p _ hp, hn.1, hn.2, hz, fun l hl => k l _ (fresh_back (e2.trans e3) hl) ((e2.trans e3).trans (Ex.new hl)) upd_same⟩
theorem el_is {xs ys : List V} (h : EvL te σ H xs) (e : xs = ys) : EvL te σ H ys := e ▸ h
theorem ev_of {te : TE} (h : Ev te σ H x) (e : x = y) : Ev te σ H y := e ▸ h
end
end Ik

namespace Ik
open PySem PySem.Spec PyProof.Rows L2 Evl
/-! ### == of lists of ints -/
theorem il_lay : ∀ ns : List Int, PyData.canLayAll0 (ns.map PyData.int) = true
  | [] => rfl
  | n :: r => by
    show (PyData.canLay0 (.int n) && PyData.canLayAll0 (r.map PyData.int)) = true
    rw [il_lay r]
    rfl
theorem il_depth : ∀ ns : List Int, PyData.depthAll (ns.map PyData.int) = 0
  | [] => rfl
  | n :: r => by
    show max (PyData.depth (.int n)) (PyData.depthAll (r.map PyData.int)) = 0
    rw [il_depth r]
    rfl
theorem il_shaped (ns : List Int) : SeqAt.shaped (.list (ns.map PyData.int)) = true := by
  unfold SeqAt.shaped
  rw [show PyData.canLay0 (.list (ns.map PyData.int)) = PyData.canLayAll0 (ns.map PyData.int) from rfl, il_lay, show PyData.depth (.list (ns.map PyData.int)) = PyData.depthAll (ns.map PyData.int) + 1 from rfl, il_depth]
  decide
theorem il_eqvAll : ∀ ns ms : List Int, PyData.eqvAll (ns.map PyData.int) (ms.map PyData.int) = decide (ns = ms)
  | [], [] => by simp [PyData.eqvAll]
  | [], m :: r => by simp [PyData.eqvAll]
  | n :: r, [] => by simp [PyData.eqvAll]
  | n :: r, m :: q => by
    show (PyData.eqv (.int n) (.int m) && PyData.eqvAll (r.map PyData.int) (q.map PyData.int)) = _
    rw [il_eqvAll r q]
    show ((n == m) && decide (r = q)) = decide (n :: r = m :: q)
    by_cases h1 : n = m <;> by_cases h2 : r = q <;> simp [h1, h2]
theorem il_eqv (ns ms : List Int) : PyData.eqv (.list (ns.map PyData.int)) (.list (ms.map PyData.int)) = decide (ns = ms) := il_eqvAll ns ms
theorem il_all {K : PySem.W.Frag} {H : Hp} : ∀ ns : List Int, DpAll K H (ns.map V.int) (ns.map PyData.int)
  | [] => .nil
  | n :: r => .cons (.int n) (il_all r)
theorem il_dp {K : PySem.W.Frag} {H : Hp} {a : Addr} {ns : List Int} (h : SqL K H a (ns.map V.int)) : Dp K H (.ref a) (.list (ns.map PyData.int)) := .lst h (il_all ns)
section
variable {K : PySem.W.Frag} {σ : L2.St} {H H' : Hp} {ta tb tc te tl : TE} {t u : TT} {x y z v : V} {R : Rel} {ns ms : List Int} {p q : Addr}
theorem rv_eqIL (h1 : SqL K H p (ns.map V.int)) (h2 : SqL K H q (ms.map V.int)) : RV (rEqD K) (.ref p) (.ref q) H (.bl (decide (ns = ms))) := fun H1 e Q k =>
  ⟨_, _, il_dp (ex_l e h1), il_dp (ex_l e h2), il_shaped _, il_shaped _, by rw [il_eqv]; exact k H1 (Ex.refl H1)⟩
theorem rv_neIL (h1 : SqL K H p (ns.map V.int)) (h2 : SqL K H q (ms.map V.int)) : RV (rNeD K) (.ref p) (.ref q) H (.bl (!decide (ns = ms))) := fun H1 e Q k =>
  ⟨_, _, il_dp (ex_l e h1), il_dp (ex_l e h2), il_shaped _, il_shaped _, by rw [il_eqv]; exact k H1 (Ex.refl H1)⟩
/-- two lists that stand | the second one new | both new -/
theorem ev_eqIL (ha : Ev ta σ H (.ref p)) (hb : Ev tb σ H (.ref q)) (h1 : SqL K H p (ns.map V.int)) (h2 : SqL K H q (ms.map V.int)) : Ev (tOp (rEqD K) ta tb) σ H (.bl (decide (ns = ms))) := ev_op ha hb (rv_eqIL h1 h2)
theorem ev_neIL (ha : Ev ta σ H (.ref p)) (hb : Ev tb σ H (.ref q)) (h1 : SqL K H p (ns.map V.int)) (h2 : SqL K H q (ms.map V.int)) : Ev (tOp (rNeD K) ta tb) σ H (.bl (!decide (ns = ms))) := ev_op ha hb (rv_neIL h1 h2)
theorem ev_eqIN (ha : Ev ta σ H (.ref p)) (hb : EvL tb σ H (ms.map V.int)) (h1 : SqL K H p (ns.map V.int)) : Ev (tOp (rEqD K) ta tb) σ H (.bl (decide (ns = ms))) := ev_opL ha hb fun _ _ hq e => rv_eqIL (ex_l e h1) (sq_of hq)
theorem ev_neIN (ha : Ev ta σ H (.ref p)) (hb : EvL tb σ H (ms.map V.int)) (h1 : SqL K H p (ns.map V.int)) : Ev (tOp (rNeD K) ta tb) σ H (.bl (!decide (ns = ms))) := ev_opL ha hb fun _ _ hq e => rv_neIL (ex_l e h1) (sq_of hq)
theorem ev_eqNI (ha : EvL ta σ H (ns.map V.int)) (hb : Ev tb σ H (.ref q)) (h2 : SqL K H q (ms.map V.int)) : Ev (tOp (rEqD K) ta tb) σ H (.bl (decide (ns = ms))) := ev_opL1 ha (fun _ e => hb.mono e) fun _ _ hp e => rv_eqIL (sq_of hp) (ex_l e h2)
theorem ev_neNI (ha : EvL ta σ H (ns.map V.int)) (hb : Ev tb σ H (.ref q)) (h2 : SqL K H q (ms.map V.int)) : Ev (tOp (rNeD K) ta tb) σ H (.bl (!decide (ns = ms))) := ev_opL1 ha (fun _ e => hb.mono e) fun _ _ hp e => rv_neIL (sq_of hp) (ex_l e h2)
theorem ev_eqNN (ha : EvL ta σ H (ns.map V.int)) (hb : EvL tb σ H (ms.map V.int)) : Ev (tOp (rEqD K) ta tb) σ H (.bl (decide (ns = ms))) := ev_opLL ha hb fun _ _ _ hp hq _ => rv_eqIL (sq_of hp) (sq_of hq)
theorem ev_neNN (ha : EvL ta σ H (ns.map V.int)) (hb : EvL tb σ H (ms.map V.int)) : Ev (tOp (rNeD K) ta tb) σ H (.bl (!decide (ns = ms))) := ev_opLL ha hb fun _ _ _ hp hq _ => rv_neIL (sq_of hp) (sq_of hq)

/-! ### comprehensions whose items are values -/
theorem et_yes : EvT tYes σ H true := fun H1 _ _ q => q H1 (Ex.refl H1)
theorem take_snoc {α : Type} {l : List α} {i : Nat} {x : α} (h : l[i]? = some x) : l.take (i + 1) = l.take i ++ [x] := by
  rw [List.take_add_one, h]
  rfl
def CwA {α : Type} (H : Hp) (l : List α) (f : α → Bool) (g : α → V) (Dl : Addr) (i : Nat) (H' : Hp) : Prop := H Dl = none ∧ Ex H H' ∧ H' Dl = some (.lst (((l.take i).filter f).map g))
theorem cwA_turn {α : Type} {l : List α} {f : α → Bool} {g : α → V} {Dl : Addr} {i : Nat} {x : α} {σ2 : L2.St} (p : CwA H l f g Dl i H') (hi : l[i]? = some x) (hz : l.length < 50000) (ht : EvT t σ2 H (f x)) (he : f x = true → Ev te σ2 H (g x)) :
    t σ2 H' fun b H3 => if b = true then te σ2 H3 fun y H4 => ∃ acc, H4 Dl = some (.lst acc) ∧ acc.length < sizeLine ∧ CwA H l f g Dl (i + 1) (upd H4 Dl (.lst (acc ++ [y]))) else CwA H l f g Dl (i + 1) H3 := by
  obtain ⟨p1, p2, p3⟩ := p
  have hlt : i < l.length := (List.getElem?_eq_some_iff.mp hi).1
  have hlen : (((l.take i).filter f).map g).length ≤ l.length := by
    rw [List.length_map]
    refine Nat.le_trans (List.length_filter_le _ _) ?_
    rw [List.length_take]
    omega
  refine ht H' p2 _ fun H3 e3 => ?_
  cases hf : f x with
  | true =>
    show te σ2 H3 fun y H4 => ∃ acc, H4 Dl = some (.lst acc) ∧ acc.length < sizeLine ∧ CwA H l f g Dl (i + 1) (upd H4 Dl (.lst (acc ++ [y])))
    refine he hf H3 (p2.trans e3) _ fun H4 e4 => ⟨_, e4 Dl _ (e3 Dl _ p3), sz_lt (by omega), p1, Ex.mut ((p2.trans e3).trans e4) p1, ?_⟩
    rw [upd_same, take_snoc hi, List.filter_append, List.map_append, List.filter_cons, if_pos hf]
    rfl
  | false =>
    show CwA H l f g Dl (i + 1) H3
    refine ⟨p1, p2.trans e3, ?_⟩
    rw [take_snoc hi, List.filter_append, List.map_append, List.filter_cons, if_neg (by rw [hf]; decide)]
    show H3 Dl = some (.lst (_ ++ []))
    rw [List.append_nil]
    exact e3 Dl _ p3
/-- over a list of enc of l's items -/
theorem el_lcA {α : Type} {a : Addr} {j : Nat} {vs : List Nat} (l : List α) (enc : α → V) (f : α → Bool) (g : α → V) (h : Ev tl σ H (.ref a)) (hx : SqL K H a (l.map enc)) (hz : l.length < 50000) (hw : ∀ x, wipe ((wipe σ vs).set j (some x)) vs = wipe σ vs)
    (ht : ∀ x ∈ l, ∀ H1, Ex H H1 → EvT t ((wipe σ vs).set j (some (enc x))) H1 (f x)) (he : ∀ x ∈ l, f x = true → ∀ H1, Ex H H1 → Ev te ((wipe σ vs).set j (some (enc x))) H1 (g x)) :
    EvL (tLc (iList K tl) (gName j) t te vs) σ H ((l.filter f).map g) := fun H0 e Q q => h H0 e _ fun H1 e1 => ⟨a, rfl, ⟨_, ex_l (e.trans e1) hx⟩, fun Dl hD =>
  lc_list (xs := l.map enc) (CwA H1 l f g Dl) ⟨hD, Ex.new hD, upd_same⟩ (fun i H' _ p => ex_l ((e.trans e1).trans p.2.1) hx) (fun i x H' hi p => by
    rw [List.getElem?_map] at hi
    cases hq : l[i]? with
    | none =>
      rw [hq] at hi
      cases hi
    | some b =>
      rw [hq] at hi
      have ex : enc b = x := Option.some.inj hi
      subst ex
      have hm : b ∈ l := List.mem_of_getElem? hq
      exact ⟨hw _, cwA_turn p hq hz (ht b hm H1 (e.trans e1)) (fun hf => he b hm hf H1 (e.trans e1))⟩)
    (fun H' p => by
      have p3 := p.2.2
      rw [List.length_map, List.take_length] at p3
      exact q Dl H' (fresh_back e1 p.1) (e1.trans p.2.1) p3)⟩
/-- over a new list -/
theorem el_lcNA {α : Type} {j : Nat} {vs : List Nat} (l : List α) (enc : α → V) (f : α → Bool) (g : α → V) (h : EvL tl σ H (l.map enc)) (hz : l.length < 50000) (hw : ∀ x, wipe ((wipe σ vs).set j (some x)) vs = wipe σ vs)
    (ht : ∀ x ∈ l, ∀ H1, Ex H H1 → EvT t ((wipe σ vs).set j (some (enc x))) H1 (f x)) (he : ∀ x ∈ l, f x = true → ∀ H1, Ex H H1 → Ev te ((wipe σ vs).set j (some (enc x))) H1 (g x)) :
    EvL (tLc (iList K tl) (gName j) t te vs) σ H ((l.filter f).map g) := fun H0 e Q q => h H0 e _ fun a H1 ha e1 hx => ⟨a, rfl, ⟨_, sq_of hx⟩, fun Dl hD =>
  lc_list (xs := l.map enc) (CwA H1 l f g Dl) ⟨hD, Ex.new hD, upd_same⟩ (fun i H' _ p => sq_of (p.2.1 a _ hx)) (fun i x H' hi p => by
    rw [List.getElem?_map] at hi
    cases hq : l[i]? with
    | none =>
      rw [hq] at hi
      cases hi
    | some b =>
      rw [hq] at hi
      have ex : enc b = x := Option.some.inj hi
      subst ex
      have hm : b ∈ l := List.mem_of_getElem? hq
      exact ⟨hw _, cwA_turn p hq hz (ht b hm H1 (e.trans e1)) (fun hf => he b hm hf H1 (e.trans e1))⟩)
    (fun H' p => by
      have p3 := p.2.2
      rw [List.length_map, List.take_length] at p3
      exact q Dl H' (fresh_back e1 p.1) (e1.trans p.2.1) p3)⟩
/-- over range(n) -/
theorem el_lcR {ta : TA} {j : Nat} {vs : List Nat} {n : Int} (f : Nat → Bool) (g : Nat → V) (h : EvA ta σ H [.int n]) (hn : 0 ≤ n ∧ n < 50000) (hw : ∀ x, wipe ((wipe σ vs).set j (some x)) vs = wipe σ vs)
    (ht : ∀ i : Nat, (i : Int) < n → ∀ H1, Ex H H1 → EvT t ((wipe σ vs).set j (some (.int (i : Int)))) H1 (f i)) (he : ∀ i : Nat, (i : Int) < n → f i = true → ∀ H1, Ex H H1 → Ev te ((wipe σ vs).set j (some (.int (i : Int)))) H1 (g i)) :
    EvL (tLc (iRng1 ta) (gName j) t te vs) σ H (((List.range n.toNat).filter f).map g) := fun H0 e Q q => h H0 e _ fun H1 e1 => ⟨n, rfl, by omega, by omega, fun Dl hD =>
  lc_range (lo := 0) (n := n.toNat) (CwA H1 (List.range n.toNat) f g Dl) ⟨hD, Ex.new hD, upd_same⟩ (fun i H' hi p => by
    have e0 : (0 : Int) + (i : Int) = (i : Int) := Int.zero_add _
    have hq : (List.range n.toNat)[i]? = some i := by rw [List.getElem?_range hi]
    show wipe ((wipe σ vs).set j (some (.int ((0 : Int) + (i : Int))))) vs = wipe σ vs ∧ t ((wipe σ vs).set j (some (.int ((0 : Int) + (i : Int))))) H' fun b H3 => if b = true then te ((wipe σ vs).set j (some (.int ((0 : Int) + (i : Int))))) H3 fun y H4 => ∃ acc, H4 Dl = some (.lst acc) ∧ acc.length < sizeLine ∧ CwA H1 (List.range n.toNat) f g Dl (i + 1) (upd H4 Dl (.lst (acc ++ [y]))) else CwA H1 (List.range n.toNat) f g Dl (i + 1) H3
    rw [e0]
    exact ⟨hw _, cwA_turn p hq (by rw [List.length_range]; omega) (ht i (by omega) H1 (e.trans e1)) (fun hf => he i (by omega) hf H1 (e.trans e1))⟩) (fun H' p => by
      have p3 := p.2.2
      rw [List.take_of_length_le (by rw [List.length_range]; omega)] at p3
      exact q Dl H' (fresh_back e1 p.1) (e1.trans p.2.1) p3)⟩
theorem filter_tt {α : Type} (l : List α) : l.filter (fun _ => true) = l := by
  rw [List.filter_eq_self]
  intro _ _
  rfl

/-! ### for a, b in enumerate(xs), a and b names -/
variable {D : Ends} {tu tz : TS}
theorem s_forE {α : Type} {a : Addr} {ja jb : Nat} (l : List α) (enc : α → V) (h : Ev tl σ H (.ref a)) (hx : SqL K H a (l.map enc)) (Pv : Nat → L2.St → Hp → Prop) (h0 : ∀ H1, Ex H H1 → Pv 0 σ H1) (hl : ∀ i σ' H', i ≤ l.length → Pv i σ' H' → SqL K H' a (l.map enc))
    (hs : ∀ (i : Nat) b σ' H', l[i]? = some b → Pv i σ' H' → ∀ H2, Ex H' H2 → tu { D with nx := Pv (i + 1), ct := Pv (i + 1), bk := D.nx } ((σ'.set ja (some (.int (i : Int)))).set jb (some (enc b))) H2) (hd : ∀ σ' H', Pv l.length σ' H' → D.nx σ' H') :
    tFor (iEnum K (tCons tl tNil)) (gTup K 2 (gCons (gName ja) (gCons (gName jb) gNil))) tu D σ H := h H (Ex.refl H) _ fun H1 e => ⟨a, _, rfl, ex_l e hx, by
  have w := walk_enum (K := K) (a := a) (xs := l.map enc)
  refine for_it w Pv (h0 H1 e) (fun i σ' H' hi p => hl i σ' H' (by rw [List.length_map] at hi; exact hi) p) (fun i x σ' H' H2 hi p y => ?_) (fun σ' H' p => hd σ' H' (by rw [List.length_map] at p; exact p))
  obtain ⟨T, v1, v2, rfl, nT, rfl, e1, e2⟩ := y
  have e1 : V.int (i : Int) = v1 := Option.some.inj e1
  subst e1
  have e2 : (l.map enc)[i]? = some v2 := e2
  rw [List.getElem?_map] at e2
  cases hq : l[i]? with
  | none =>
    rw [hq] at e2
    cases e2
  | some b =>
    rw [hq] at e2
    have ex : enc b = v2 := Option.some.inj e2
    subst ex
    exact ⟨T, [.int (i : Int), enc b], rfl, .inl (.inl upd_same), rfl, _, _, rfl, _, _, rfl, rfl, hs i b σ' H' hq p _ (Ex.new nT)⟩⟩
theorem q_forE {α : Type} {a : Addr} {ja jb : Nat} (l : List α) (enc : α → V) (h : Ev tl σ H (.ref a)) (hx : SqL K H a (l.map enc)) (Pv : Nat → L2.St → Hp → Prop) (h0 : ∀ H1, Ex H H1 → Pv 0 σ H1) (hl : ∀ i σ' H', i ≤ l.length → Pv i σ' H' → SqL K H' a (l.map enc))
    (hs : ∀ (i : Nat) b σ' H', l[i]? = some b → Pv i σ' H' → ∀ H2, Ex H' H2 → tu { D with nx := Pv (i + 1), ct := Pv (i + 1), bk := tz D } ((σ'.set ja (some (.int (i : Int)))).set jb (some (enc b))) H2) (hd : ∀ σ' H', Pv l.length σ' H' → tz D σ' H') :
    tSeq (tFor (iEnum K (tCons tl tNil)) (gTup K 2 (gCons (gName ja) (gCons (gName jb) gNil))) tu) tz D σ H := s_forE (D := { D with nx := tz D }) l enc h hx Pv h0 hl hs hd
/-- list(range(a, b)) -/
theorem el_rg {i j : Int} (ha : Ev ta σ H (.int i)) (hb : Ev tb σ H (.int j)) (h : RgOk i j) : EvL (tLstRg (tRg2 ta tb)) σ H (rgV i j) := fun H1 e Q q =>
  ha H1 e _ fun H2 e2 => hb H2 (e.trans e2) _ fun H3 e3 => ⟨i, j, rfl, rfl, h, fun p hp => q p _ (fresh_back (e2.trans e3) hp) ((e2.trans e3).trans (Ex.new hp)) upd_same⟩
theorem el_rg1 {j : Int} (hb : Ev tb σ H (.int j)) (h : RgOk 0 j) : EvL (tLstRg (tRg1 tb)) σ H (rgV 0 j) := fun H1 e Q q =>
  hb H1 e _ fun H3 e3 => ⟨j, rfl, h, fun p hp => q p _ (fresh_back e3 hp) (e3.trans (Ex.new hp)) upd_same⟩
theorem el_nil : EvL (tLst tNil) σ H [] := el_lst ea_nil (Nat.zero_le _)
end
theorem RetV.mk {v : V} {H H' : Hp} {Q : VK} (k : RetV v H Q) (e : Ex H H') : ∀ H2, Ex H' H2 → Q v H2 := fun H2 e2 => k H2 (e.trans e2)
end Ik

namespace Ik
open PySem PySem.Spec PyProof.Rows L2 Evl
theorem not_t {b : Bool} (h : (!b) = true) : b = false := by
  cases b with
  | false => rfl
  | true => cases h
theorem not_f {b : Bool} (h : (!b) = false) : b = true := by
  cases b with
  | true => rfl
  | false => cases h
/-! ### a def as the top has left it -/
structure Dn (K : PySem.W.Frag) (mg : Str → Option Value) (x : Str) (st : Stmt) (ps : List Str) : Prop where
  ex : ∃ (f : Addr) (fd : FuncData), Fun K x x st f fd ∧ mg x = some (.ref f) ∧ Binds K fd ps []
section
variable {P : Program} {w : World} {K : PySem.W.Frag} {mg : Str → Option Value} {base : Heap}
theorem cal_of {x : Str} {st : Stmt} {N ps : List Str} {k : Nat} {sp : Sp} (D : Dn K mg x st ps) (S : FnScope N ps (defScope st)) (len : ∀ vs H Q E, sp vs H Q E → vs.length = ps.length)
    (hbody : ∀ (f : Addr) (cdv : Value) (A : Around) (outer : List Env) (s : Shared) (H : Hp) (vs : List V) (Q : VK) (E : XK), Room k (A.deeper (envOfC x (defScope st) s.heap.objs.size f cdv)) → sp vs H Q E →
      ∃ t, PSs (cxOf CX0 P w K mg base N x (defScope st) f cdv A outer s H E).nox (defBody st) t ∧ t { nx := fun _ H' => Q .non H', rt := Q } (start N vs) H) : Cal P w K mg base x (k + 1) ps sp := by
  obtain ⟨f, fd, F, g, b⟩ := D.ex
  exact ⟨f, fd, F.ok S len fun cdv A outer s H vs Q E hr h => hbody f cdv A outer s H vs Q E hr h, g, F.kp, b⟩
theorem dn_mk {x : Str} {st : Stmt} {f : Addr} {fd : FuncData} {ps : List Str} (F : Fun K x x st f fd) (g : mg x = some (.ref f)) (b : Binds K fd ps []) : Dn K mg x st ps := ⟨f, fd, F, g, b⟩
end
end Ik

namespace Ik
open PySem PySem.Spec PyProof.Rows L2 Evl
theorem hu0 {A : Around} {k : Nat} (hr : Room k A) : A.units < cLine := Nat.lt_of_le_of_lt (Nat.le_add_right _ 64) hr.units
/-! ### list(d.values()) -/
def tListVals (te : TE) : TE := fun σ H Q => te σ H fun x H1 => ∃ (d : Addr) (kvs : List (Key × V)), x = .ref d ∧ H1 d = some (.dK kvs) ∧ ∀ p, H1 p = none → Q (.ref p) (upd H1 p (.lst (kvs.map (·.2))))
theorem kv_vals {kvs : List (Key × V)} {vs : List (Key × Value)} (h : KV kvs vs) : Vals (kvs.map (·.2)) (vs.map (·.2)) := by
  unfold KV at h
  induction h with
  | nil => exact .nil
  | cons h t k => exact .cons h.2 k
section
variable {X : Cx} {e : Expr} {te : TE} {p apos cpos pos : Pos}
theorem pe_listVals (hc : X.calm = true) (he : PE X e te) (hg : Gl X "list") (hm : X.mg "list" = none) (hv : bootBuiltins "list" = some (.type "list") := by decide +kernel) (hbase : attributeBase e "values" X.env (eval e X.env) = eval e X.env := by rfl) (hline : (apos.endLine == cpos.line) = true := by rfl)
    (hs : starEach [.Call (.Attribute e "values" apos) [] [] cpos] X.env = (false, eval (.Call (.Attribute e "values" apos) [] [] cpos) X.env) :: starEach [] X.env := by rfl) :
    PE X (.Call (.Name "list" p) [.Call (.Attribute e "values" apos) [] [] cpos] [] pos) (tListVals te) := by
  refine ⟨fun pins s σ H Q I hq => ?_⟩
  refine wpAny_Call_Name_kw (ld_blt I hg hm hv ?_)
  refine PyProof.Rows.callWith_type1 ?_ hs rfl
  rw [hs]
  show wpAny _ _ (spliced ((false, eval (.Call (.Attribute e "values" apos) [] [] cpos) X.env) :: backTo pos (starEach [] X.env))) _ _ s
  refine Calls.spliced_cons ?_
  refine wpAny_Call_method (T := "dict") (id := "dict.values") hbase rfl hline F.plainAttrs_dict F.slot_dict_values F.type_dict_values (thn (he.run pins s σ H _ I hq) fun u s1 ⟨x, H1, I1, rx, d, kvs, ex, hd, q⟩ => ?_)
  subst ex
  obtain rfl : u = Value.ref d := rx
  obtain ⟨hz, hs0, vs, kv, hdo⟩ := I1.hok d _ hd
  obtain ⟨ep, hat⟩ := hdo.dictAt
  have lk : kvs.length = vs.length := Paired.length kv
  have I2 : Inv X pins σ H1 { s1 with heap := s1.heap.push { cls := .type "dict_values", data := .fields #[.ref d] } } := I1.kept (t' := s1.toks) fun b ob q => Heap.get?_push_of_some _ q
  refine ⟨hdo.typeIs, hdo.mapOf.noDict, ?_⟩
  show wpAny _ _ (callWith cpos (.builtin "dict.values") [.ref d] [] []) _ X.xe s1
  refine method_meetsIn F.slot_dict_values F.entry_dict_values rfl (PySem.evalArgs_none ⟨rfl, hdo.typeIs, F.args_dict_values_1 _, _, meets_dict_values (mixKind X.prog X.w) d hs0, ⟨vs, hdo⟩, ?_⟩)
  refine Calls.spliced_nil ?_
  refine PySem.W.kdl_call (PySem.W.kdl_values (knd := mixKind X.prog X.w) (kvs := vs) (ep := ep) (r := s1.heap.objs.size) (d := d)) (I1.ok.hd hc) ⟨⟨_, Heap.get?_push_size _ rfl, rfl, rfl⟩, hat.push _⟩ (by omega) fun h' tk acc c hk hD hacc => ?_
  have ev : acc.toList = vs.map (·.2) := PySem.W.kdl_vals_eq acc.toList (by rw [Array.length_toList]; exact hacc.1) fun j v e => hacc.2 j v (by rw [← Array.getElem?_toList]; exact e)
  exact ⟨.ref _, upd H1 _ (.lst (kvs.map (·.2))), I2.laid (t' := tk) hk (Nat.le_refl _) (show ObjOk X.prog X.w _ _ _ (.lst (kvs.map (·.2))) from ⟨by rw [List.length_map]; exact hz, acc.toList, c, by rw [ev]; exact kv_vals kv, by rw [Array.toArray_toList]; exact hD⟩), rfl, q _ (I2.hok.fresh (Nat.le_refl _))⟩
end
section
variable {K : PySem.W.Frag} {σ : L2.St} {H H' : Hp} {ta tb tc te tl : TE} {t u : TT} {x y z v : V} {R : Rel}
theorem el_vals {d : Addr} {kvs : List (Key × V)} (h : Ev te σ H (.ref d)) (hd : H d = some (.dK kvs)) : EvL (tListVals te) σ H (kvs.map (·.2)) := fun H1 e Q q =>
  h H1 e _ fun H2 e2 => ⟨d, kvs, rfl, (e.trans e2) _ _ hd, fun p hp => q p _ (fresh_back e2 hp) (e2.trans (Ex.new hp)) upd_same⟩
/-- a new dict -/
def EvD (te : TE) (σ : L2.St) (H : Hp) (kvs : List (Key × V)) : Prop := ∀ H1, Ex H H1 → ∀ Q : VK, (∀ p H2, H1 p = none → Ex H1 H2 → H2 p = some (.dK kvs) → Q (.ref p) H2) → te σ H1 Q
def SpD (sp : Sp) (vs : List V) (H : Hp) (kvs : List (Key × V)) : Prop := ∀ H1, Ex H H1 → ∀ Q : VK, (∀ p H2, H1 p = none → Ex H1 H2 → H2 p = some (.dK kvs) → Q (.ref p) H2) → ∀ E : XK, sp vs H1 Q E
def RetD (kvs : List (Key × V)) (H : Hp) (Q : VK) : Prop := ∀ p H2, H p = none → Ex H H2 → H2 p = some (.dK kvs) → Q (.ref p) H2
theorem RetD.go {kvs : List (Key × V)} {Q : VK} (k : RetD kvs H Q) (e : Ex H H') {p : Addr} {H2 : Hp} (hp : H' p = none) (e2 : Ex H' H2) (h : H2 p = some (.dK kvs)) : Q (.ref p) H2 := k p H2 (fresh_back e hp) (e.trans e2) h
theorem ed_call0 {sp : Sp} {vs : List V} {kvs : List (Key × V)} {E : XK} {ta : TA} (h : EvA ta σ H vs) (hs : SpD sp vs H kvs) : EvD (tCall sp [] E ta) σ H kvs := fun H1 e Q q =>
  h H1 e _ fun H2 e2 => by
    rw [List.append_nil]
    exact hs H2 (e.trans e2) Q (fun p H3 hp e3 h3 => q p H3 (fresh_back e2 hp) (e2.trans e3) h3) E
theorem ed_is {kvs kvs' : List (Key × V)} (h : EvD te σ H kvs) (e : kvs = kvs') : EvD te σ H kvs' := e ▸ h
theorem el_valsN {kvs : List (Key × V)} (h : EvD te σ H kvs) : EvL (tListVals te) σ H (kvs.map (·.2)) := fun H1 e Q q =>
  h H1 e _ fun d H2 hd0 e2 hd => ⟨d, kvs, rfl, hd, fun p hp => q p _ (fresh_back e2 hp) (e2.trans (Ex.new hp)) upd_same⟩
theorem ed_new : EvD tDNewK σ H [] := fun H1 e Q q => fun d hd => q d _ hd (Ex.new hd) upd_same
variable {D : Ends} {tu tz : TS}
theorem s_asgD {i : Nat} {kvs : List (Key × V)} (h : EvD te σ H kvs) (k : ∀ p H1, H p = none → Ex H H1 → H1 p = some (.dK kvs) → D.nx (σ.set i (some (.ref p))) H1) : tAsg te (gName i) D σ H := h H (Ex.refl H) _ fun p H1 hp e h1 => k p H1 hp e h1
theorem q_asgD {i : Nat} {kvs : List (Key × V)} (h : EvD te σ H kvs) (k : ∀ p H1, H p = none → Ex H H1 → H1 p = some (.dK kvs) → tz D (σ.set i (some (.ref p))) H1) : tSeq (tAsg te (gName i)) tz D σ H := s_asgD (D := { D with nx := tz D }) h k
theorem s_retD {kvs : List (Key × V)} (h : EvD te σ H kvs) (k : ∀ p H1, H p = none → Ex H H1 → H1 p = some (.dK kvs) → D.rt (.ref p) H1) : tRet te D σ H := h H (Ex.refl H) _ k
/-- list(d), sorted(d): the keys -/
theorem el_keys {d : Addr} {kvs : List (Key × V)} (h : Ev te σ H (.ref d)) (hd : H d = some (.dK kvs)) : EvL (tCB rListD (tCons te tNil)) σ H (kvs.map fun kv => kV kv.1) := fun H1 e Q q =>
  h H1 e _ fun H2 e2 => ⟨d, kvs, rfl, (e.trans e2) _ _ hd, fun p hp => q p _ (fresh_back e2 hp) (e2.trans (Ex.new hp)) upd_same⟩
theorem ev_lenD {d : Addr} {kvs : List (Key × V)} (h : Ev te σ H (.ref d)) (hd : H d = some (.dK kvs)) : Ev (tCB (fun xs H Q => ∃ a kvs, xs = [V.ref a] ∧ H a = some (.dK kvs) ∧ Q (.int kvs.length) H) (tCons te tNil)) σ H (.int (kvs.length : Int)) := fun H1 e Q q =>
  h H1 e _ fun H2 e2 => ⟨d, kvs, rfl, (e.trans e2) _ _ hd, q H2 e2⟩
/-- d[k], a key that is an int -/
theorem ev_dget {d : Addr} {kvs : List (Key × V)} {n : Int} (h : Ev ta σ H (.ref d)) (hk : Ev tb σ H (.int n)) (hd : H d = some (.dK kvs)) (hv : valV kvs (Sum.inl n) = some v) : Ev (tDGet ta tb) σ H v := fun H1 e Q q =>
  h H1 e _ fun H2 e2 => hk H2 (e.trans e2) _ fun H3 e3 => ⟨d, v, rfl, by
    have g := DGet.k (k := Sum.inl n) (((e.trans e2).trans e3) _ _ hd)
    rw [hv] at g
    exact g, q H3 (e2.trans e3)⟩
theorem ev_din {d : Addr} {kvs : List (Key × V)} {n : Int} (hk : Ev tb σ H (.int n)) (h : Ev ta σ H (.ref d)) (hd : H d = some (.dK kvs)) : Ev (tDIn tb ta) σ H (.bl (valV kvs (Sum.inl n)).isSome) := fun H1 e Q q =>
  hk H1 e _ fun H2 e2 => h H2 (e.trans e2) _ fun H3 e3 => ⟨d, _, rfl, DGet.k (k := Sum.inl n) (((e.trans e2).trans e3) _ _ hd), q H3 (e2.trans e3)⟩
theorem ev_dnotin {d : Addr} {kvs : List (Key × V)} {n : Int} (hk : Ev tb σ H (.int n)) (h : Ev ta σ H (.ref d)) (hd : H d = some (.dK kvs)) : Ev (tDNotIn tb ta) σ H (.bl !(valV kvs (Sum.inl n)).isSome) := fun H1 e Q q =>
  hk H1 e _ fun H2 e2 => h H2 (e.trans e2) _ fun H3 e3 => ⟨d, _, rfl, DGet.k (k := Sum.inl n) (((e.trans e2).trans e3) _ _ hd), q H3 (e2.trans e3)⟩
/-- d[k] = v -/
theorem s_dput {d : Addr} {kvs : List (Key × V)} {n : Int} (hv : Ev te σ H v) (h : Ev ta σ H (.ref d)) (hk : Ev tb σ H (.int n)) (hd : H d = some (.dK kvs)) (hz : kvs.length < 100000) (k : ∀ H1, Ex H H1 → D.nx σ (upd H1 d (.dK (putK kvs (Sum.inl n) v)))) : sDPut ta tb te D σ H :=
  hv H (Ex.refl H) _ fun H1 e1 => h H1 e1 _ fun H2 e2 => hk H2 (e1.trans e2) _ fun H3 e3 => ⟨d, _, rfl, DPut.k (k := Sum.inl n) (((e1.trans e2).trans e3) _ _ hd) (sz_lt hz), k H3 ((e1.trans e2).trans e3)⟩
theorem q_dput {d : Addr} {kvs : List (Key × V)} {n : Int} (hv : Ev te σ H v) (h : Ev ta σ H (.ref d)) (hk : Ev tb σ H (.int n)) (hd : H d = some (.dK kvs)) (hz : kvs.length < 100000) (k : ∀ H1, Ex H H1 → tz D σ (upd H1 d (.dK (putK kvs (Sum.inl n) v)))) : tSeq (sDPut ta tb te) tz D σ H :=
  s_dput (D := { D with nx := tz D }) hv h hk hd hz k
/-- dict(d) -/
theorem ed_copy {d : Addr} {kvs : List (Key × V)} (h : Ev te σ H (.ref d)) (hd : H d = some (.dK kvs)) : EvD (tCB (fun xs H Q => ∃ (a : Addr) (kvs : List (Key × V)), xs = [.ref a] ∧ Rd H a (.dK kvs) ∧ ∀ p, H p = none → Q (.ref p) (upd H p (.dK kvs))) (tCons te tNil)) σ H kvs := fun H1 e Q q =>
  h H1 e _ fun H2 e2 => ⟨d, kvs, rfl, .inl ((e.trans e2) _ _ hd), fun p hp => q p _ (fresh_back e2 hp) (e2.trans (Ex.new hp)) upd_same⟩
end
end Ik

namespace Ik
open PySem PySem.Spec PyProof.Rows L2 Evl
/-! ### a < b < c < d -/
def tChain3 (r r' r'' : R2) (ta tb tc td : TE) : TE := fun σ H Q => ta σ H fun x H1 => tb σ H1 fun y H2 => r x y H2 fun z H3 => ∃ k, z = .bl k ∧
  (if k = true then tc σ H3 fun w H4 => r' y w H4 fun z' H5 => ∃ k', z' = .bl k' ∧ (if k' = true then td σ H5 fun u H6 => r'' w u H6 Q else Q (.bl false) H5) else Q (.bl false) H3)
theorem pe_chain3 {X : Cx} {a b c d : Expr} {ta tb tc td : TE} {pos : Pos} {op op' op'' : CmpOp} {r r' r'' : R2} (ho : OpR X (compareOp op) r) (ho' : OpR X (compareOp op') r') (ho'' : OpR X (compareOp op'') r'') (ha : PE X a ta) (hb : PE X b tb) (hc : PE X c tc) (hd : PE X d td)
    (hm : lastMarks [op, op', op''] [b, c, d] = false := by with_unfolding_all rfl) : PE X (.Compare a [op, op', op''] [b, c, d] pos) (tChain3 r r' r'' ta tb tc td) := by
  refine ⟨fun pins s σ H Q I h => ?_⟩
  refine Compare_chain (thn (ha.run pins s σ H _ I h) fun v s1 ⟨x, H1, I1, r1, q1⟩ => chain_link (thn (hb.run pins s1 σ H1 _ I1 q1) fun u s2 ⟨y, H2, I2, r2, q2⟩ =>
    thn (ho pins s2 σ H2 x y v u _ I2 r1 r2 q2) fun d1 s3 ⟨z, H3, I3, r3, k, e, q3⟩ => ?_)) hm
  subst e
  cases r3
  refine wpAny_truthy_bool ?_
  cases k with
  | false => exact ite_ff ⟨.bl false, H3, I3, rfl, q3⟩
  | true =>
    refine ite_tt (chain_link (thn (hc.run pins s3 σ H3 _ I3 q3) fun w' s4 ⟨z', H4, I4, r4, q4⟩ => thn (ho' pins s4 σ H4 y z' u w' _ I4 r2 r4 q4) fun d2 s5 ⟨z2, H5, I5, r5, k', e', q5⟩ => ?_))
    subst e'
    cases r5
    refine wpAny_truthy_bool ?_
    cases k' with
    | false => exact ite_ff ⟨.bl false, H5, I5, rfl, q5⟩
    | true => exact ite_tt (chain_last (thn (hd.run pins s5 σ H5 _ I5 q5) fun u' s6 ⟨z3, H6, I6, r6, q6⟩ => ho'' pins s6 σ H6 z' z3 w' u' Q I6 r4 r6 q6))
section
variable {K : PySem.W.Frag} {σ : L2.St} {H H' : Hp} {ta tb tc td te tl : TE} {t u : TT} {x y z v : V} {R : Rel}
theorem ev_chain3I {g g' g'' : Int → Int → Bool} {i j k l : Int} (ha : Ev ta σ H (.int i)) (hb : Ev tb σ H (.int j)) (hc : Ev tc σ H (.int k)) (hd : Ev td σ H (.int l)) :
    Ev (tChain3 (rI0 fun i j => .bl (g i j)) (rI0 fun i j => .bl (g' i j)) (rI0 fun i j => .bl (g'' i j)) ta tb tc td) σ H (.bl (g i j && (g' j k && g'' k l))) := fun H1 e Q q =>
  ha H1 e _ fun H2 e2 => hb H2 (e.trans e2) _ fun H3 e3 => ⟨i, j, rfl, rfl, g i j, rfl, by
    have e13 := e2.trans e3
    cases g1 : g i j with
    | false =>
      rw [g1] at q
      exact q H3 e13
    | true =>
      rw [g1] at q
      show tc σ H3 _
      refine hc H3 (e.trans e13) _ fun H4 e4 => ⟨j, k, rfl, rfl, g' j k, rfl, ?_⟩
      cases g2 : g' j k with
      | false =>
        rw [g2] at q
        exact q H4 (e13.trans e4)
      | true =>
        rw [g2] at q
        show td σ H4 _
        exact hd H4 ((e.trans e13).trans e4) _ fun H5 e5 => ⟨k, l, rfl, rfl, q H5 ((e13.trans e4).trans e5)⟩⟩

/-! ### sorted ints -/
def sortI (ns : List Int) : List Int := ns.mergeSort fun a b => decide (a ≤ b)
theorem sortI_perm (ns : List Int) : (sortI ns).Perm ns := List.mergeSort_perm _ _
theorem sortI_le (ns : List Int) : (sortI ns).Pairwise (· ≤ ·) := by
  have h := List.pairwise_mergeSort (le := fun a b : Int => decide (a ≤ b)) (fun a b c h1 h2 => by
    rw [decide_eq_true_eq] at *
    omega) (fun a b => by
    rw [Bool.or_eq_true, decide_eq_true_eq, decide_eq_true_eq]
    omega) ns
  exact h.imp fun h => of_decide_eq_true h
theorem sorted_uniq : ∀ {xs ys : List Int}, xs.Perm ys → xs.Pairwise (· ≤ ·) → ys.Pairwise (· ≤ ·) → xs = ys
  | [], ys, p, _, _ => (List.nil_perm.mp p).symm
  | x :: r, ys, p, hx, hy => by
    obtain ⟨h1, h2⟩ := List.pairwise_cons.mp hx
    cases ys with
    | nil => exact absurd (List.perm_nil.mp p) (List.cons_ne_nil _ _)
    | cons y q =>
      obtain ⟨h3, h4⟩ := List.pairwise_cons.mp hy
      have a1 : x ∈ y :: q := p.subset List.mem_cons_self
      have a2 : y ∈ x :: r := p.symm.subset List.mem_cons_self
      have e : x = y := by
        rcases List.mem_cons.mp a1 with e | m1
        · exact e
        · rcases List.mem_cons.mp a2 with e | m2
          · exact e.symm
          · have := h3 x m1
            have := h1 y m2
            omega
      subst e
      rw [sorted_uniq (List.Perm.cons_inv p) h2 h4]
theorem sortI_of {ns ys : List Int} (p : ys.Perm ns) (h : ys.Pairwise (· ≤ ·)) : ys = sortI ns := sorted_uniq (p.trans (sortI_perm ns).symm) h (sortI_le ns)
theorem sortI_len (ns : List Int) : (sortI ns).length = ns.length := (sortI_perm ns).length_eq
theorem sortI_mem {ns : List Int} {x : Int} : x ∈ sortI ns ↔ x ∈ ns := (sortI_perm ns).mem_iff
theorem sortI_nodup {ns : List Int} (h : ns.Nodup) : (sortI ns).Nodup := (sortI_perm ns).symm.nodup h
theorem el_sort {a : Addr} {ns : List Int} (h : Ev te σ H (.ref a)) (hx : SqL K H a (ns.map V.int)) : EvL (tCB (rSortedI K) (tCons te tNil)) σ H ((sortI ns).map V.int) := fun H1 e Q q =>
  h H1 e _ fun H2 e2 => ⟨a, ns, rfl, ex_l (e.trans e2) hx, fun ys p hp hs hn => by
    rw [sortI_of hp hs]
    exact q p _ (fresh_back e2 hn) (e2.trans (Ex.new hn)) upd_same⟩
theorem el_sortN {ns : List Int} (h : EvL te σ H (ns.map V.int)) : EvL (tCB (rSortedI K) (tCons te tNil)) σ H ((sortI ns).map V.int) := fun H1 e Q q =>
  h H1 e _ fun a H2 _ e2 h2 => ⟨a, ns, rfl, sq_of h2, fun ys p hp hs hn => by
    rw [sortI_of hp hs]
    exact q p _ (fresh_back e2 hn) (e2.trans (Ex.new hn)) upd_same⟩
/-- sorted of a dict with int keys -/
def rSortDI : List V → Hp → VK → Prop := fun vs H Q => ∃ (a : Addr) (kvs : List (Key × V)) (ks : List Int), vs = [.ref a] ∧ Rd H a (.dK kvs) ∧ kvs.map (·.1) = ks.map Sum.inl ∧ ks.length < 64 ∧ ∀ (ys : List Int) (p : Addr), ys.Perm ks → ys.Pairwise (· ≤ ·) → H p = none → Q (.ref p) (upd H p (.lst (ys.map V.int)))
theorem el_sortD {a : Addr} {kvs : List (Key × V)} {ks : List Int} (h : Ev te σ H (.ref a)) (hx : H a = some (.dK kvs)) (hk : kvs.map (·.1) = ks.map Sum.inl) (hl : ks.length < 64) : EvL (tCB rSortDI (tCons te tNil)) σ H ((sortI ks).map V.int) := fun H1 e Q q =>
  h H1 e _ fun H2 e2 => ⟨a, kvs, ks, rfl, .inl ((e.trans e2) _ _ hx), hk, hl, fun ys p hp hs hn => by
    rw [sortI_of hp hs]
    exact q p _ (fresh_back e2 hn) (e2.trans (Ex.new hn)) upd_same⟩

/-! ### a, b, c = a tuple -/
variable {D : Ends} {tu tz : TS}
theorem s_asg3 {p : Addr} {a b c : V} {i j k : Nat} (h : Ev te σ H (.ref p)) (hp : H p = some (.tup [a, b, c])) (q : ∀ H1, Ex H H1 → D.nx (((σ.set i (some a)).set j (some b)).set k (some c)) H1) :
    tAsg te (gTup K 3 (gCons (gName i) (gCons (gName j) (gCons (gName k) gNil)))) D σ H := h H (Ex.refl H) _ fun H1 e => ⟨p, [a, b, c], rfl, .inl (.inl (e _ _ hp)), rfl, a, [b, c], rfl, b, [c], rfl, c, [], rfl, rfl, q H1 e⟩
theorem q_asg3 {p : Addr} {a b c : V} {i j k : Nat} (h : Ev te σ H (.ref p)) (hp : H p = some (.tup [a, b, c])) (q : ∀ H1, Ex H H1 → tz D (((σ.set i (some a)).set j (some b)).set k (some c)) H1) :
    tSeq (tAsg te (gTup K 3 (gCons (gName i) (gCons (gName j) (gCons (gName k) gNil))))) tz D σ H := s_asg3 (D := { D with nx := tz D }) h hp q

/-! ### dict([(k, v) for x in xs if ..]) -/
def rDictP (K : PySem.W.Frag) : List V → Hp → VK → Prop := fun xs H Q => ∃ (a : Addr) (ps : List Addr) (kvs : List (Key × V)), xs = [.ref a] ∧ SqL K H a (ps.map V.ref) ∧ Paired (fun p kv => SqT K H p [kV kv.1, kv.2]) ps kvs ∧ ∀ p, H p = none → Q (.ref p) (upd H p (.dK (mergeK [] kvs)))
theorem paired_len {α β : Type} {F : α → β → Prop} : ∀ {xs : List α} {ys : List β}, Paired F xs ys → xs.length = ys.length
  | _, _, .nil => rfl
  | _, _, .cons _ t => congrArg (· + 1) (paired_len t)
theorem paired_imp {α β : Type} {F G : α → β → Prop} (h : ∀ x y, F x y → G x y) : ∀ {xs : List α} {ys : List β}, Paired F xs ys → Paired G xs ys
  | _, _, .nil => .nil
  | _, _, .cons a t => .cons (h _ _ a) (paired_imp h t)
theorem paired_snoc {α β : Type} {F : α → β → Prop} {x : α} {y : β} (h : F x y) : ∀ {xs : List α} {ys : List β}, Paired F xs ys → Paired F (xs ++ [x]) (ys ++ [y])
  | _, _, .nil => .cons h .nil
  | _, _, .cons a t => .cons a (paired_snoc h t)
def CwU {α : Type} (H : Hp) (l : List α) (f : α → Bool) (g : α → Key × V) (Dl : Addr) (i : Nat) (H' : Hp) : Prop :=
  H Dl = none ∧ Ex H H' ∧ ∃ ps : List Addr, H' Dl = some (.lst (ps.map V.ref)) ∧ Paired (fun p kv => H' p = some (.tup [kV kv.1, kv.2])) ps (((l.take i).filter f).map g)
theorem cwU_turn {α : Type} {l : List α} {f : α → Bool} {g : α → Key × V} {Dl : Addr} {i : Nat} {x : α} {σ2 : L2.St} (p : CwU H l f g Dl i H') (hi : l[i]? = some x) (hz : l.length < 50000) (ht : EvT t σ2 H (f x)) (he : f x = true → EvU te σ2 H [kV (g x).1, (g x).2]) :
    t σ2 H' fun b H3 => if b = true then te σ2 H3 fun y H4 => ∃ acc, H4 Dl = some (.lst acc) ∧ acc.length < sizeLine ∧ CwU H l f g Dl (i + 1) (upd H4 Dl (.lst (acc ++ [y]))) else CwU H l f g Dl (i + 1) H3 := by
  obtain ⟨p1, p2, ps, p3, p4⟩ := p
  have hlt : i < l.length := (List.getElem?_eq_some_iff.mp hi).1
  have hlen : (ps.map V.ref).length ≤ l.length := by
    rw [List.length_map, paired_len p4, List.length_map]
    refine Nat.le_trans (List.length_filter_le _ _) ?_
    rw [List.length_take]
    omega
  refine ht H' p2 _ fun H3 e3 => ?_
  cases hf : f x with
  | true =>
    show te σ2 H3 fun y H4 => ∃ acc, H4 Dl = some (.lst acc) ∧ acc.length < sizeLine ∧ CwU H l f g Dl (i + 1) (upd H4 Dl (.lst (acc ++ [y])))
    refine he hf H3 (p2.trans e3) _ fun q H4 hq e4 h4 => ⟨_, e4 Dl _ (e3 Dl _ p3), sz_lt (by omega), p1, Ex.mut ((p2.trans e3).trans e4) p1, ps ++ [q], ?_, ?_⟩
    · rw [upd_same, List.map_append]
      rfl
    · have keep : ∀ b o, b ≠ Dl → H' b = some o → upd H4 Dl (.lst (ps.map V.ref ++ [.ref q])) b = some o := fun b o hb z => by
        rw [upd_ne hb]
        exact e4 b o (e3 b o z)
      have nq : q ≠ Dl := fun z => by
        rw [z, e3 Dl _ p3] at hq
        cases hq
      rw [take_snoc hi, List.filter_append, List.map_append, List.filter_cons, if_pos hf]
      refine paired_snoc (by rw [upd_ne nq]; exact h4) (paired_imp (fun a kv z => keep a _ (fun w => ?_) z) p4)
      rw [w, p3] at z
      cases z
  | false =>
    show CwU H l f g Dl (i + 1) H3
    refine ⟨p1, p2.trans e3, ps, e3 Dl _ p3, ?_⟩
    rw [take_snoc hi, List.filter_append, List.map_append, List.filter_cons, if_neg (by rw [hf]; decide)]
    show Paired _ ps (_ ++ [])
    rw [List.append_nil]
    exact paired_imp (fun a kv z => e3 a _ z) p4
theorem ed_lcNA {α : Type} {j : Nat} {vs : List Nat} (l : List α) (enc : α → V) (f : α → Bool) (g : α → Key × V) (h : EvL tl σ H (l.map enc)) (hz : l.length < 50000) (hw : ∀ x, wipe ((wipe σ vs).set j (some x)) vs = wipe σ vs)
    (ht : ∀ x ∈ l, ∀ H1, Ex H H1 → EvT t ((wipe σ vs).set j (some (enc x))) H1 (f x)) (he : ∀ x ∈ l, f x = true → ∀ H1, Ex H H1 → EvU te ((wipe σ vs).set j (some (enc x))) H1 [kV (g x).1, (g x).2]) :
    EvD (tCB (rDictP K) (tCons (tLc (iList K tl) (gName j) t te vs) tNil)) σ H (mergeK [] ((l.filter f).map g)) := fun H0 e Q q => h H0 e _ fun a H1 ha e1 hx => ⟨a, rfl, ⟨_, sq_of hx⟩, fun Dl hD =>
  lc_list (xs := l.map enc) (CwU H1 l f g Dl) ⟨hD, Ex.new hD, [], upd_same, .nil⟩ (fun i H' _ p => sq_of (p.2.1 a _ hx)) (fun i x H' hi p => by
    rw [List.getElem?_map] at hi
    cases hq : l[i]? with
    | none =>
      rw [hq] at hi
      cases hi
    | some b =>
      rw [hq] at hi
      have ex : enc b = x := Option.some.inj hi
      subst ex
      have hm : b ∈ l := List.mem_of_getElem? hq
      exact ⟨hw _, cwU_turn p hq hz (ht b hm H1 (e.trans e1)) (fun hf => he b hm hf H1 (e.trans e1))⟩)
    (fun H' p => by
      obtain ⟨p1, p2, ps, p3, p4⟩ := p
      rw [List.length_map, List.take_length] at p4
      exact ⟨Dl, ps, _, rfl, sq_of p3, paired_imp (fun a kv z => st_of z) p4, fun d hd => q d _ (fresh_back (e1.trans p2) hd) ((e1.trans p2).trans (Ex.new hd)) upd_same⟩)⟩
/-- mergeK of pairs whose keys differ -/
theorem valV_none {kvs : List (Key × V)} {k : Key} (h : k ∉ kvs.map (·.1)) : valV kvs k = none := by
  cases e : valV kvs k with
  | none => rfl
  | some v => exact absurd (valV_in e) h
theorem mergeK_nodup : ∀ (kvs acc : List (Key × V)), ((acc ++ kvs).map (·.1)).Nodup → mergeK acc kvs = acc ++ kvs
  | [], acc, _ => (List.append_nil acc).symm
  | kv :: r, acc, h => by
    have e : putK acc kv.1 kv.2 = acc ++ [kv] := putK_new _ (valV_none fun m => by
      rw [List.map_append, List.nodup_append] at h
      exact h.2.2 _ m _ List.mem_cons_self rfl)
    show mergeK (putK acc kv.1 kv.2) r = _
    rw [e, mergeK_nodup r (acc ++ [kv]) (by rw [List.append_assoc]; exact h), List.append_assoc]
    rfl
end
end Ik

namespace Ik
open PySem PySem.Spec PyProof.Rows L2 Evl
/-! ### comprehensions over a dict's keys: the dict is locked meanwhile -/
section
variable {K : PySem.W.Frag} {σ : L2.St} {H H1 H' : Hp} {ta tb tc td te tl : TE} {t u : TT} {x y z v : V} {R : Rel} {d : Addr} {kvs : List (Key × V)} {od : Obj}
theorem ex_lock (e : Ex H H1) : Ex (upd H d (.frz od (.dK kvs))) (upd H1 d (.frz od (.dK kvs))) := fun a o h => by
  by_cases q : a = d
  · subst q
    rw [upd_same] at h ⊢
    exact h
  · rw [upd_ne q] at h ⊢
    exact e a o h
theorem ex_unlock (hd : H d = some (.dK kvs)) (e : Ex (upd H d (.frz od (.dK kvs))) H') : Ex H (upd H' d (.dK kvs)) := fun a o h => by
  by_cases q : a = d
  · subst q
    rw [hd] at h
    rw [upd_same]
    exact h
  · rw [upd_ne q]
    exact e a o (by rw [upd_ne q]; exact h)
theorem lock_rd : Rd (upd H d (.frz od (.dK kvs))) d (.dK kvs) := .inr ⟨od, upd_same⟩
theorem lock_at (hd : H d = some (.dK kvs)) {a : Addr} {o : HO} (h : H a = some o) (hn : ∀ k, o ≠ .dK k) : upd H d (.frz od (.dK kvs)) a = some o := by
  have q : a ≠ d := fun z => by
    rw [z, hd] at h
    exact hn _ (Option.some.inj h).symm
  rw [upd_ne q]
  exact h
theorem lock_dict {b : Addr} {ls : List (Key × V)} (h : H b = some (.dK ls)) : b = d ∧ Rd (upd H d (.frz od (.dK kvs))) b (.dK kvs) ∨ b ≠ d ∧ Rd (upd H d (.frz od (.dK kvs))) b (.dK ls) := by
  by_cases q : b = d
  · subst q
    exact .inl ⟨rfl, lock_rd⟩
  · exact .inr ⟨q, .inl (by rw [upd_ne q]; exact h)⟩
theorem lock_list (hd : H d = some (.dK kvs)) {a : Addr} {xs : List V} (h : SqL K H a xs) : SqL K (upd H d (.frz od (.dK kvs))) a xs := by
  rcases h with (h | ⟨o, h⟩) | h
  · exact .inl (.inl (lock_at hd h fun k z => by cases z))
  · exact .inl (.inr ⟨o, lock_at hd h fun k z => by cases z⟩)
  · exact .inr h
theorem ev_dgetR {n : Int} (h : Ev ta σ H (.ref d)) (hk : Ev tb σ H (.int n)) (hd : Rd H d (.dK kvs)) (hv : valV kvs (Sum.inl n) = some v) : Ev (tDGet ta tb) σ H v := fun H1 e Q q =>
  h H1 e _ fun H2 e2 => hk H2 (e.trans e2) _ fun H3 e3 => ⟨d, v, rfl, .inl ⟨kvs, Sum.inl n, ex_rd ((e.trans e2).trans e3) hd, rfl, hv.symm⟩, q H3 (e2.trans e3)⟩
theorem ev_dinR {n : Int} (hk : Ev tb σ H (.int n)) (h : Ev ta σ H (.ref d)) (hd : Rd H d (.dK kvs)) : Ev (tDIn tb ta) σ H (.bl (valV kvs (Sum.inl n)).isSome) := fun H1 e Q q =>
  hk H1 e _ fun H2 e2 => h H2 (e.trans e2) _ fun H3 e3 => ⟨d, _, rfl, .inl ⟨kvs, Sum.inl n, ex_rd ((e.trans e2).trans e3) hd, rfl, rfl⟩, q H3 (e2.trans e3)⟩
theorem ev_dnotinR {n : Int} (hk : Ev tb σ H (.int n)) (h : Ev ta σ H (.ref d)) (hd : Rd H d (.dK kvs)) : Ev (tDNotIn tb ta) σ H (.bl !(valV kvs (Sum.inl n)).isSome) := fun H1 e Q q =>
  hk H1 e _ fun H2 e2 => h H2 (e.trans e2) _ fun H3 e3 => ⟨d, _, rfl, .inl ⟨kvs, Sum.inl n, ex_rd ((e.trans e2).trans e3) hd, rfl, rfl⟩, q H3 (e2.trans e3)⟩
theorem ev_ixT {p : Addr} {xs : List V} {i : Int} (ha : Ev ta σ H (.ref p)) (hb : Ev tb σ H (.int i)) (h : SqT K H p xs) (hv : atI xs i = some v) : Ev (tOp (rIxT K) ta tb) σ H v := ev_op ha hb (rv_ixT h hv)
theorem key_at {ks : List Int} (hk : kvs.map (·.1) = ks.map Sum.inl) {i : Nat} {k : Key} {w : V} (h : kvs[i]? = some (k, w)) : ∃ n, ks[i]? = some n ∧ k = Sum.inl n := by
  have e : (kvs.map (·.1))[i]? = some k := by rw [List.getElem?_map, h]; rfl
  rw [hk, List.getElem?_map] at e
  cases q : ks[i]? with
  | none =>
    rw [q] at e
    cases e
  | some n =>
    rw [q] at e
    exact ⟨n, rfl, (Option.some.inj e).symm⟩
theorem keys_len {ks : List Int} (hk : kvs.map (·.1) = ks.map Sum.inl) : kvs.length = ks.length := by
  have e := congrArg List.length hk
  rw [List.length_map, List.length_map] at e
  exact e
theorem valV_mem : ∀ {ks : List (Key × V)} {x : Key × V}, (ks.map (·.1)).Nodup → x ∈ ks → valV ks x.1 = some x.2
  | y :: r, x, hn, hx => by
    obtain ⟨h1, h2⟩ := List.nodup_cons.mp (show (y.1 :: r.map (·.1)).Nodup from hn)
    unfold valV
    rw [List.find?_cons]
    rcases List.mem_cons.mp hx with rfl | hx
    · rw [decide_eq_true rfl]
      rfl
    · rw [decide_eq_false fun z => h1 (by rw [z]; exact List.mem_map.mpr ⟨x, hx, rfl⟩)]
      exact valV_mem h2 hx
theorem lcK_core {i j : Nat} {vs : List Nat} {ks : List Int} (f : Int → Bool) (g : Int → V) (hσ : Ev td σ (upd H d (.frz od (.dK kvs))) (.ref d)) (hk : kvs.map (·.1) = ks.map Sum.inl) (hz : ks.length < 50000) (hw : ∀ x, wipe ((wipe σ vs).set j (some x)) vs = wipe σ vs)
    (ht : ∀ k ∈ ks, EvT t ((wipe σ vs).set j (some (.int k))) (upd H d (.frz od (.dK kvs))) (f k)) (he : ∀ k ∈ ks, f k = true → Ev te ((wipe σ vs).set j (some (.int k))) (upd H d (.frz od (.dK kvs))) (g k))
    (hd : H d = some (.dK kvs)) (H1 : Hp) (e : Ex H H1) (Q : VK) (q : ∀ p H', H1 p = none → Ex H1 (upd H' d (.dK kvs)) → H' d = some (.frz od (.dK kvs)) → (upd H' d (.dK kvs)) p = some (.lst ((ks.filter f).map g)) → Q (.ref p) H') :
    tLc (iKeys td) (gName j) t te vs σ (upd H1 d (.frz od (.dK kvs))) Q :=
  hσ _ (ex_lock e) _ fun H2 e2 => ⟨d, od, rfl, .inl ⟨kvs, e2 _ _ upd_same, fun Dl hD =>
    lc_it (walk_keys (d := d) (o := od) (kvs := kvs)) (CwA H2 ks f g Dl) ⟨hD, Ex.new hD, upd_same⟩ (fun i H' _ p => p.2.1 _ _ (e2 _ _ upd_same)) (fun i x H3 H' hi p y => by
      obtain ⟨rfl, k, w, hq, rfl⟩ := y
      obtain ⟨n, hn, rfl⟩ := key_at hk hq
      have hm : n ∈ ks := List.mem_of_getElem? hn
      have eL := (ex_lock (d := d) (kvs := kvs) (od := od) e).trans e2
      exact ⟨hw _, cwA_turn p hn hz ((ht n hm).mono eL) (fun hf => (he n hm hf).mono eL)⟩)
    (fun H' p => by
      obtain ⟨p1, p2, p3⟩ := p
      rw [keys_len hk, List.take_length] at p3
      have p1' := fresh_back e2 p1
      have nd : Dl ≠ d := fun z => by
        rw [z, upd_same] at p1'
        cases p1'
      have eL := e2.trans p2
      refine q Dl H' (by rw [upd_ne nd] at p1'; exact p1') (ex_unlock (e _ _ hd) eL) (eL _ _ upd_same) ?_
      rw [upd_ne nd]
      exact p3)⟩⟩
/-- as a value -/
theorem el_lcK {j : Nat} {vs : List Nat} {ks : List Int} (f : Int → Bool) (g : Int → V) (hd : H d = some (.dK kvs)) (hk : kvs.map (·.1) = ks.map Sum.inl) (hz : ks.length < 50000) (hw : ∀ x, wipe ((wipe σ vs).set j (some x)) vs = wipe σ vs) (hσ : ∀ od, Ev td σ (upd H d (.frz od (.dK kvs))) (.ref d))
    (ht : ∀ od, ∀ k ∈ ks, EvT t ((wipe σ vs).set j (some (.int k))) (upd H d (.frz od (.dK kvs))) (f k)) (he : ∀ od, ∀ k ∈ ks, f k = true → Ev te ((wipe σ vs).set j (some (.int k))) (upd H d (.frz od (.dK kvs))) (g k)) :
    EvL (tLockE (tLc (iKeys td) (gName j) t te vs)) σ H ((ks.filter f).map g) := fun H1 e Q q =>
  ⟨d, .dK kvs, e _ _ hd, trivial, fun od => lcK_core (i := 0) f g (hσ od) hk hz hw (ht od) (he od) hd H1 e _ fun p H' hp e1 h1 h2 => ⟨h1, q p _ hp e1 h2⟩⟩
/-- name = [.. for k in d if ..] -/
theorem s_asgLK {D : Ends} {n j : Nat} {vs : List Nat} {ks : List Int} (f : Int → Bool) (g : Int → V) (hd : H d = some (.dK kvs)) (hk : kvs.map (·.1) = ks.map Sum.inl) (hz : ks.length < 50000) (hw : ∀ x, wipe ((wipe σ vs).set j (some x)) vs = wipe σ vs) (hσ : ∀ od, Ev td σ (upd H d (.frz od (.dK kvs))) (.ref d))
    (ht : ∀ od, ∀ k ∈ ks, EvT t ((wipe σ vs).set j (some (.int k))) (upd H d (.frz od (.dK kvs))) (f k)) (he : ∀ od, ∀ k ∈ ks, f k = true → Ev te ((wipe σ vs).set j (some (.int k))) (upd H d (.frz od (.dK kvs))) (g k))
    (k : ∀ p H1, H p = none → Ex H H1 → H1 p = some (.lst ((ks.filter f).map g)) → D.nx (σ.set n (some (.ref p))) H1) : tLock (tAsg (tLc (iKeys td) (gName j) t te vs) (gName n)) D σ H :=
  ⟨d, .dK kvs, hd, trivial, fun od => lcK_core (i := 0) f g (hσ od) hk hz hw (ht od) (he od) hd H (Ex.refl H) _ fun p H' hp e1 h1 h2 => ⟨h1, k p _ hp e1 h2⟩⟩
theorem q_asgLK {D : Ends} {tz : TS} {n j : Nat} {vs : List Nat} {ks : List Int} (f : Int → Bool) (g : Int → V) (hd : H d = some (.dK kvs)) (hk : kvs.map (·.1) = ks.map Sum.inl) (hz : ks.length < 50000) (hw : ∀ x, wipe ((wipe σ vs).set j (some x)) vs = wipe σ vs) (hσ : ∀ od, Ev td σ (upd H d (.frz od (.dK kvs))) (.ref d))
    (ht : ∀ od, ∀ k ∈ ks, EvT t ((wipe σ vs).set j (some (.int k))) (upd H d (.frz od (.dK kvs))) (f k)) (he : ∀ od, ∀ k ∈ ks, f k = true → Ev te ((wipe σ vs).set j (some (.int k))) (upd H d (.frz od (.dK kvs))) (g k))
    (k : ∀ p H1, H p = none → Ex H H1 → H1 p = some (.lst ((ks.filter f).map g)) → tz D (σ.set n (some (.ref p))) H1) : tSeq (tLock (tAsg (tLc (iKeys td) (gName j) t te vs) (gName n))) tz D σ H :=
  s_asgLK (D := { D with nx := tz D }) f g hd hk hz hw hσ ht he k
theorem lcV_core {α : Type} {j : Nat} {vs : List Nat} (l : List α) (enc : α → V) (f : α → Bool) (g : α → V) (hσ : Ev td σ (upd H d (.frz od (.dK kvs))) (.ref d)) (hk : kvs.map (·.2) = l.map enc) (hz : l.length < 50000) (hw : ∀ x, wipe ((wipe σ vs).set j (some x)) vs = wipe σ vs)
    (ht : ∀ x ∈ l, EvT t ((wipe σ vs).set j (some (enc x))) (upd H d (.frz od (.dK kvs))) (f x)) (he : ∀ x ∈ l, f x = true → Ev te ((wipe σ vs).set j (some (enc x))) (upd H d (.frz od (.dK kvs))) (g x))
    (hd : H d = some (.dK kvs)) (H1 : Hp) (e : Ex H H1) (Q : VK) (q : ∀ p H', H1 p = none → Ex H1 (upd H' d (.dK kvs)) → H' d = some (.frz od (.dK kvs)) → (upd H' d (.dK kvs)) p = some (.lst ((l.filter f).map g)) → Q (.ref p) H') :
    tLc (iVals td) (gName j) t te vs σ (upd H1 d (.frz od (.dK kvs))) Q :=
  hσ _ (ex_lock e) _ fun H2 e2 => ⟨d, od, kvs, rfl, e2 _ _ upd_same, fun Dl hD =>
    lc_it (walk_values (d := d) (o := od) (kvs := kvs)) (CwA H2 l f g Dl) ⟨hD, Ex.new hD, upd_same⟩ (fun i H' _ p => p.2.1 _ _ (e2 _ _ upd_same)) (fun i x H3 H' hi p y => by
      obtain ⟨rfl, k, hq⟩ := y
      have e3 : (kvs.map (·.2))[i]? = some x := by rw [List.getElem?_map, hq]; rfl
      rw [hk, List.getElem?_map] at e3
      cases hn : l[i]? with
      | none =>
        rw [hn] at e3
        cases e3
      | some b =>
        rw [hn] at e3
        have ex : enc b = x := Option.some.inj e3
        subst ex
        have hm : b ∈ l := List.mem_of_getElem? hn
        have eL := (ex_lock (d := d) (kvs := kvs) (od := od) e).trans e2
        exact ⟨hw _, cwA_turn p hn hz ((ht b hm).mono eL) (fun hf => (he b hm hf).mono eL)⟩)
    (fun H' p => by
      obtain ⟨p1, p2, p3⟩ := p
      have hl : kvs.length = l.length := by
        have e := congrArg List.length hk
        rw [List.length_map, List.length_map] at e
        exact e
      rw [hl, List.take_length] at p3
      have p1' := fresh_back e2 p1
      have nd : Dl ≠ d := fun z => by
        rw [z, upd_same] at p1'
        cases p1'
      have eL := e2.trans p2
      refine q Dl H' (by rw [upd_ne nd] at p1'; exact p1') (ex_unlock (e _ _ hd) eL) (eL _ _ upd_same) ?_
      rw [upd_ne nd]
      exact p3)⟩
/-- name = [.. for v in d.values() if ..] -/
theorem s_asgLV {α : Type} {D : Ends} {n j : Nat} {vs : List Nat} (l : List α) (enc : α → V) (f : α → Bool) (g : α → V) (hd : H d = some (.dK kvs)) (hk : kvs.map (·.2) = l.map enc) (hz : l.length < 50000) (hw : ∀ x, wipe ((wipe σ vs).set j (some x)) vs = wipe σ vs) (hσ : ∀ od, Ev td σ (upd H d (.frz od (.dK kvs))) (.ref d))
    (ht : ∀ od, ∀ x ∈ l, EvT t ((wipe σ vs).set j (some (enc x))) (upd H d (.frz od (.dK kvs))) (f x)) (he : ∀ od, ∀ x ∈ l, f x = true → Ev te ((wipe σ vs).set j (some (enc x))) (upd H d (.frz od (.dK kvs))) (g x))
    (k : ∀ p H1, H p = none → Ex H H1 → H1 p = some (.lst ((l.filter f).map g)) → D.nx (σ.set n (some (.ref p))) H1) : tLock (tAsg (tLc (iVals td) (gName j) t te vs) (gName n)) D σ H :=
  ⟨d, .dK kvs, hd, trivial, fun od => lcV_core l enc f g (hσ od) hk hz hw (ht od) (he od) hd H (Ex.refl H) _ fun p H' hp e1 h1 h2 => ⟨h1, k p _ hp e1 h2⟩⟩
theorem q_asgLV {α : Type} {D : Ends} {tz : TS} {n j : Nat} {vs : List Nat} (l : List α) (enc : α → V) (f : α → Bool) (g : α → V) (hd : H d = some (.dK kvs)) (hk : kvs.map (·.2) = l.map enc) (hz : l.length < 50000) (hw : ∀ x, wipe ((wipe σ vs).set j (some x)) vs = wipe σ vs) (hσ : ∀ od, Ev td σ (upd H d (.frz od (.dK kvs))) (.ref d))
    (ht : ∀ od, ∀ x ∈ l, EvT t ((wipe σ vs).set j (some (enc x))) (upd H d (.frz od (.dK kvs))) (f x)) (he : ∀ od, ∀ x ∈ l, f x = true → Ev te ((wipe σ vs).set j (some (enc x))) (upd H d (.frz od (.dK kvs))) (g x))
    (k : ∀ p H1, H p = none → Ex H H1 → H1 p = some (.lst ((l.filter f).map g)) → tz D (σ.set n (some (.ref p))) H1) : tSeq (tLock (tAsg (tLc (iVals td) (gName j) t te vs) (gName n))) tz D σ H :=
  s_asgLV (D := { D with nx := tz D }) l enc f g hd hk hz hw hσ ht he k
/-- a call whose first argument is a new list -/
theorem ev_callLV {sp : Sp} {xs : List V} {E : XK} (ha : EvL ta σ H xs) (hb : Ev tb σ H y) (hs : ∀ p H1, Ex H H1 → H1 p = some (.lst xs) → SpV sp [.ref p, y] H1 z) : Ev (tCall sp [] E (tCons ta (tCons tb tNil))) σ H z := fun H1 e Q q =>
  ha H1 e _ fun p H2 _ e2 hp => hb H2 (e.trans e2) _ fun H3 e3 =>
    show sp [.ref p, y] H3 Q E from hs p H3 ((e.trans e2).trans e3) (e3 _ _ hp) H3 (Ex.refl _) Q (fun H4 e4 => q H4 ((e2.trans e3).trans e4)) E
theorem ev_callL {sp : Sp} {xs : List V} {E : XK} (ha : EvL ta σ H xs) (hs : ∀ p H1, Ex H H1 → H1 p = some (.lst xs) → SpV sp [.ref p] H1 z) : Ev (tCall sp [] E (tCons ta tNil)) σ H z := fun H1 e Q q =>
  ha H1 e _ fun p H2 _ e2 hp =>
    show sp [.ref p] H2 Q E from hs p H2 (e.trans e2) hp H2 (Ex.refl _) Q (fun H4 e4 => q H4 (e2.trans e4)) E
/-- sorted(new list, reverse=True) -/
def sortDn (ns : List Int) : List Int := (sortI ns).reverse
theorem sortDn_perm (ns : List Int) : (sortDn ns).Perm ns := (List.reverse_perm _).trans (sortI_perm ns)
theorem sortDn_ge (ns : List Int) : (sortDn ns).Pairwise (· ≥ ·) := by
  unfold sortDn
  rw [List.pairwise_reverse]
  exact sortI_le ns
theorem sortDn_of {ns ys : List Int} (p : ys.Perm ns) (h : ys.Pairwise (· ≥ ·)) : ys = sortDn ns := by
  have e : ys.reverse = sortI ns := sortI_of ((List.reverse_perm ys).trans p) (by rw [List.pairwise_reverse]; exact h)
  unfold sortDn
  rw [← e, List.reverse_reverse]
theorem el_sortNR {ns : List Int} (h : EvL ta σ H (ns.map V.int)) : EvL (tCKw (rSortedKw K true [.bl true]) (tCons ta tNil) (tCons (tC (.bl true)) tNil)) σ H ((sortDn ns).map V.int) := fun H1 e Q q =>
  h H1 e _ fun a H2 _ e2 h2 => ⟨a, ns, rfl, rfl, sq_of h2, fun ys p hp hs hn => by
    have hs : ys.Pairwise (· ≥ ·) := hs
    rw [sortDn_of hp hs]
    exact q p _ (fresh_back e2 hn) (e2.trans (Ex.new hn)) upd_same⟩
/-- dict([(k, v) for k in d if ..]), d locked meanwhile -/
theorem ed_lcK {j : Nat} {vs : List Nat} {ks : List Int} (f : Int → Bool) (g : Int → Key × V) (hd : H d = some (.dK kvs)) (hk : kvs.map (·.1) = ks.map Sum.inl) (hz : ks.length < 50000) (hw : ∀ x, wipe ((wipe σ vs).set j (some x)) vs = wipe σ vs) (hσ : ∀ od, Ev td σ (upd H d (.frz od (.dK kvs))) (.ref d))
    (ht : ∀ od, ∀ k ∈ ks, EvT t ((wipe σ vs).set j (some (.int k))) (upd H d (.frz od (.dK kvs))) (f k)) (he : ∀ od, ∀ k ∈ ks, f k = true → EvU te ((wipe σ vs).set j (some (.int k))) (upd H d (.frz od (.dK kvs))) [kV (g k).1, (g k).2]) :
    EvD (tCB (rDictP K) (tCons (tLockE (tLc (iKeys td) (gName j) t te vs)) tNil)) σ H (mergeK [] ((ks.filter f).map g)) := fun H1 e Q q =>
  ⟨d, .dK kvs, e _ _ hd, trivial, fun od => hσ od _ (ex_lock e) _ fun H2 e2 => ⟨d, od, rfl, .inl ⟨kvs, e2 _ _ upd_same, fun Dl hD =>
    lc_it (walk_keys (d := d) (o := od) (kvs := kvs)) (CwU H2 ks f g Dl) ⟨hD, Ex.new hD, [], upd_same, .nil⟩ (fun i H' _ p => p.2.1 _ _ (e2 _ _ upd_same)) (fun i x H3 H' hi p y => by
      obtain ⟨rfl, k, w, hq, rfl⟩ := y
      obtain ⟨n, hn, rfl⟩ := key_at hk hq
      have hm : n ∈ ks := List.mem_of_getElem? hn
      have eL := (ex_lock (d := d) (kvs := kvs) (od := od) e).trans e2
      exact ⟨hw _, cwU_turn p hn hz ((ht od n hm).mono eL) (fun hf H4 e4 Q4 q4 => he od n hm hf H4 (eL.trans e4) Q4 q4)⟩)
    (fun H' p => by
      obtain ⟨p1, p2, ps, p3, p4⟩ := p
      rw [keys_len hk, List.take_length] at p4
      have eL := e2.trans p2
      have hfz := eL _ _ upd_same
      have p1' := fresh_back e2 p1
      have nd : Dl ≠ d := fun z => by
        rw [z, upd_same] at p1'
        cases p1'
      refine ⟨hfz, ?_⟩
      refine ⟨Dl, ps, _, rfl, sq_of ?_, paired_imp (fun a kv z => st_of ?_) p4, fun c hc => ?_⟩
      · rw [upd_ne nd]
        exact p3
      · rw [upd_ne (fun w => by rw [w, hfz] at z; cases z)]
        exact z
      · have eU := ex_unlock (e _ _ hd) eL
        exact q c _ (fresh_back eU hc) (eU.trans (Ex.new hc)) upd_same)⟩⟩⟩
theorem ev_callVVD {sp : Sp} {ks : List (Key × V)} {E : XK} (ha : Ev ta σ H x) (hb : Ev tb σ H y) (hc : EvD tc σ H ks) (hs : ∀ p H1, Ex H H1 → H1 p = some (.dK ks) → SpV sp [x, y, .ref p] H1 z) : Ev (tCall sp [] E (tCons ta (tCons tb (tCons tc tNil)))) σ H z := fun H1 e Q q =>
  ha H1 e _ fun H2 e2 => hb H2 (e.trans e2) _ fun H3 e3 => hc H3 ((e.trans e2).trans e3) _ fun p H4 _ e4 hp =>
    show sp [x, y, .ref p] H4 Q E from hs p H4 (((e.trans e2).trans e3).trans e4) hp H4 (Ex.refl _) Q (fun H5 e5 => q H5 (((e2.trans e3).trans e4).trans e5)) E
theorem ev_callVLD {sp : Sp} {xs : List V} {ks : List (Key × V)} {E : XK} (ha : Ev ta σ H x) (hb : EvL tb σ H xs) (hc : EvD tc σ H ks) (hs : ∀ q p H1, Ex H H1 → H1 q = some (.lst xs) → H1 p = some (.dK ks) → SpV sp [x, .ref q, .ref p] H1 z) : Ev (tCall sp [] E (tCons ta (tCons tb (tCons tc tNil)))) σ H z := fun H1 e Q q =>
  ha H1 e _ fun H2 e2 => hb H2 (e.trans e2) _ fun p1 H3 _ e3 h3 => hc H3 ((e.trans e2).trans e3) _ fun p H4 _ e4 hp =>
    show sp [x, .ref p1, .ref p] H4 Q E from hs p1 p H4 (((e.trans e2).trans e3).trans e4) (e4 _ _ h3) hp H4 (Ex.refl _) Q (fun H5 e5 => q H5 (((e2.trans e3).trans e4).trans e5)) E
/-- l.remove(an int that is there) -/
theorem s_rem {D : Ends} {l : Addr} {ns : List Int} {r : Int} {j : Nat} (hl : H l = some (.lst (ns.map V.int))) (ha : Ev ta σ H (.ref l)) (h : Ev te σ H (.int r)) (hj : ns[j]? = some r) (hno : ∀ m : Nat, m < j → ns[m]? ≠ some r) (k : ∀ H1, Ex H H1 → D.nx σ (upd H1 l (.lst ((ns.eraseIdx j).map V.int)))) :
    tDrop (tBM K "list" rRemI ta (tCons te tNil)) D σ H := ha H (Ex.refl H) _ fun H1 e1 =>
  ⟨Or.inl ⟨rfl, _, sq_of (e1 l _ hl)⟩, h H1 e1 _ fun H2 e2 => ⟨l, ns, r, j, rfl, rfl, e2 l _ (e1 l _ hl), hj, hno, k H2 (e1.trans e2)⟩⟩
theorem q_rem {D : Ends} {tz : TS} {l : Addr} {ns : List Int} {r : Int} {j : Nat} (hl : H l = some (.lst (ns.map V.int))) (ha : Ev ta σ H (.ref l)) (h : Ev te σ H (.int r)) (hj : ns[j]? = some r) (hno : ∀ m : Nat, m < j → ns[m]? ≠ some r) (k : ∀ H1, Ex H H1 → tz D σ (upd H1 l (.lst ((ns.eraseIdx j).map V.int)))) :
    tSeq (tDrop (tBM K "list" rRemI ta (tCons te tNil))) tz D σ H := s_rem (D := { D with nx := tz D }) hl ha h hj hno k
/-- d[k] = f(..), f an own def of which R tells what it gives -/
theorem s_dputC {D : Ends} {R : Rel} {sp : Sp} {vs : List V} {E : XK} {ta : TA} {n : Int} (ha : EvA ta σ H vs) (hs : SpR sp vs H R) (h : Ev td σ H (.ref d)) (hk : Ev te σ H (.int n)) (hd : H d = some (.dK kvs)) (hz : kvs.length < 100000)
    (k : ∀ v H1 H2, Ex H H1 → Ex H1 H2 → R v H1 H2 → ∀ H3, Ex H2 H3 → D.nx σ (upd H3 d (.dK (putK kvs (Sum.inl n) v)))) : sDPut td te (tCall sp [] E ta) D σ H :=
  ha H (Ex.refl H) _ fun H1 e1 => by
    rw [List.append_nil]
    exact hs H1 e1 _ (fun v H2 e2 r => h H2 (e1.trans e2) _ fun H3 e3 => hk H3 ((e1.trans e2).trans e3) _ fun H4 e4 => ⟨d, _, rfl, DPut.k (k := Sum.inl n) ((((e1.trans e2).trans e3).trans e4) _ _ hd) (sz_lt hz), k v H1 H2 e1 e2 r H4 (e3.trans e4)⟩) E
/-- name = f(..), f an own def of which R tells what it gives -/
theorem q_asgC {D : Ends} {tz : TS} {i : Nat} {R : Rel} {sp : Sp} {vs : List V} {E : XK} {ta : TA} (ha : EvA ta σ H vs) (hs : SpR sp vs H R) (k : ∀ v H1 H2, Ex H H1 → Ex H1 H2 → R v H1 H2 → tz D (σ.set i (some v)) H2) : tSeq (tAsg (tCall sp [] E ta) (gName i)) tz D σ H :=
  ha H (Ex.refl H) _ fun H1 e1 => by
    rw [List.append_nil]
    exact hs H1 e1 _ (fun v H2 e2 r => k v H1 H2 e1 e2 r) E
/-- name = [a, b, ..], of the items P tells -/
theorem q_asgLst {D : Ends} {tz : TS} {i : Nat} {ta : TA} {P : List V → Hp → Prop} (h : ∀ Q : List V → Hp → Prop, (∀ vs H1, Ex H H1 → P vs H1 → Q vs H1) → ta σ H Q) (hl : ∀ vs H1, P vs H1 → vs.length ≤ 1000)
    (k : ∀ vs p H1, Ex H H1 → P vs H1 → H1 p = none → tz D (σ.set i (some (.ref p))) (upd H1 p (.lst vs))) : tSeq (tAsg (tLst ta) (gName i)) tz D σ H :=
  h _ fun vs H1 e1 hp => ⟨sz_of (Nat.le_trans (hl vs H1 hp) (by decide)), fun p hq => k vs p H1 e1 hp hq⟩
theorem q_asgTp {D : Ends} {tz : TS} {i : Nat} {ta : TA} {P : List V → Hp → Prop} (h : ∀ Q : List V → Hp → Prop, (∀ vs H1, Ex H H1 → P vs H1 → Q vs H1) → ta σ H Q) (hl : ∀ vs H1, P vs H1 → vs.length ≤ 1000)
    (k : ∀ vs p H1, Ex H H1 → P vs H1 → H1 p = none → tz D (σ.set i (some (.ref p))) (upd H1 p (.tup vs))) : tSeq (tAsg (tTup ta) (gName i)) tz D σ H :=
  h _ fun vs H1 e1 hp => ⟨sz_of (Nat.le_trans (hl vs H1 hp) (by decide)), fun p hq => k vs p H1 e1 hp hq⟩
theorem s_retTp {D : Ends} {ta : TA} {P : List V → Hp → Prop} (h : ∀ Q : List V → Hp → Prop, (∀ vs H1, Ex H H1 → P vs H1 → Q vs H1) → ta σ H Q) (hl : ∀ vs H1, P vs H1 → vs.length ≤ 1000)
    (k : ∀ vs p H1, Ex H H1 → P vs H1 → H1 p = none → D.rt (.ref p) (upd H1 p (.tup vs))) : tRet (tTup ta) D σ H :=
  h _ fun vs H1 e1 hp => ⟨sz_of (Nat.le_trans (hl vs H1 hp) (by decide)), fun p hq => k vs p H1 e1 hp hq⟩
/-- for name in range(n - 1, -1, -1) -/
theorem q_forDn {D : Ends} {tu tz : TS} {ta : TA} {j n : Nat} (h : EvA ta σ H [.int ((n : Int) - 1), .int (-1), .int (-1)]) (hn : n ≤ 100000) (Pv : Nat → L2.St → Hp → Prop) (h0 : ∀ H1, Ex H H1 → Pv 0 σ H1)
    (hs : ∀ (i : Nat) σ' H', i < n → Pv i σ' H' → tu { D with nx := Pv (i + 1), ct := Pv (i + 1), bk := tz D } (σ'.set j (some (.int (((n - 1 - i : Nat) : Int))))) H') (hd : ∀ σ' H', Pv n σ' H' → tz D σ' H') : tSeq (tFor (iRng3 ta) (gName j) tu) tz D σ H :=
  h H (Ex.refl H) _ fun H1 e => ⟨(n : Int) - 1, -1, -1, n, rfl, by
    have r := RgC.neg (i := (n : Int) - 1) (j := -1) (by omega) (by omega) (by omega) (by omega)
    rw [show (((n : Int) - 1) - -1).toNat = n by omega] at r
    exact r, for_rangeC (D := { D with nx := tz D }) (lo := (n : Int) - 1) (c := -1) (n := n) Pv (h0 H1 e) (fun i σ' H' hi p => by
      have e0 : ((n : Int) - 1) + (i : Nat) * (-1) = ((n - 1 - i : Nat) : Int) := by omega
      show tu { D with nx := Pv (i + 1), ct := Pv (i + 1), bk := tz D } (σ'.set j (some (.int (((n : Int) - 1) + (i : Nat) * (-1))))) H'
      rw [e0]
      exact hs i σ' H' hi p) hd⟩
/-- for name in [a, b, ..], of the items P tells -/
theorem q_forLst {D : Ends} {tu tz : TS} {j : Nat} {ta : TA} {P : List V → Hp → Prop} (h : ∀ Q : List V → Hp → Prop, (∀ vs H1, Ex H H1 → P vs H1 → Q vs H1) → ta σ H Q) (hl : ∀ vs H1, P vs H1 → vs.length ≤ 1000) (Pv : List V → Addr → Nat → L2.St → Hp → Prop)
    (h0 : ∀ vs p H1, Ex H H1 → P vs H1 → H1 p = none → Pv vs p 0 σ (upd H1 p (.lst vs))) (hst : ∀ vs p i σ' H', i ≤ vs.length → Pv vs p i σ' H' → SqL K H' p vs)
    (hs : ∀ vs p i x σ' H', vs[i]? = some x → Pv vs p i σ' H' → tu { D with nx := Pv vs p (i + 1), ct := Pv vs p (i + 1), bk := tz D } (σ'.set j (some x)) H') (hd : ∀ vs p σ' H', Pv vs p vs.length σ' H' → tz D σ' H') : tSeq (tFor (iList K (tLst ta)) (gName j) tu) tz D σ H :=
  h _ fun vs H1 e1 hp => ⟨sz_of (Nat.le_trans (hl vs H1 hp) (by decide)), fun p hq => ⟨p, rfl, ⟨vs, sq_of upd_same⟩, for_list (D := { D with nx := tz D }) (Pv vs p) (h0 vs p H1 e1 hp hq) (fun i σ' H' hi q => hst vs p i σ' H' hi q) (fun i x σ' H' hx q => hs vs p i x σ' H' hx q) (fun σ' H' q => hd vs p σ' H' q)⟩⟩
theorem lock_dict2 {b : Addr} {ls : List (Key × V)} (hd : H d = some (.dK kvs)) (h : H b = some (.dK ls)) : Rd (upd H d (.frz od (.dK kvs))) b (.dK ls) := by
  by_cases q : b = d
  · subst q
    rw [hd] at h
    have e : kvs = ls := by
      injection h with h
      injection h
    rw [← e]
    exact lock_rd
  · exact .inl (by rw [upd_ne q]; exact h)
theorem ev_neDA {p q : Addr} {ks : List (Key × V)} (ha : Ev ta σ H (.ref p)) (hb : Ev tb σ H (.ref q)) (h1 : H p = some (.dK ks)) (h2 : H q = some (.dK ks)) (hn : (ks.map (·.1)).Nodup) (hf : ∀ x ∈ ks, flatB x.2 = true) : Ev (tOp rNeDA ta tb) σ H (.bl false) :=
  ev_op ha hb fun H1 e _ k => ⟨p, q, ks, ks, rfl, rfl, e _ _ h1, e _ _ h2, rfl, fun x hx => ⟨valV_mem hn hx, hf x hx⟩, k H1 (Ex.refl H1)⟩
theorem ev_eqDA {p q : Addr} {ks : List (Key × V)} (ha : Ev ta σ H (.ref p)) (hb : Ev tb σ H (.ref q)) (h1 : H p = some (.dK ks)) (h2 : H q = some (.dK ks)) (hn : (ks.map (·.1)).Nodup) (hf : ∀ x ∈ ks, flatB x.2 = true) : Ev (tOp rEqDA ta tb) σ H (.bl true) :=
  ev_op ha hb fun H1 e _ k => ⟨p, q, ks, ks, rfl, rfl, e _ _ h1, e _ _ h2, rfl, fun x hx => ⟨valV_mem hn hx, hf x hx⟩, k H1 (Ex.refl H1)⟩
end
end Ik

namespace PySem.SeqAt
open AutoSeq1 (wpAny_loadPart')
open MeetsSeq MeetsSeq2 MeetsSeq3 SeqRoads2
/-! != of two lists, two tuples, whose items are the same one by one: False -/
section
variable {prog : Program} {w : World}
def TwoOf (T : String) (l b : Addr) (xs ys : Array Value) (n m : Nat) (dx dy : Option Addr) (sx sy : Array (Option Value)) (s : Shared) : Prop :=
  s.heap.get? l = some { cls := .type T, dict := dx, data := .seq xs n, slots := sx } ∧ s.heap.get? b = some { cls := .type T, dict := dy, data := .seq ys m, slots := sy }
def AllSame (prog : Program) (w : World) (A : Around) (s : Shared) (xs ys : Array Value) : Prop := ∀ j (h1 : j < xs.size) (h2 : j < ys.size), EqP prog w A.in1 s xs[j] ys[j] true
theorem ik_ne_loop (l b : Addr) (xs ys : Array Value) (n m : Nat) (dx dy : Option Addr) (sx sy : Array (Option Value)) (hsz : xs.size = ys.size) (k : Nat) :
    ∀ i : Nat, xs.size - i = k → MeetsIn prog w (Builtin.«list.__eq__.loop» ⟨[.ref l, .ref b, rawInt i, rawInt 3], []⟩)
      (fun A R s => TwoOf "list" l b xs ys n m dx dy sx sy s ∧ AllSame prog w A s xs ys ∧ R (.ok (.ret (.bool false))) s) := by
  induction k with
  | zero =>
    intro i hk A R s ⟨⟨hl, hb⟩, he, h⟩
    obtain ⟨hp, g, d, tk, os⟩ := s
    wp_walk using wpAny_loadPart' hl, wpAny_loadPart' hb
    rw [show xs[((i : Nat) : Int).toNat]? = none by simp; omega, show ys[((i : Nat) : Int).toNat]? = none by simp; omega]
    wp_walk using wpAny_loadPart' hl, wpAny_loadPart' hb
    show R (.ok (.ret (.bool (xs.size != ys.size)))) _
    rw [hsz]
    simpa using h
  | succ k ih =>
    intro i hk A R s ⟨⟨hl, hb⟩, he, h⟩
    obtain ⟨hp, g, d, tk, os⟩ := s
    wp_walk using wpAny_loadPart' hl, wpAny_loadPart' hb
    have l1 : i < xs.size := by omega
    have l2 : i < ys.size := by omega
    rw [show xs[((i : Nat) : Int).toNat]? = some xs[i] by simp [l1], show ys[((i : Nat) : Int).toNat]? = some ys[i] by simp [l2]]
    refine wpAny_bind (he i l1 l2 _ _ ?_)
    wp_walk
    rw [show ((i : Int) + 1) = ((i + 1 : Nat) : Int) by push_cast; rfl]
    exact ⟨plainId_quiet plain_eq_loop _, codeAny_builtin entry_eq_loop (by
      rw [Around.under_plainId plain_eq_loop _]
      exact ih (i + 1) (by omega) A R _ ⟨⟨hl, hb⟩, he, h⟩)⟩
theorem ik_list_ne (l b : Addr) (xs ys : Array Value) (n m : Nat) (dx dy : Option Addr) (sx sy : Array (Option Value)) (hsz : xs.size = ys.size) :
    MeetsIn prog w (Builtin.«list.__ne__» ⟨[.ref l, .ref b], []⟩) (fun A R s => TwoOf "list" l b xs ys n m dx dy sx sy s ∧ AllSame prog w A s xs ys ∧ R (.ok (.ret (.bool false))) s) := by
  intro A R s ⟨⟨hl, hb⟩, he, h⟩
  obtain ⟨hp, g, d, tk, os⟩ := s
  have f3 := AutoSeq1.sub_list_list
  have hne : ¬ (xs.size != ys.size) = true := by simp [hsz]
  wp_walk using wpAny_loadPart' hl, wpAny_loadPart' hb
  exact ⟨plainId_quiet plain_eq_loop _, codeAny_builtin entry_eq_loop (by
    rw [Around.under_plainId plain_eq_loop _]
    exact ik_ne_loop l b xs ys n m dx dy sx sy hsz _ 0 rfl A R _ ⟨⟨hl, hb⟩, he, h⟩)⟩
theorem ik_tuple_ne (l b : Addr) (xs ys : Array Value) (n m : Nat) (dx dy : Option Addr) (sx sy : Array (Option Value)) (hsz : xs.size = ys.size) :
    MeetsIn prog w (Builtin.«tuple.__ne__» ⟨[.ref l, .ref b], []⟩) (fun A R s => TwoOf "tuple" l b xs ys n m dx dy sx sy s ∧ AllSame prog w A s xs ys ∧ R (.ok (.ret (.bool false))) s) :=
  .of_wp fun A R s h => by
    obtain ⟨hp, g, d, tk, os⟩ := s
    obtain ⟨⟨hl, hb⟩, he, h⟩ := h
    have hl : hp.get? l = some { cls := .type "tuple", dict := dx, data := .seq xs n, slots := sx } := hl
    have hb : hp.get? b = some { cls := .type "tuple", dict := dy, data := .seq ys m, slots := sy } := hb
    have f2 := AutoSeq1.sub_tuple_tuple
    have hZ : (xs.toList.zip ys.toList).length = xs.size := by simp [hsz]
    wp_walk using wpAny_loadPart' hl, wpAny_loadPart' hb, wpAny_forIn_list _ (fun rest b s' => b.1 = none ∧ s' = ⟨hp, g, d, tk, os⟩ ∧ ∃ i, rest = (xs.toList.zip ys.toList).drop i) _
    case turn =>
      rintro ⟨y, x⟩ rest b s' ⟨hb', rfl, i, hz⟩
      have hlt : i < (xs.toList.zip ys.toList).length := by
        rcases Nat.lt_or_ge i (xs.toList.zip ys.toList).length with h' | h'
        · exact h'
        · rw [List.drop_of_length_le h'] at hz
          cases hz
      have l1 : i < xs.size := by omega
      have l2 : i < ys.size := by omega
      rw [List.drop_eq_getElem_cons hlt] at hz
      injection hz with hyx hrest
      have hy : y = xs[i] := by
        have := congrArg Prod.fst hyx
        simpa using this
      have hx : x = ys[i] := by
        have := congrArg Prod.snd hyx
        simpa using this
      subst hy hx
      refine wpAny_bind (he i l1 l2 _ _ ?_)
      wp_walk
      exact ⟨rfl, rfl, i + 1, hrest⟩
    case fin =>
      rintro ⟨b1, b2⟩ s' ⟨hb', rfl, i, hz⟩
      simp only at hb'
      subst hb'
      wp_walk
      exact ⟨_, rfl, by simpa [Builtin.Tuple.tupleCompareSizes, bne, hsz] using h⟩
    case h =>
      exact ⟨rfl, rfl, 0, rfl⟩
theorem ik_rcNe_tuples {A : Around} {s : Shared} {l b : Addr} {xs ys : Array Value} (hl : s.heap.IsTuple l xs) (hb : s.heap.IsTuple b ys) (hsz : xs.size = ys.size) (hu : A.units < cLine)
    (he : AllSame prog w A s xs ys) (E Q : Value → Shared → Prop) (h : Q (.bool false) s) : wpAny (model prog w) A (richCompare .NotEq (.ref l) (.ref b)) Q E s := by
  obtain ⟨⟨c1, d1, t1, s1⟩, g1, k1, n1, q1⟩ := id hl
  obtain ⟨⟨c2, d2, t2, s2⟩, g2, k2, n2, q2⟩ := id hb
  simp only at k1 q1 k2 q2
  subst k1 q1 k2 q2
  have ta : s.TypeIs (.ref l) "tuple" := ⟨_, g1, rfl⟩
  exact wpAny_richCompare_same_room (op := .NotEq) ta ⟨_, g2, rfl⟩ F.slot_tuple_ne (call_meetsIn F.slot_tuple_ne ta F.entry_tuple_ne (F.args_tuple_ne_2 _ _) (ik_tuple_ne l b xs ys n1 n2 d1 d2 s1 s2 hsz) ⟨⟨g1, g2⟩, he, ⟨(fun x => nomatch x), h⟩⟩) hu
theorem ik_rcNe_lists {A : Around} {s : Shared} {l b : Addr} {xs ys : Array Value} (hl : s.heap.IsList l xs) (hb : s.heap.IsList b ys) (hsz : xs.size = ys.size) (hu : A.units < cLine)
    (he : AllSame prog w A s xs ys) (E Q : Value → Shared → Prop) (h : Q (.bool false) s) : wpAny (model prog w) A (richCompare .NotEq (.ref l) (.ref b)) Q E s := by
  obtain ⟨⟨c1, d1, t1, s1⟩, g1, k1, n1, q1⟩ := id hl
  obtain ⟨⟨c2, d2, t2, s2⟩, g2, k2, n2, q2⟩ := id hb
  simp only at k1 q1 k2 q2
  subst k1 q1 k2 q2
  have ta : s.TypeIs (.ref l) "list" := ⟨_, g1, rfl⟩
  exact wpAny_richCompare_same_room (op := .NotEq) ta ⟨_, g2, rfl⟩ F.slot_list_ne (call_meetsIn F.slot_list_ne ta F.entry_list_ne (F.args_list_ne_2 _ _) (ik_list_ne l b xs ys n1 n2 d1 d2 s1 s2 hsz) ⟨⟨g1, g2⟩, he, ⟨(fun x => nomatch x), h⟩⟩) hu
end
end PySem.SeqAt
namespace Ik
open PySem PySem.Spec PyProof.Rows L2 Evl
/-- two tuples, two lists, of the same items (data, dicts among them, of nesting below n) -/
def rNeV (K : PySem.W.Frag) : R2 := fun x y H Q => ∃ n a b xs ys, n ≤ 60 ∧ x = .ref a ∧ y = .ref b ∧ ((SqT K H a xs ∧ SqT K H b ys) ∨ (SqL K H a xs ∧ SqL K H b ys)) ∧ Paired (EqV K H n) xs ys ∧ Q (.bl false) H
theorem op_neV {X : Cx} (hu : X.A.units + 64 < cLine) : OpR X (compareOp .NotEq) (rNeV X.K) := by
  intro pins s σ H x y v u Q I rx ry h
  obtain ⟨n, a, b, xs, ys, hn, rfl, rfl, hs, hp, q⟩ := h
  cases (show v = Value.ref a from rx)
  cases (show u = Value.ref b from ry)
  have go : ∀ {us ws : List Value}, Vals xs us → Vals ys ws → us.toArray.size = ws.toArray.size ∧ SeqAt.AllSame X.prog X.w X.A s us.toArray ws.toArray := fun {us ws} r1 r2 => by
    refine ⟨?_, fun j h1 h2 => ?_⟩
    · rw [List.size_toArray, List.size_toArray, ← r1.length, ← r2.length]
      exact Paired.length hp
    · have k := items_run (fun x y v u f r r' => eqV_run I n X.A.in1 (by show X.A.units + 1 + n < cLine; omega) x y v u f r r') hp r1 r2 j (by simpa using h1) (by simpa using h2)
      simpa using k
  rcases hs with ⟨ha, hb⟩ | ⟨ha, hb⟩
  · obtain ⟨us, r1, p1, _⟩ := I.tuple ha
    obtain ⟨ws, r2, p2, _⟩ := I.tuple hb
    obtain ⟨g1, g2⟩ := go r1 r2
    exact SeqAt.ik_rcNe_tuples p1 p2 g1 (by omega) g2 _ _ ⟨.bl false, H, I, rfl, q⟩
  · obtain ⟨us, r1, p1, _⟩ := I.list ha
    obtain ⟨ws, r2, p2, _⟩ := I.list hb
    obtain ⟨g1, g2⟩ := go r1 r2
    exact SeqAt.ik_rcNe_lists p1.isList p2.isList g1 (by omega) g2 _ _ ⟨.bl false, H, I, rfl, q⟩
end Ik

namespace Ik
/-! ### houses: plain lists -/
def okC (c : Int) : Bool := decide (0 ≤ c) && decide (c ≤ 9)
def isHouse (cs : List Int) : Bool := (decide (1 ≤ (cs.length : Int)) && decide ((cs.length : Int) ≤ 6)) && cs.all okC
/-- a house, as it is used -/
structure House (cs : List Int) : Prop where
  pos : 1 ≤ cs.length
  le : cs.length ≤ 6
  ok : ∀ c ∈ cs, 0 ≤ c ∧ c ≤ 9
theorem house_of {cs : List Int} (h : isHouse cs = true) : House cs := by
  unfold isHouse at h
  rw [Bool.and_eq_true, Bool.and_eq_true, decide_eq_true_eq, decide_eq_true_eq, List.all_eq_true] at h
  refine ⟨by omega, by omega, fun c hc => ?_⟩
  have q := h.2 c hc
  unfold okC at q
  rw [Bool.and_eq_true, decide_eq_true_eq, decide_eq_true_eq] at q
  exact q
/-- the kinds of the rooms, from kind k on -/
def kindsF : Nat → List Int → List Int
  | _, [] => []
  | k, c :: r => List.replicate c.toNat (k : Int) ++ kindsF (k + 1) r
def kinds (cs : List Int) : List Int := kindsF 0 cs
theorem kindsF_append : ∀ (k : Nat) (xs ys : List Int), kindsF k (xs ++ ys) = kindsF k xs ++ kindsF (k + xs.length) ys
  | k, [], ys => by simp [kindsF]
  | k, c :: r, ys => by
    show List.replicate c.toNat (k : Int) ++ kindsF (k + 1) (r ++ ys) = (List.replicate c.toNat (k : Int) ++ kindsF (k + 1) r) ++ kindsF (k + (r.length + 1)) ys
    rw [kindsF_append (k + 1) r ys, List.append_assoc, show k + 1 + r.length = k + (r.length + 1) by omega]
theorem kindsF_snoc (k : Nat) (xs : List Int) (c : Int) : kindsF k (xs ++ [c]) = kindsF k xs ++ List.replicate c.toNat ((k + xs.length : Nat) : Int) := by
  rw [kindsF_append]
  show _ ++ (List.replicate c.toNat ((k + xs.length : Nat) : Int) ++ []) = _
  rw [List.append_nil]
theorem kindsF_len : ∀ (k : Nat) (cs : List Int), (∀ c ∈ cs, 0 ≤ c) → ((kindsF k cs).length : Int) = cs.sum
  | _, [], _ => rfl
  | k, c :: r, h => by
    have ih := kindsF_len (k + 1) r fun x hx => h x (List.mem_cons_of_mem _ hx)
    have hc := h c List.mem_cons_self
    show ((List.replicate c.toNat (k : Int) ++ kindsF (k + 1) r).length : Int) = (c :: r).sum
    rw [List.length_append, List.length_replicate, List.sum_cons]
    omega
theorem kindsF_ge : ∀ (k : Nat) (cs : List Int), ∀ x ∈ kindsF k cs, (k : Int) ≤ x ∧ x < ((k + cs.length : Nat) : Int)
  | _, [], x, h => by simp [kindsF] at h
  | k, c :: r, x, h => by
    rcases List.mem_append.mp (show x ∈ List.replicate c.toNat (k : Int) ++ kindsF (k + 1) r from h) with h | h
    · have e := List.eq_of_mem_replicate h
      subst e
      rw [List.length_cons]
      omega
    · have := kindsF_ge (k + 1) r x h
      rw [List.length_cons]
      omega
theorem kinds_lt {cs : List Int} {x : Int} (h : x ∈ kinds cs) : 0 ≤ x ∧ x < (cs.length : Int) := by
  have := kindsF_ge 0 cs x h
  omega
theorem sum_nonneg : ∀ cs : List Int, (∀ c ∈ cs, 0 ≤ c) → 0 ≤ cs.sum
  | [], _ => by simp
  | c :: r, h => by
    rw [List.sum_cons]
    have := sum_nonneg r fun x hx => h x (List.mem_cons_of_mem _ hx)
    have := h c List.mem_cons_self
    omega
theorem sum_le9 : ∀ cs : List Int, (∀ c ∈ cs, c ≤ 9) → cs.sum ≤ 9 * cs.length
  | [], _ => by simp
  | c :: r, h => by
    rw [List.sum_cons, List.length_cons]
    have := sum_le9 r fun x hx => h x (List.mem_cons_of_mem _ hx)
    have := h c List.mem_cons_self
    omega
theorem House.nn {cs : List Int} (h : House cs) : ∀ c ∈ cs, 0 ≤ c := fun c hc => (h.ok c hc).1
theorem kinds_len {cs : List Int} (h : House cs) : ((kinds cs).length : Int) = cs.sum := kindsF_len 0 cs h.nn
theorem kinds_le {cs : List Int} (h : House cs) : (kinds cs).length ≤ 54 := by
  have h1 := kinds_len h
  have h2 := sum_le9 cs fun c hc => (h.ok c hc).2
  have h3 := h.le
  omega
theorem take_sum_le : ∀ (cs : List Int) (k : Nat), (∀ c ∈ cs, 0 ≤ c) → 0 ≤ (cs.take k).sum ∧ (cs.take k).sum ≤ cs.sum
  | [], k, _ => by simp
  | c :: r, 0, h => by
    have := sum_nonneg _ h
    simp at *
    omega
  | c :: r, k + 1, h => by
    have := take_sum_le r k fun x hx => h x (List.mem_cons_of_mem _ hx)
    have := h c List.mem_cons_self
    rw [List.take_succ_cons, List.sum_cons, List.sum_cons]
    omega
/-- kind_of's walk: the rooms behind, the kind, the counts left -/
def kindGo (room : Int) : Int → Nat → List Int → Option Nat
  | _, _, [] => none
  | b, k, c :: r => if room < b + c then some k else kindGo room (b + c) (k + 1) r
theorem kindGo_eq : ∀ (cs : List Int) (k : Nat) (b : Int) (j : Nat), (∀ c ∈ cs, 0 ≤ c) → j < (kindsF k cs).length → ∃ n : Nat, kindGo (b + j) b k cs = some n ∧ (kindsF k cs)[j]? = some (n : Int)
  | [], k, b, j, _, h => by simp [kindsF] at h
  | c :: r, k, b, j, h, hj => by
    have hc := h c List.mem_cons_self
    have hj : j < (List.replicate c.toNat (k : Int) ++ kindsF (k + 1) r).length := hj
    rw [List.length_append, List.length_replicate] at hj
    show ∃ n : Nat, (if b + (j : Int) < b + c then some k else kindGo (b + j) (b + c) (k + 1) r) = some n ∧ (List.replicate c.toNat (k : Int) ++ kindsF (k + 1) r)[j]? = some (n : Int)
    by_cases q : b + (j : Int) < b + c
    · refine ⟨k, by rw [if_pos q], ?_⟩
      rw [List.getElem?_append_left (by rw [List.length_replicate]; omega), List.getElem?_replicate, if_pos (by omega)]
    · rw [if_neg q]
      obtain ⟨n, e1, e2⟩ := kindGo_eq r (k + 1) (b + c) (j - c.toNat) (fun x hx => h x (List.mem_cons_of_mem _ hx)) (by omega)
      refine ⟨n, ?_, ?_⟩
      · rw [← e1]
        congr 1
        omega
      · rw [List.getElem?_append_right (by rw [List.length_replicate]; omega), List.length_replicate]
        exact e2
theorem kindGo_le : ∀ (cs : List Int) (k : Nat) (b room : Int) (n : Nat), kindGo room b k cs = some n → n < k + cs.length
  | [], k, b, room, n, h => by simp [kindGo] at h
  | c :: r, k, b, room, n, h => by
    unfold kindGo at h
    rw [List.length_cons]
    split at h
    · have := Option.some.inj h
      omega
    · have := kindGo_le r (k + 1) (b + c) room n h
      omega
/-- the rooms of a kind -/
def roomsOf (cs : List Int) (kind : Int) : List Int :=
  if 0 ≤ kind ∧ kind < cs.length then (List.range (cs.getD kind.toNat 0).toNat).map fun i : Nat => (cs.take kind.toNat).sum + (i : Int) else []
/-- below, at, above a kind -/
theorem kinds_parts {cs : List Int} {k : Nat} (hk : k < cs.length) : kinds cs = kindsF 0 (cs.take k) ++ (List.replicate cs[k].toNat (k : Int) ++ kindsF (k + 1) (cs.drop (k + 1))) := by
  have e : cs = cs.take k ++ (cs[k] :: cs.drop (k + 1)) := by
    rw [← List.drop_eq_getElem_cons hk, List.take_append_drop]
  have hl : (cs.take k).length = k := by rw [List.length_take]; omega
  unfold kinds
  conv => lhs; rw [e]
  rw [kindsF_append, hl]
  show kindsF 0 (cs.take k) ++ (List.replicate cs[k].toNat ((0 + k : Nat) : Int) ++ kindsF (0 + k + 1) (cs.drop (k + 1))) = _
  rw [Nat.zero_add]
/-- a room is of kind k or better where it is not below k's first -/
theorem room_ge {cs : List Int} (h : House cs) {k : Nat} (hk : k ≤ cs.length) {r : Nat} {x : Int} (hr : (kinds cs)[r]? = some x) : (cs.take k).sum ≤ (r : Int) ↔ (k : Int) ≤ x := by
  have e : cs = cs.take k ++ cs.drop k := (List.take_append_drop k cs).symm
  have hl : (cs.take k).length = k := by rw [List.length_take]; omega
  have hs := kindsF_len 0 (cs.take k) fun c hc => h.nn c (List.mem_of_mem_take hc)
  have ek : kinds cs = kindsF 0 (cs.take k) ++ kindsF k (cs.drop k) := by
    unfold kinds
    conv => lhs; rw [e]
    rw [kindsF_append, hl, Nat.zero_add]
  rw [ek] at hr
  by_cases q : r < (kindsF 0 (cs.take k)).length
  · rw [List.getElem?_append_left q] at hr
    have := kindsF_ge 0 (cs.take k) x (List.mem_of_getElem? hr)
    rw [hl] at this
    omega
  · rw [List.getElem?_append_right (by omega)] at hr
    have := kindsF_ge k (cs.drop k) x (List.mem_of_getElem? hr)
    omega
/-- the rooms whose kind is k, gone through -/
def roomsAt (ks : List Int) (k : Int) : List Nat := (List.range ks.length).filter fun r => decide (ks.getD r 0 = k)
theorem filter_none {α : Type} {p : α → Bool} {l : List α} (h : ∀ x ∈ l, p x = false) : l.filter p = [] := by
  rw [List.filter_eq_nil_iff]
  intro x hx
  rw [h x hx]
  decide
theorem filter_all {α : Type} {p : α → Bool} {l : List α} (h : ∀ x ∈ l, p x = true) : l.filter p = l := by
  rw [List.filter_eq_self]
  exact h
theorem getD_left {l r : List Int} {i : Nat} (h : i < l.length) : (l ++ r).getD i 0 = l.getD i 0 := by
  rw [List.getD_eq_getElem?_getD, List.getD_eq_getElem?_getD, List.getElem?_append_left h]
theorem getD_right {l r : List Int} {i : Nat} (h : l.length ≤ i) : (l ++ r).getD i 0 = r.getD (i - l.length) 0 := by
  rw [List.getD_eq_getElem?_getD, List.getD_eq_getElem?_getD, List.getElem?_append_right h]
theorem getD_mem {l : List Int} {i : Nat} (h : i < l.length) : l.getD i 0 ∈ l := by
  rw [List.getD_eq_getElem?_getD, List.getElem?_eq_getElem h]
  exact List.getElem_mem h
theorem roomsAt_parts (A : List Int) (c : Nat) (B : List Int) (k : Int) (hA : ∀ x ∈ A, x < k) (hB : ∀ x ∈ B, k < x) : roomsAt (A ++ (List.replicate c k ++ B)) k = (List.range c).map (A.length + ·) := by
  unfold roomsAt
  have e : (A ++ (List.replicate c k ++ B)).length = A.length + (c + B.length) := by
    rw [List.length_append, List.length_append, List.length_replicate]
  rw [e, List.range_add, List.filter_append, List.range_add, List.map_append, List.filter_append]
  rw [filter_none (l := List.range A.length), List.nil_append, filter_all, filter_none, List.append_nil]
  · intro x hx
    obtain ⟨y, hy, rfl⟩ := List.mem_map.mp hx
    obtain ⟨z, hz, rfl⟩ := List.mem_map.mp hy
    have hz := List.mem_range.mp hz
    rw [getD_right (by omega), getD_right (by rw [List.length_replicate]; omega), List.length_replicate]
    have := hB _ (getD_mem (l := B) (i := A.length + (c + z) - A.length - c) (by omega))
    rw [decide_eq_false_iff_not]
    omega
  · intro x hx
    obtain ⟨y, hy, rfl⟩ := List.mem_map.mp hx
    have hy := List.mem_range.mp hy
    rw [getD_right (by omega), getD_left (by rw [List.length_replicate]; omega)]
    have hm := getD_mem (l := List.replicate c k) (i := A.length + y - A.length) (by rw [List.length_replicate]; omega)
    rw [decide_eq_true_eq]
    exact List.eq_of_mem_replicate hm
  · intro x hx
    have hx := List.mem_range.mp hx
    rw [getD_left hx]
    have := hA _ (getD_mem hx)
    rw [decide_eq_false_iff_not]
    omega
theorem roomsAt_eq {cs : List Int} (h : House cs) {k : Nat} (hk : k < cs.length) : (roomsAt (kinds cs) (k : Int)).map (fun r : Nat => (r : Int)) = roomsOf cs (k : Int) := by
  rw [kinds_parts hk, roomsAt_parts]
  · unfold roomsOf
    rw [if_pos (by omega), List.map_map]
    have hs := kindsF_len 0 (cs.take k) fun c hc => h.nn c (List.mem_of_mem_take hc)
    rw [Int.toNat_natCast, List.getD_eq_getElem?_getD, List.getElem?_eq_getElem hk]
    show List.map _ (List.range cs[k].toNat) = List.map _ (List.range cs[k].toNat)
    refine List.map_congr_left fun i _ => ?_
    show ((((kindsF 0 (cs.take k)).length + i : Nat)) : Int) = (cs.take k).sum + (i : Int)
    omega
  · intro x hx
    have := kindsF_ge 0 (cs.take k) x hx
    rw [List.length_take] at this
    omega
  · intro x hx
    have := kindsF_ge (k + 1) _ x hx
    omega
theorem roomsAt_lt {ks : List Int} {k : Int} : ∀ r ∈ roomsAt ks k, r < ks.length := fun r hr => List.mem_range.mp (List.mem_filter.mp hr).1
end Ik

namespace Ik
open PySem PySem.Spec PyProof.Rows L2 Evl
theorem rep_one (v : V) : ∀ n : Nat, (List.replicate n [v]).flatten = List.replicate n v
  | 0 => rfl
  | n + 1 => by
    rw [List.replicate_succ, List.flatten_cons, rep_one v n]
    rfl
theorem map_rep (n : Nat) (x : Int) : (List.replicate n x).map V.int = List.replicate n (V.int x) := List.map_replicate
theorem kinds_step {cs : List Int} {i : Nat} (hi : i < cs.length) : kindsF 0 (cs.take (i + 1)) = kindsF 0 (cs.take i) ++ List.replicate cs[i].toNat (i : Int) := by
  rw [take_snoc (List.getElem?_eq_getElem hi), kindsF_snoc, List.length_take, show 0 + min i cs.length = i by omega]
theorem kinds_take_le {cs : List Int} (h : House cs) (i : Nat) : (kindsF 0 (cs.take i)).length ≤ 54 := by
  have h1 := kindsF_len 0 (cs.take i) fun c hc => h.nn c (List.mem_of_mem_take hc)
  have h2 := take_sum_le cs i h.nn
  have h3 := sum_le9 cs fun c hc => (h.ok c hc).2
  have h4 := h.le
  omega
end Ik

namespace Ik
open PySem PySem.Spec PyProof.Rows L2 Evl
/-! ### dicts of spans -/
structure Ent where
  num : Int
  first : Int
  last : Int
  kind : Int
  at_ : Addr
def Ent.kv (e : Ent) : Key × V := (Sum.inl e.num, V.ref e.at_)
def Ent.tup (e : Ent) : HO := .tup [.int e.first, .int e.last, .int e.kind]
structure Sps (H : Hp) (d : Addr) (l : List Ent) : Prop where
  dc : H d = some (.dK (l.map Ent.kv))
  tp : ∀ e ∈ l, H e.at_ = some e.tup
  nd : (l.map Ent.num).Nodup
theorem Sps.mono {H H' : Hp} {d : Addr} {l : List Ent} (S : Sps H d l) (e : Ex H H') : Sps H' d l := ⟨e _ _ S.dc, fun x hx => e _ _ (S.tp x hx), S.nd⟩
def look (l : List Ent) (n : Int) : Option Ent := l.find? fun e => decide (e.num = n)
theorem look_val (n : Int) : ∀ l : List Ent, valV (l.map Ent.kv) (Sum.inl n : Key) = (look l n).map fun e => V.ref e.at_
  | [] => rfl
  | e :: r => by
    have ih := look_val n r
    unfold valV look at *
    rw [List.map_cons, List.find?_cons, List.find?_cons]
    by_cases h : e.num = n
    · rw [decide_eq_true (show (Ent.kv e).1 = (Sum.inl n : Key) by show (Sum.inl e.num : Key) = Sum.inl n; rw [h]), decide_eq_true h]
      rfl
    · rw [decide_eq_false (show ¬ (Ent.kv e).1 = (Sum.inl n : Key) from fun z => h (Sum.inl.inj z)), decide_eq_false h]
      exact ih
theorem look_some {l : List Ent} {n : Int} (h : n ∈ l.map Ent.num) : ∃ e, look l n = some e ∧ e ∈ l ∧ e.num = n := by
  obtain ⟨e, he, hn⟩ := List.mem_map.mp h
  cases q : look l n with
  | none =>
    have := List.find?_eq_none.mp q e he
    exact absurd (decide_eq_true hn) this
  | some x => exact ⟨x, rfl, List.mem_of_find?_eq_some q, of_decide_eq_true (List.find?_some (p := fun e : Ent => decide (e.num = n)) q)⟩
theorem look_mem : ∀ {l : List Ent} {e : Ent}, (l.map Ent.num).Nodup → e ∈ l → look l e.num = some e
  | x :: r, e, hn, he => by
    obtain ⟨h1, h2⟩ := List.nodup_cons.mp (show (x.num :: r.map Ent.num).Nodup from hn)
    unfold look
    rw [List.find?_cons]
    rcases List.mem_cons.mp he with rfl | he
    · rw [decide_eq_true rfl]
    · rw [decide_eq_false fun z => h1 (by rw [z]; exact List.mem_map.mpr ⟨e, he, rfl⟩)]
      exact look_mem h2 he
def act (night : Int) (e : Ent) : Bool := decide (e.first ≤ night) && decide (night < e.last)
def actN (l : List Ent) (night n : Int) : Bool := match look l n with
  | some e => act night e
  | none => false
def kindN (l : List Ent) (n : Int) : Int := match look l n with
  | some e => e.kind
  | none => 0
def nums (l : List Ent) : List Int := l.map Ent.num
/-- the wants of a night, the numbers rising -/
def wantsL (l : List Ent) (night : Int) : List (Int × Int) := ((sortI (nums l)).filter (actN l night)).map fun n => (n, kindN l n)
def kvI (p : Int × Int) : Key × V := (Sum.inl p.1, V.int p.2)
def kindsOn (l : List Ent) (night : Int) : List (Int × Int) := if 0 ≤ night ∧ night < 40 then wantsL l night else []
theorem kv_keys (l : List Ent) : (l.map Ent.kv).map (·.1) = (nums l).map Sum.inl := by
  unfold nums
  rw [List.map_map, List.map_map]
  rfl
theorem wants_nodup {l : List Ent} (h : (l.map Ent.num).Nodup) (night : Int) : ((wantsL l night).map (·.1)).Nodup := by
  have e : (wantsL l night).map (·.1) = (sortI (nums l)).filter (actN l night) := by
    unfold wantsL
    rw [List.map_map]
    exact List.map_id _
  rw [e]
  exact (sortI_nodup h).sublist List.filter_sublist
theorem wants_len (l : List Ent) (night : Int) : (wantsL l night).length ≤ l.length := by
  unfold wantsL
  rw [List.length_map]
  refine Nat.le_trans (List.length_filter_le _ _) ?_
  rw [sortI_len]
  exact Nat.le_of_eq (List.length_map _)
theorem mem_wants_kinds {l : List Ent} (hn : (l.map Ent.num).Nodup) (night k : Int) : k ∈ (wantsL l night).map (·.2) ↔ ∃ e ∈ l, act night e = true ∧ e.kind = k := by
  unfold wantsL
  rw [List.map_map]
  constructor
  · intro h
    obtain ⟨n, hm, hk⟩ := List.mem_map.mp h
    obtain ⟨h1, h2⟩ := List.mem_filter.mp hm
    obtain ⟨e, he, hmem, hnum⟩ := look_some (sortI_mem.mp h1)
    unfold actN at h2
    rw [he] at h2
    refine ⟨e, hmem, h2, ?_⟩
    rw [← hk]
    show e.kind = kindN l n
    unfold kindN
    rw [he]
  · rintro ⟨e, he, ha, hk⟩
    have hl := look_mem hn he
    refine List.mem_map.mpr ⟨e.num, List.mem_filter.mpr ⟨sortI_mem.mpr (List.mem_map.mpr ⟨e, he, rfl⟩), ?_⟩, ?_⟩
    · unfold actN
      rw [hl]
      exact ha
    · show kindN l e.num = k
      unfold kindN
      rw [hl]
      exact hk
/-- the spans are spans of a house of so many kinds -/
structure SpanOk (many : Nat) (e : Ent) : Prop where
  f0 : 0 ≤ e.first
  fl : e.first < e.last
  l40 : e.last ≤ 40
  k0 : 0 ≤ e.kind
  km : e.kind < (many : Int)
theorem kindsOn_eq {l : List Ent} {many : Nat} (hn : (l.map Ent.num).Nodup) (ho : ∀ e ∈ l, SpanOk many e) (night : Int) : kindsOn l night = wantsL l night := by
  unfold kindsOn
  by_cases h : 0 ≤ night ∧ night < 40
  · rw [if_pos h]
  · rw [if_neg h]
    unfold wantsL
    rw [filter_none (l := sortI (nums l))]
    · rfl
    · intro n hm
      obtain ⟨e, he, hmem, _⟩ := look_some (sortI_mem.mp hm)
      have q := ho e hmem
      have := q.f0
      have := q.l40
      unfold actN
      rw [he]
      show act night e = false
      unfold act
      rw [Bool.and_eq_false_iff, decide_eq_false_iff_not, decide_eq_false_iff_not]
      omega
/-- the rooms of the kinds that are not closed -/
def roomsOn (cs : List Int) (closed : List Int) : List Int := (List.range cs.length).flatMap fun k : Nat => if (k : Int) ∈ closed then [] else roomsOf cs (k : Int)
def openR (cs : List Int) (closed : List Int) : List Nat := (List.range (kinds cs).length).filter fun r => !decide ((kinds cs).getD r 0 ∈ closed)
theorem openR_parts : ∀ (k : Nat) (cs : List Int) (closed : List Int) (off : Int), (∀ c ∈ cs, 0 ≤ c) →
    ((List.range (kindsF k cs).length).filter fun r => !decide ((kindsF k cs).getD r 0 ∈ closed)).map (fun r : Nat => off + (r : Int)) =
      (List.range cs.length).flatMap fun i => if ((k + i : Nat) : Int) ∈ closed then [] else (List.range (cs.getD i 0).toNat).map fun j : Nat => off + (cs.take i).sum + (j : Int)
  | k, [], closed, off, _ => rfl
  | k, c :: r, closed, off, h => by
    have hc := h c List.mem_cons_self
    have ih := openR_parts (k + 1) r closed (off + c) fun x hx => h x (List.mem_cons_of_mem _ hx)
    have ek : kindsF k (c :: r) = List.replicate c.toNat (k : Int) ++ kindsF (k + 1) r := rfl
    rw [ek, List.length_append, List.length_replicate, List.range_add, List.filter_append, List.map_append, List.length_cons, List.range_succ_eq_map, List.flatMap_cons, List.flatMap_map]
    congr 1
    · have e1 : ∀ x ∈ List.range c.toNat, (List.replicate c.toNat (k : Int) ++ kindsF (k + 1) r).getD x 0 = (k : Int) := fun x hx => by
        have hx := List.mem_range.mp hx
        rw [getD_left (by rw [List.length_replicate]; exact hx)]
        exact List.eq_of_mem_replicate (getD_mem (by rw [List.length_replicate]; exact hx))
      by_cases q : ((k + 0 : Nat) : Int) ∈ closed
      · rw [if_pos q, filter_none]
        · rfl
        · intro x hx
          rw [e1 x hx, decide_eq_true (show (k : Int) ∈ closed from q)]
          rfl
      · rw [if_neg q, filter_all]
        · refine List.map_congr_left fun j _ => ?_
          simp
        · intro x hx
          rw [e1 x hx, decide_eq_false (show ¬ (k : Int) ∈ closed from q)]
          rfl
    · rw [List.filter_map, List.map_map]
      have e2 : ((fun x => !decide ((List.replicate c.toNat (k : Int) ++ kindsF (k + 1) r).getD x 0 ∈ closed)) ∘ fun x => c.toNat + x) = fun x => !decide ((kindsF (k + 1) r).getD x 0 ∈ closed) := by
        funext x
        show (!decide ((List.replicate c.toNat (k : Int) ++ kindsF (k + 1) r).getD (c.toNat + x) 0 ∈ closed)) = _
        rw [getD_right (by rw [List.length_replicate]; omega), List.length_replicate, Nat.add_sub_cancel_left]
      rw [e2]
      have e3 : ((fun r : Nat => off + (r : Int)) ∘ fun x => c.toNat + x) = fun r : Nat => off + c + (r : Int) := by
        funext x
        show off + ((c.toNat + x : Nat) : Int) = off + c + (x : Int)
        omega
      rw [e3, ih]
      congr 1
      funext i
      show (if ((k + 1 + i : Nat) : Int) ∈ closed then [] else (List.range (r.getD i 0).toNat).map fun j : Nat => off + c + (r.take i).sum + (j : Int)) = (if ((k + (i + 1) : Nat) : Int) ∈ closed then [] else (List.range ((c :: r).getD (i + 1) 0).toNat).map fun j : Nat => off + ((c :: r).take (i + 1)).sum + (j : Int))
      rw [show k + 1 + i = k + (i + 1) by omega, List.take_succ_cons, List.sum_cons, show (c :: r).getD (i + 1) 0 = r.getD i 0 from rfl, ← Int.add_assoc]
theorem openR_eq {cs : List Int} (h : House cs) (closed : List Int) : (openR cs closed).map (fun r : Nat => (r : Int)) = roomsOn cs closed := by
  have e := openR_parts 0 cs closed 0 h.nn
  have e1 : (openR cs closed).map (fun r : Nat => (r : Int)) = (openR cs closed).map (fun r : Nat => (0 : Int) + (r : Int)) := List.map_congr_left fun r _ => (Int.zero_add _).symm
  rw [e1]
  unfold openR kinds
  rw [e]
  unfold roomsOn
  rw [List.flatMap_def, List.flatMap_def]
  congr 1
  refine List.map_congr_left fun i hi => ?_
  have hi := List.mem_range.mp hi
  rw [Nat.zero_add]
  by_cases q : (i : Int) ∈ closed
  · rw [if_pos q, if_pos q]
  · rw [if_neg q, if_neg q]
    unfold roomsOf
    rw [if_pos (by omega), Int.toNat_natCast]
    refine List.map_congr_left fun j _ => ?_
    rw [Int.zero_add]
theorem openR_congr {cs : List Int} {c1 c2 : List Int} (h : ∀ k, k ∈ c1 ↔ k ∈ c2) : openR cs c1 = openR cs c2 := by
  unfold openR
  congr 1
  funext r
  rw [decide_eq_decide.mpr (h _)]
theorem openR_lt {cs closed : List Int} : ∀ r ∈ openR cs closed, r < (kinds cs).length := fun r hr => List.mem_range.mp (List.mem_filter.mp hr).1
theorem openR_len {cs : List Int} (h : House cs) (closed : List Int) : (openR cs closed).length ≤ 54 := by
  refine Nat.le_trans (List.length_filter_le _ _) ?_
  rw [List.length_range]
  exact kinds_le h
theorem roomsOn_take_len {cs : List Int} (h : House cs) (closed : List Int) : (roomsOn cs closed).length ≤ 54 := by
  rw [← openR_eq h, List.length_map]
  exact openR_len h closed
theorem inV_ints (x : Int) : ∀ ns : List Int, inV (.int x) (ns.map V.int) = decide (x ∈ ns)
  | [] => by simp [inV]
  | n :: r => by
    have ih := inV_ints x r
    unfold inV at *
    rw [List.map_cons, List.any_cons, ih]
    show ((n == x) || decide (x ∈ r)) = decide (x ∈ n :: r)
    by_cases h1 : n = x
    · subst h1
      simp
    · have h2 : ¬ x = n := fun z => h1 z.symm
      rw [show (n == x) = false by simp [h1], Bool.false_or, decide_eq_decide.mpr]
      rw [List.mem_cons]
      exact ⟨.inr, fun z => z.resolve_left h2⟩
theorem flat_ints (ns : List Int) : (ns.map V.int).all flatV = true := by
  rw [List.all_map]
  exact List.all_eq_true.mpr fun _ _ => rfl
def isSpan (cs : List Int) (f l k : Int) : Bool := (decide (0 ≤ f) && (decide (f < l) && decide (l ≤ 40))) && (decide (0 ≤ k) && decide (k < (cs.length : Int)))
section
variable {K : PySem.W.Frag} {σ : L2.St} {H H' : Hp} {ta tb tc td te tl : TE} {t u : TT} {x y z v : V} {R : Rel}
theorem ev_inI {p : Addr} {n : Int} {ns : List Int} (ha : Ev ta σ H (.int n)) (hb : Ev tb σ H (.ref p)) (h : SqL K H p (ns.map V.int)) : Ev (tOp (rIn K false) ta tb) σ H (.bl (decide (n ∈ ns))) := by
  have q := ev_op ha hb (rv_isL h rfl (flat_ints ns))
  rw [inV_ints] at q
  exact q
theorem ev_niI {p : Addr} {n : Int} {ns : List Int} (ha : Ev ta σ H (.int n)) (hb : Ev tb σ H (.ref p)) (h : SqL K H p (ns.map V.int)) : Ev (tOp (rIn K true) ta tb) σ H (.bl (!decide (n ∈ ns))) := by
  have q := ev_op ha hb (rv_niL h rfl (flat_ints ns))
  rw [inV_ints] at q
  exact q
variable {D : Ends} {tu tz : TS}
/-- l.extend(a new list) -/
theorem s_ext {l : Addr} {xs ys : List V} (hl : H l = some (.lst xs)) (ha : Ev ta σ H (.ref l)) (h : EvL te σ H ys) (hz : xs.length + ys.length ≤ 100000) (k : ∀ H1, Ex H H1 → D.nx σ (upd H1 l (.lst (xs ++ ys)))) :
    tDrop (tBM K "list" rExtend ta (tCons te tNil)) D σ H := ha H (Ex.refl H) _ fun H1 e1 =>
  ⟨Or.inl ⟨rfl, xs, sq_of (e1 l _ hl)⟩, h H1 e1 _ fun p H2 hp e2 h2 => ⟨l, p, xs, ys, rfl, rfl, e2 l _ (e1 l _ hl), h2, sz_of hz, k H2 (e1.trans e2)⟩⟩
end
end Ik

namespace Ik
open PySem PySem.Spec PyProof.Rows L2 Evl
/-! ### a night: rooms, wants, who was there ahead -/
def kd (cs : List Int) (r : Int) : Int := (kinds cs).getD r.toNat 0
/-- rooms of the house, rising -/
structure RoomsOk (cs rs : List Int) : Prop where
  ok : ∀ r ∈ rs, 0 ≤ r ∧ r < ((kinds cs).length : Int)
  inc : rs.Pairwise (· < ·)
/-- wants and what was had ahead, as pairs of a number and a kind, a number and a room -/
structure NightOk (cs rs : List Int) (wl al : List (Int × Int)) : Prop where
  rooms : RoomsOk cs rs
  wn : (wl.map (·.1)).Nodup
  an : (al.map (·.1)).Nodup
  wk : ∀ p ∈ wl, 0 ≤ p.2 ∧ p.2 < (cs.length : Int)
  ar : RoomsOk cs (al.map (·.2))
  had : ∀ p ∈ wl, ∀ q ∈ al, p.1 = q.1 → p.2 ≤ kd cs q.2
  few : wl.length ≤ 80
  fewa : al.length ≤ 80
theorem rooms_len {cs rs : List Int} (hh : House cs) (h : RoomsOk cs rs) : rs.length ≤ 54 := by
  -- rising, from 0 on, below 54
  have hk := kinds_le hh
  have key : ∀ (l : List Int) (b : Int), l.Pairwise (· < ·) → (∀ r ∈ l, b ≤ r ∧ r < ((kinds cs).length : Int)) → (l.length : Int) ≤ max 0 (((kinds cs).length : Int) - b) := by
    intro l
    induction l with
    | nil =>
      intro b _ _
      show (0 : Int) ≤ _
      omega
    | cons x r ih =>
      intro b hp hb
      obtain ⟨h1, h2⟩ := List.pairwise_cons.mp hp
      have hx := hb x List.mem_cons_self
      have := ih (x + 1) h2 fun y hy => ⟨by have := h1 y hy; omega, (hb y (List.mem_cons_of_mem _ hy)).2⟩
      rw [List.length_cons]
      omega
  have := key rs 0 h.inc h.ok
  omega
/-- how many of a list are of kind k or better -/
def atLeast (ks : List Int) (k : Int) : Nat := (ks.filter fun x => decide (k ≤ x)).length
/-- the least short kind: by what the wants are, and what the kinds of the rooms -/
def shortL (n : Nat) (ws ks : List Int) : Option Nat := (List.range n).find? fun k : Nat => decide (atLeast ks (k : Int) < atLeast ws (k : Int))
/-- the program's look: rooms from the first of a kind on -/
def shortP (cs rs ws : List Int) : Option Nat := (List.range cs.length).find? fun k : Nat => decide (atLeast rs (cs.take k).sum < atLeast ws (k : Int))
theorem filter_len_map {α β : Type} (f : α → β) (p : β → Bool) (l : List α) : ((l.map f).filter p).length = (l.filter (p ∘ f)).length := by
  rw [List.filter_map, List.length_map]
theorem atLeast_kd {cs rs : List Int} (hh : House cs) (h : RoomsOk cs rs) {k : Nat} (hk : k ≤ cs.length) : atLeast rs (cs.take k).sum = atLeast (rs.map (kd cs)) (k : Int) := by
  unfold atLeast
  rw [filter_len_map]
  congr 1
  refine List.filter_congr fun r hr => ?_
  have hb := h.ok r hr
  have hlt : r.toNat < (kinds cs).length := by omega
  have e := room_ge hh hk (r := r.toNat) (x := (kinds cs)[r.toNat]) (List.getElem?_eq_getElem hlt)
  have er : ((r.toNat : Nat) : Int) = r := by omega
  rw [er] at e
  show decide ((cs.take k).sum ≤ r) = decide ((k : Int) ≤ kd cs r)
  unfold kd
  rw [List.getD_eq_getElem?_getD, List.getElem?_eq_getElem hlt]
  exact decide_eq_decide.mpr e
theorem find_congr {α : Type} {p q : α → Bool} : ∀ {l : List α}, (∀ x ∈ l, p x = q x) → l.find? p = l.find? q
  | [], _ => rfl
  | x :: r, h => by
    rw [List.find?_cons, List.find?_cons, h x List.mem_cons_self, find_congr fun y hy => h y (List.mem_cons_of_mem _ hy)]
theorem shortP_eq {cs rs : List Int} (hh : House cs) (h : RoomsOk cs rs) (ws : List Int) : shortP cs rs ws = shortL cs.length ws (rs.map (kd cs)) :=
  find_congr fun k hk => by
    rw [atLeast_kd hh h (Nat.le_of_lt (List.mem_range.mp hk))]
theorem find_range {p : Nat → Bool} {n i : Nat} (hi : i < n) (hp : p i = true) (hn : ∀ j, j < i → p j = false) : (List.range n).find? p = some i := by
  obtain ⟨m, rfl⟩ : ∃ m, n = i + (m + 1) := ⟨n - i - 1, by omega⟩
  rw [List.range_add, List.find?_append, List.find?_eq_none.mpr fun x hx => by rw [hn x (List.mem_range.mp hx)]; decide, List.range_succ_eq_map, List.map_cons, List.find?_cons, Nat.add_zero, hp]
  rfl
theorem find_range_none {p : Nat → Bool} {n : Nat} (hn : ∀ j, j < n → p j = false) : (List.range n).find? p = none := List.find?_eq_none.mpr fun x hx => by rw [hn x (List.mem_range.mp hx)]; decide
/-! giving rooms, the greatest wants first -/
def Hall (n : Nat) (ws ks : List Int) : Prop := ∀ k : Nat, k < n → atLeast ws (k : Int) ≤ atLeast ks (k : Int)
theorem hall_iff {n : Nat} {ws ks : List Int} : Hall n ws ks ↔ shortL n ws ks = none := by
  unfold Hall shortL
  rw [List.find?_eq_none]
  constructor
  · intro h x hx
    have := h x (List.mem_range.mp hx)
    rw [decide_eq_true_eq]
    omega
  · intro h k hk
    have := h k (List.mem_range.mpr hk)
    rw [decide_eq_true_eq] at this
    omega
theorem atLeast_cons (x : Int) (r : List Int) (k : Int) : atLeast (x :: r) k = (if k ≤ x then 1 else 0) + atLeast r k := by
  unfold atLeast
  rw [List.filter_cons]
  by_cases h : k ≤ x
  · rw [if_pos (decide_eq_true h), if_pos h, List.length_cons, Nat.add_comm]
  · rw [if_neg (by rw [decide_eq_false h]; decide), if_neg h, Nat.zero_add]
theorem atLeast_erase : ∀ {ks : List Int} {j : Nat} {x : Int} (k : Int), ks[j]? = some x → atLeast ks k = (if k ≤ x then 1 else 0) + atLeast (ks.eraseIdx j) k
  | [], j, x, k, h => by simp at h
  | y :: r, 0, x, k, h => by
    have e : y = x := Option.some.inj h
    subst e
    exact atLeast_cons y r k
  | y :: r, j + 1, x, k, h => by
    have ih := atLeast_erase k (ks := r) (j := j) (x := x) h
    show atLeast (y :: r) k = _ + atLeast (y :: r.eraseIdx j) k
    rw [atLeast_cons, atLeast_cons, ih]
    omega
theorem atLeast_zero {ws : List Int} {k : Int} (h : ∀ w ∈ ws, w < k) : atLeast ws k = 0 := by
  unfold atLeast
  rw [filter_none]
  · rfl
  · intro w hw
    have := h w hw
    rw [decide_eq_false_iff_not]
    omega
/-- one want more, the greatest, with a room that will do -/
theorem hall_step {n : Nat} {w x : Int} {ws ks : List Int} {j : Nat} (hge : ∀ y ∈ ws, y ≤ w) (hj : ks[j]? = some x) (hx : w ≤ x) : Hall n (w :: ws) ks ↔ Hall n ws (ks.eraseIdx j) := by
  unfold Hall
  refine forall_congr' fun k => forall_congr' fun _ => ?_
  have e1 := atLeast_cons w ws (k : Int)
  have e2 := atLeast_erase (k : Int) hj
  rw [e1, e2]
  by_cases h1 : (k : Int) ≤ w
  · rw [if_pos h1, if_pos (by omega)]
    omega
  · rw [if_neg h1]
    have e0 : atLeast ws (k : Int) = 0 := atLeast_zero fun y hy => by
      have := hge y hy
      omega
    rw [e0]
    constructor <;> intro _ <;> omega
theorem hall_none {n : Nat} {w : Int} {ws ks : List Int} (h0 : 0 ≤ w) (hw : w < (n : Int)) (hx : ∀ x ∈ ks, ¬ w ≤ x) : ¬ Hall n (w :: ws) ks := fun h => by
  have q := h w.toNat (by omega)
  rw [show ((w.toNat : Nat) : Int) = w by omega, atLeast_cons, if_pos (Int.le_refl w), atLeast_zero (ws := ks) fun x hm => by have := hx x hm; omega] at q
  omega
theorem atLeast_perm {xs ys : List Int} (p : xs.Perm ys) (k : Int) : atLeast xs k = atLeast ys k := (p.filter _).length_eq
theorem hall_perm {n : Nat} {xs ys ks : List Int} (p : xs.Perm ys) : Hall n xs ks ↔ Hall n ys ks := by
  unfold Hall
  refine forall_congr' fun k => forall_congr' fun _ => ?_
  rw [atLeast_perm p]
theorem first_at : ∀ {ns : List Int} {k : Int}, k ∈ ns → ∃ j : Nat, ns[j]? = some k ∧ ∀ m : Nat, m < j → ns[m]? ≠ some k
  | x :: r, k, h => by
    by_cases e : x = k
    · subst e
      exact ⟨0, rfl, fun m hm => absurd hm (Nat.not_lt_zero m)⟩
    · rcases List.mem_cons.mp h with h | h
      · exact absurd h.symm e
      · obtain ⟨j, h1, h2⟩ := first_at h
        refine ⟨j + 1, h1, fun m hm => ?_⟩
        cases m with
        | zero => exact fun z => e (Option.some.inj z)
        | succ m => exact h2 m (by omega)
theorem map_eraseIdx {α β : Type} (f : α → β) : ∀ (l : List α) (j : Nat), (l.eraseIdx j).map f = (l.map f).eraseIdx j
  | [], _ => rfl
  | _ :: _, 0 => rfl
  | x :: r, j + 1 => by
    show f x :: (r.eraseIdx j).map f = f x :: (r.map f).eraseIdx j
    rw [map_eraseIdx f r j]
end Ik

namespace Ik
open PySem PySem.Spec PyProof.Rows L2 Evl
def top (i : Nat) : Stmt := PySem.Challenge.pw_innkinds_k04_first_short_night.main.body.getD i (.Pass ⟨0, 0, 0, 0⟩)
abbrev s_first_room : Stmt := top 1
theorem sc_first_room : FnScope ["counts", "kind"] ["counts", "kind"] (defScope s_first_room) := ⟨rfl, rfl, rfl, by decide +kernel, rfl, by decide +kernel, by decide +kernel⟩
abbrev s_rooms_of : Stmt := top 2
theorem sc_rooms_of : FnScope ["counts", "kind", "start"] ["counts", "kind"] (defScope s_rooms_of) := ⟨rfl, rfl, rfl, by decide +kernel, rfl, by decide +kernel, by decide +kernel⟩
abbrev s_kinds_on : Stmt := top 5
theorem sc_kinds_on : FnScope ["spans", "night", "kinds", "number", "first", "last", "kind"] ["spans", "night"] (defScope s_kinds_on) := ⟨rfl, rfl, rfl, by decide +kernel, rfl, by decide +kernel, by decide +kernel⟩
abbrev s_wants_on : Stmt := top 6
theorem sc_wants_on : FnScope ["stays", "night"] ["stays", "night"] (defScope s_wants_on) := ⟨rfl, rfl, rfl, by decide +kernel, rfl, by decide +kernel, by decide +kernel⟩
abbrev s_rooms_on : Stmt := top 7
theorem sc_rooms_on : FnScope ["counts", "closings", "night", "closed", "rooms", "kind"] ["counts", "closings", "night"] (defScope s_rooms_on) := ⟨rfl, rfl, rfl, by decide +kernel, rfl, by decide +kernel, by decide +kernel⟩
abbrev s_lacking : Stmt := top 8
theorem sc_lacking : FnScope ["counts", "rooms", "wants", "kind", "start", "good", "wanted", "room", "want"] ["counts", "rooms", "wants", "kind"] (defScope s_lacking) := ⟨rfl, rfl, rfl, by decide +kernel, rfl, by decide +kernel, by decide +kernel⟩
abbrev s_short_kind : Stmt := top 9
theorem sc_short_kind : FnScope ["counts", "rooms", "wants", "kind"] ["counts", "rooms", "wants"] (defScope s_short_kind) := ⟨rfl, rfl, rfl, by decide +kernel, rfl, by decide +kernel, by decide +kernel⟩
abbrev s_short_night : Stmt := top 10
theorem sc_short_night : FnScope ["counts", "closings", "stays", "night", "rooms", "kind"] ["counts", "closings", "stays"] (defScope s_short_night) := ⟨rfl, rfl, rfl, by decide +kernel, rfl, by decide +kernel, by decide +kernel⟩
abbrev s_law_cell : Stmt := top 12
theorem sc_law_cell : FnScope ["_law_script", "_law_k", "_law_more"] ["_law_script", "_law_k"] (defScope s_law_cell) := ⟨rfl, rfl, rfl, by decide +kernel, rfl, by decide +kernel, by decide +kernel⟩
abbrev s_law_whole : Stmt := top 13
theorem sc_law_whole : FnScope ["_law_found"] ["_law_found"] (defScope s_law_whole) := ⟨rfl, rfl, rfl, by decide +kernel, rfl, by decide +kernel, by decide +kernel⟩
abbrev s_law_wholes : Stmt := top 14
theorem sc_law_wholes : FnScope ["_law_found", "_law_one"] ["_law_found"] (defScope s_law_wholes) := ⟨rfl, rfl, rfl, by decide +kernel, rfl, by decide +kernel, by decide +kernel⟩
abbrev s_law_house_by : Stmt := top 15
theorem sc_law_house_by : FnScope ["_law_script", "_law_many", "_law_most", "_law_k"] ["_law_script"] (defScope s_law_house_by) := ⟨rfl, rfl, rfl, by decide +kernel, rfl, by decide +kernel, by decide +kernel⟩
abbrev s_law_kinds : Stmt := top 16
theorem sc_law_kinds : FnScope ["_law_counts", "_law_kinds_here", "_law_kind"] ["_law_counts"] (defScope s_law_kinds) := ⟨rfl, rfl, rfl, by decide +kernel, rfl, by decide +kernel, by decide +kernel⟩
abbrev s_law_at_least : Stmt := top 17
theorem sc_law_at_least : FnScope ["_law_kinds_here", "_law_kind", "_law_one"] ["_law_kinds_here", "_law_kind"] (defScope s_law_at_least) := ⟨rfl, rfl, rfl, by decide +kernel, rfl, by decide +kernel, by decide +kernel⟩
abbrev s_law_short : Stmt := top 18
theorem sc_law_short : FnScope ["_law_counts", "_law_rooms", "_law_wants_here", "_law_kinds_here", "_law_kind", "_law_room"] ["_law_counts", "_law_rooms", "_law_wants_here"] (defScope s_law_short) := ⟨rfl, rfl, rfl, by decide +kernel, rfl, by decide +kernel, by decide +kernel⟩
abbrev s_law_span_by : Stmt := top 19
theorem sc_law_span_by : FnScope ["_law_script", "_law_k", "_law_many", "_law_first", "_law_last"] ["_law_script", "_law_k", "_law_many"] (defScope s_law_span_by) := ⟨rfl, rfl, rfl, by decide +kernel, rfl, by decide +kernel, by decide +kernel⟩
abbrev s_law_spans_by : Stmt := top 20
theorem sc_law_spans_by : FnScope ["_law_script", "_law_k", "_law_count", "_law_many", "_law_found", "_law_one", "_law_number"] ["_law_script", "_law_k", "_law_count", "_law_many"] (defScope s_law_spans_by) := ⟨rfl, rfl, rfl, by decide +kernel, rfl, by decide +kernel, by decide +kernel⟩
abbrev s_law_wants : Stmt := top 21
theorem sc_law_wants : FnScope ["_law_stays", "_law_night", "_law_one"] ["_law_stays", "_law_night"] (defScope s_law_wants) := ⟨rfl, rfl, rfl, by decide +kernel, rfl, by decide +kernel, by decide +kernel⟩
abbrev s_law_open : Stmt := top 22
theorem sc_law_open : FnScope ["_law_counts", "_law_closings", "_law_night", "_law_shut", "_law_kinds_here", "_law_one", "_law_room"] ["_law_counts", "_law_closings", "_law_night"] (defScope s_law_open) := ⟨rfl, rfl, rfl, by decide +kernel, rfl, by decide +kernel, by decide +kernel⟩
abbrev s_law_due : Stmt := top 23
theorem sc_law_due : FnScope ["_law_counts", "_law_closings", "_law_stays", "_law_night", "_law_kind"] ["_law_counts", "_law_closings", "_law_stays"] (defScope s_law_due) := ⟨rfl, rfl, rfl, by decide +kernel, rfl, by decide +kernel, by decide +kernel⟩
abbrev s_law_right : Stmt := top 24
theorem sc_law_right : FnScope ["_law_counts", "_law_closings", "_law_stays", "_law_due_here", "_law_found"] ["_law_counts", "_law_closings", "_law_stays"] (defScope s_law_right) := ⟨rfl, rfl, rfl, by decide +kernel, rfl, by decide +kernel, by decide +kernel⟩
abbrev s_law : Stmt := top 25
theorem sc_law : FnScope ["_law_script", "_law_counts", "_law_stays", "_law_closings", "_law_handed", "_law_due_here", "_law_wants_here", "_law_fewer", "_law_one"] ["_law_script"] (defScope s_law) := ⟨rfl, rfl, rfl, by decide +kernel, rfl, by decide +kernel, by decide +kernel⟩
structure Tp (mg : Str → Option Value) : Prop where
  z_sum : mg "sum" = none
  z_max : mg "max" = none
  z_list : mg "list" = none
  z_range : mg "range" = none
  z_len : mg "len" = none
  z_sorted : mg "sorted" = none
  z_isinstance : mg "isinstance" = none
  z_int : mg "int" = none
  z_bool : mg "bool" = none
  z_all : mg "all" = none
  z_min : mg "min" = none
  z_dict : mg "dict" = none
  z_tuple : mg "tuple" = none
  g_NIGHTS : ∃ t, mg "NIGHTS" = some (.int 40 t)
/-! ### the program's houses -/
def sp_is_house (K : PySem.W.Frag) : Sp := fun vs H Q _ => ∃ (a : Addr) (cs : List Int), vs = [.ref a] ∧ SqL K H a (cs.map V.int) ∧ cs.length ≤ 1000 ∧ RetV (.bl (isHouse cs)) H Q
def sp_room_count (K : PySem.W.Frag) : Sp := fun vs H Q _ => ∃ (a : Addr) (cs : List Int), vs = [.ref a] ∧ SqL K H a (cs.map V.int) ∧ RetV (.int cs.sum) H Q
def sp_first_room (K : PySem.W.Frag) : Sp := fun vs H Q _ => ∃ (a : Addr) (cs : List Int) (k : Nat), vs = [.ref a, .int (k : Int)] ∧ SqL K H a (cs.map V.int) ∧ RetV (.int (cs.take k).sum) H Q
def onV : Option Nat → V
  | none => .non
  | some k => .int (k : Int)
def sp_kind_of (K : PySem.W.Frag) : Sp := fun vs H Q _ => ∃ (a : Addr) (cs : List Int) (r : Int), vs = [.ref a, .int r] ∧ SqL K H a (cs.map V.int) ∧ RetV (onV (kindGo r 0 0 cs)) H Q
def sp_rooms_of (K : PySem.W.Frag) : Sp := fun vs H Q _ => ∃ (a : Addr) (cs : List Int) (k : Int), vs = [.ref a, .int k] ∧ SqL K H a (cs.map V.int) ∧ House cs ∧ RetL ((roomsOf cs k).map V.int) H Q
theorem cutV_take (xs : List V) (k : Nat) : cutV xs none (some (k : Int)) = xs.take k := by
  unfold cutV
  rw [HT.sIx_none, HT.sIx_nat, Nat.sub_zero, List.drop_zero]
  by_cases h : k ≤ xs.length
  · rw [Nat.min_eq_left h]
  · rw [Nat.min_eq_right (by omega), List.take_of_length_le (Nat.le_refl _), List.take_of_length_le (by omega)]
section
variable {K : PySem.W.Frag} {H : Hp} {a : Addr} {cs : List Int}
theorem v_is_house (h : SqL K H a (cs.map V.int)) (hl : cs.length ≤ 1000) : SpV (sp_is_house K) [.ref a] H (.bl (isHouse cs)) := fun _ e _ q _ => ⟨a, cs, rfl, ex_l e h, hl, q⟩
theorem v_room_count (h : SqL K H a (cs.map V.int)) : SpV (sp_room_count K) [.ref a] H (.int cs.sum) := fun _ e _ q _ => ⟨a, cs, rfl, ex_l e h, q⟩
theorem v_first_room (h : SqL K H a (cs.map V.int)) (k : Nat) : SpV (sp_first_room K) [.ref a, .int (k : Int)] H (.int (cs.take k).sum) := fun _ e _ q _ => ⟨a, cs, k, rfl, ex_l e h, q⟩
theorem v_kind_of (h : SqL K H a (cs.map V.int)) (r : Int) : SpV (sp_kind_of K) [.ref a, .int r] H (onV (kindGo r 0 0 cs)) := fun _ e _ q _ => ⟨a, cs, r, rfl, ex_l e h, q⟩
theorem l_rooms_of (h : SqL K H a (cs.map V.int)) (hh : House cs) (k : Int) : SpL (sp_rooms_of K) [.ref a, .int k] H ((roomsOf cs k).map V.int) := fun _ e _ q _ => ⟨a, cs, k, rfl, ex_l e h, hh, q⟩
end
section
variable {P : Program} {w : World} {K : PySem.W.Frag} {mg : Str → Option Value} {base : Heap}
theorem cal_first_room (D : Dn K mg "first_room" s_first_room ["counts", "kind"]) (T : Tp mg) : Cal P w K mg base "first_room" 1 ["counts", "kind"] (sp_first_room K) := by
  refine cal_of D sc_first_room (fun vs H Q E h => ?_) (fun f cdv A outer s H vs Q E hr h => ?_)
  · obtain ⟨a, cs, n, rfl, _⟩ := h
    rfl
  · obtain ⟨a, cs, n, rfl, hS, k⟩ := h
    refine ⟨_, (pss_one (ps_ret (pe_callB (r := rSum K) (cr_sum rfl) (by rfl) T.z_sum (by decide +kernel) (pa_cons (pe_slice (r := rSlL K) sl_list (pv 0) po_none (po_some (pe_callB (call_max2 rfl) (by rfl) T.z_max (by decide +kernel) (pa_cons pe_int (pa_cons (pv 1) pa_nil))))) pa_nil)))), ?_⟩
    have hm : (if (n : Int) > 0 then (n : Int) else 0) = (n : Int) := by split <;> omega
    refine s_ret (ev_sumN (el_is (el_sl (ev_var rfl) eo_none (eo_some (ev_of (ev_max2 ev_c (ev_var rfl)) (congrArg V.int hm))) hS) ?_)) k
    rw [cutV_take, List.map_take]
theorem cal_rooms_of (D : Dn K mg "rooms_of" s_rooms_of ["counts", "kind"]) (T : Tp mg) (C_first_room : Cal P w K mg base "first_room" 1 ["counts", "kind"] (sp_first_room K)) : Cal P w K mg base "rooms_of" 2 ["counts", "kind"] (sp_rooms_of K) := by
  refine cal_of D sc_rooms_of (fun vs H Q E h => ?_) (fun f cdv A outer s H vs Q E hr h => ?_)
  · obtain ⟨a, cs, n, rfl, _⟩ := h
    rfl
  · obtain ⟨a, cs, n, rfl, hS, hh, k⟩ := h
    refine ⟨_, (pss_cons (ps_if (pt_not (pt_chain op_le op_lt pe_int (pv 1) (pe_callB (r := rLenS K) call_len_seq (by rfl) T.z_len (by decide +kernel) (pa_cons (pv 0) pa_nil)))) (pss_one (ps_ret (pe_lst pa_nil))) pss_nil) (pss_cons (ps_set (i := 2) sc_rooms_of.nd rfl (.inl rfl) (pe_cal C_first_room (hr.mono (by decide)) (by rfl) (pa_cons (pv 0) (pa_cons (pv 1) pa_nil)))) (pss_one (ps_ret (pe_listRg rfl (by rfl) T.z_list (prg_2 (by rfl) T.z_range (pv 2) (pe_op op_add (pv 2) (pe_ix (r := rIxL K) ix_list (pv 0) (pv 1) (fun _ _ => rfl))))))))), ?_⟩
    refine q_when (et_not (et_test (ev_chainI ev_c (ev_var rfl) (ev_len' (ev_var rfl) hS)))) (fun hb H1 e1 => ?_) (fun hb H1 e1 => ?_)
    · refine s_retL el_nil fun p H2 hp e2 h2 => ?_
      rw [List.length_map] at hb
      have hb : ¬ (0 ≤ n ∧ n < cs.length) := by
        intro ⟨z1, z2⟩
        rw [decide_eq_true z1, decide_eq_true z2] at hb
        exact absurd hb (by decide)
      have er : roomsOf cs n = [] := if_neg hb
      rw [er] at k
      exact k.go e1 hp e2 h2
    · rw [List.length_map] at hb
      have hb : 0 ≤ n ∧ n < cs.length := by simpa using not_f hb
      obtain ⟨j, rfl⟩ : ∃ j : Nat, n = (j : Int) := ⟨n.toNat, by omega⟩
      have hj : j < cs.length := by omega
      refine q_asg (ev_call0 (ea_2 (ev_var rfl) (ev_var rfl)) (v_first_room (ex_l e1 hS) j)) fun H2 e2 => ?_
      have hi : atI (cs.map V.int) (j : Int) = some (.int cs[j]) := atI_nat (by rw [List.getElem?_map, List.getElem?_eq_getElem hj]; rfl)
      have hcj := hh.ok cs[j] (List.getElem_mem hj)
      have h1 := take_sum_le cs j hh.nn
      have h2 := sum_le9 cs fun c hc => (hh.ok c hc).2
      have h3 := hh.le
      refine s_retL (el_is (ys := (roomsOf cs (j : Int)).map V.int) (el_rg (ev_var rfl) (ev_add (ev_var rfl) (ev_ixL (ev_var rfl) (ev_var rfl) (ex_l (e1.trans e2) hS) hi)) (.of_le (by omega) (by omega) (by omega) (by omega))) ?_) fun p H3 hp e3 h3 => ?_
      · unfold rgV roomsOf
        rw [if_pos hb, List.map_map, Int.toNat_natCast, List.getD_eq_getElem?_getD, List.getElem?_eq_getElem hj]
        show List.map _ (List.range ((cs.take j).sum + cs[j] - (cs.take j).sum).toNat) = List.map _ (List.range cs[j].toNat)
        rw [show (cs.take j).sum + cs[j] - (cs.take j).sum = cs[j] by omega]
        rfl
      · exact k.go (e1.trans e2) hp e3 h3
end

/-! ### the program's needs -/
def sp_is_span (K : PySem.W.Frag) : Sp := fun vs H Q _ => ∃ (a : Addr) (cs : List Int) (f l k : Int), vs = [.ref a, .int f, .int l, .int k] ∧ SqL K H a (cs.map V.int) ∧ RetV (.bl (isSpan cs f l k)) H Q
def sp_kinds_on : Sp := fun vs H Q _ => ∃ (d : Addr) (l : List Ent) (n : Int), vs = [.ref d, .int n] ∧ Sps H d l ∧ l.length < 64 ∧ RetD ((kindsOn l n).map kvI) H Q
def sp_rooms_on (K : PySem.W.Frag) : Sp := fun vs H Q _ => ∃ (a : Addr) (cs : List Int) (d : Addr) (l : List Ent) (n : Int), vs = [.ref a, .ref d, .int n] ∧ SqL K H a (cs.map V.int) ∧ House cs ∧ Sps H d l ∧ l.length < 64 ∧ RetL ((roomsOn cs ((kindsOn l n).map (·.2))).map V.int) H Q
section
variable {K : PySem.W.Frag} {H : Hp} {a d : Addr} {cs : List Int} {l : List Ent}
theorem v_is_span (h : SqL K H a (cs.map V.int)) (f l k : Int) : SpV (sp_is_span K) [.ref a, .int f, .int l, .int k] H (.bl (isSpan cs f l k)) := fun _ e _ q _ => ⟨a, cs, f, l, k, rfl, ex_l e h, q⟩
theorem d_kinds_on (h : Sps H d l) (hl : l.length < 64) (n : Int) : SpD sp_kinds_on [.ref d, .int n] H ((kindsOn l n).map kvI) := fun _ e _ q _ => ⟨d, l, n, rfl, h.mono e, hl, q⟩
theorem l_rooms_on (h : SqL K H a (cs.map V.int)) (hh : House cs) (hd : Sps H d l) (hl : l.length < 64) (n : Int) : SpL (sp_rooms_on K) [.ref a, .ref d, .int n] H ((roomsOn cs ((kindsOn l n).map (·.2))).map V.int) := fun _ e _ q _ => ⟨a, cs, d, l, n, rfl, ex_l e h, hh, hd.mono e, hl, q⟩
end
theorem filter_snoc_t {α : Type} {f : α → Bool} {l : List α} {i : Nat} {x : α} (h : l[i]? = some x) (hf : f x = true) : (l.take (i + 1)).filter f = (l.take i).filter f ++ [x] := by
  rw [take_snoc h, List.filter_append, List.filter_cons, if_pos hf]
  rfl
theorem filter_snoc_f {α : Type} {f : α → Bool} {l : List α} {i : Nat} {x : α} (h : l[i]? = some x) (hf : f x = false) : (l.take (i + 1)).filter f = (l.take i).filter f := by
  rw [take_snoc h, List.filter_append, List.filter_cons, if_neg (by rw [hf]; decide)]
  exact List.append_nil _
section
variable {P : Program} {w : World} {K : PySem.W.Frag} {mg : Str → Option Value} {base : Heap}
theorem cal_kinds_on (D : Dn K mg "kinds_on" s_kinds_on ["spans", "night"]) (T : Tp mg) : Cal P w K mg base "kinds_on" 1 ["spans", "night"] sp_kinds_on := by
  refine cal_of D sc_kinds_on (fun vs H Q E h => ?_) (fun f cdv A outer s H vs Q E hr h => ?_)
  · obtain ⟨d, l, n, rfl, _⟩ := h
    rfl
  · obtain ⟨d, l, n, rfl, S, hl, k⟩ := h
    refine ⟨_, (pss_cons (ps_if (pt_not (pt_chain op_le op_lt pe_int (pv 1) (pe_glob (v := .int 40) rfl T.g_NIGHTS.choose_spec ⟨_, rfl⟩))) (pss_one (ps_ret pe_dnewK)) pss_nil) (pss_cons (ps_set (i := 2) sc_kinds_on.nd rfl (.inl rfl) pe_dnewK) (pss_cons (ps_for PassesOwn.never rfl (pi_list (pe_callB (call_sortedDI rfl) (by rfl) T.z_sorted (by decide +kernel) (pa_cons (pv 0) pa_nil))) (pg_name (i := 3) sc_kinds_on.nd rfl (.inl rfl)) (pss_cons (ps_asg (pe_dget (hu_of hr) (pv 0) (pv 3) (fun _ _ => rfl)) (pg_tup rfl (pgs_cons (pg_name (i := 4) sc_kinds_on.nd rfl (.inl rfl)) (pgs_cons (pg_name (i := 5) sc_kinds_on.nd rfl (.inl rfl)) (pgs_cons (pg_name (i := 6) sc_kinds_on.nd rfl (.inl rfl)) pgs_nil))))) (pss_one (ps_if (pt_chain op_le op_lt (pv 4) (pv 1) (pv 5)) (pss_one (ps_dput (hu_of hr) (pv 2) (pv 3) (pv 6) rfl)) pss_nil)))) (pss_one (ps_ret (pv 2)))))), ?_⟩
    refine q_when (et_not (et_test (ev_chainI ev_c (ev_var rfl) ev_c))) (fun hb H1 e1 => ?_) (fun hb H1 e1 => ?_)
    · refine s_retD ed_new fun p H2 hp e2 h2 => ?_
      have hn : ¬ (0 ≤ n ∧ n < 40) := fun ⟨z1, z2⟩ => by
        rw [decide_eq_true z1, decide_eq_true z2] at hb
        exact absurd hb (by decide)
      have e : kindsOn l n = [] := if_neg hn
      rw [e] at k
      exact k.go e1 hp e2 h2
    · have hn : 0 ≤ n ∧ n < 40 := by simpa using not_f hb
      have ek : kindsOn l n = wantsL l n := if_pos hn
      rw [ek] at k
      have nd := wants_nodup S.nd n
      refine q_asgD ed_new fun p H2 hp e2 h2 => ?_
      have S2 := S.mono (e1.trans e2)
      have hp0 := fresh_back e1 hp
      have hnd : p ≠ d := fun z => by
        rw [z, S.dc] at hp0
        cases hp0
      have wl := wants_len l n
      refine q_forNLn (el_sortD (ks := nums l) (ev_var rfl) S2.dc (kv_keys l) (by unfold nums; rw [List.length_map]; exact hl))
        (fun q i σ' H' => ∃ y3 y4 y5 y6, σ' = [some (.ref d), some (.int n), some (.ref p), y3, y4, y5, y6] ∧ Ex H H' ∧ H' q = some (.lst ((sortI (nums l)).map V.int)) ∧ p ≠ q ∧ H' p = some (.dK (((((sortI (nums l)).take i).filter (actN l n)).map fun m => (m, kindN l m)).map kvI)))
        (fun q H3 hq e3 h3 => ⟨none, none, none, none, rfl, (e1.trans e2).trans e3, h3, (fun z => by rw [← z, h2] at hq; cases hq), e3 _ _ h2⟩) (fun q i σ' H' _ ⟨_, _, _, _, _, _, hq, _, _⟩ => sq_of hq) ?_ ?_
      · rintro q i x σ' H3 hx ⟨y3, y4, y5, y6, rfl, e3, hq, hpq, hP⟩
        rw [List.getElem?_map] at hx
        cases hm : (sortI (nums l))[i]? with
        | none =>
          rw [hm] at hx
          cases hx
        | some m =>
          rw [hm] at hx
          have ex : V.int m = x := Option.some.inj hx
          subst ex
          obtain ⟨e, he, hmem, hnum⟩ := look_some (sortI_mem.mp (List.mem_of_getElem? hm))
          have S3 := S.mono e3
          have hv : valV (l.map Ent.kv) (Sum.inl m : Key) = some (.ref e.at_) := by rw [look_val, he]; rfl
          refine q_asg3 (ev_dget (ev_var rfl) (ev_var rfl) S3.dc hv) (S3.tp e hmem) fun H4 e4 => ?_
          have ha : actN l n m = act n e := by
            unfold actN
            rw [he]
          have hk : kindN l m = e.kind := by
            unfold kindN
            rw [he]
          refine s_when (et_test (ev_chainI (ev_var rfl) (ev_var rfl) (ev_var rfl))) (fun hb H5 e5 => ?_) (fun hb H5 e5 => ?_)
          · have hb : actN l n m = true := ha.trans hb
            have h5 := (e4.trans e5) _ _ hP
            refine s_dput (ev_var rfl) (ev_var rfl) (ev_var rfl) h5 ?_ fun H6 e6 => ?_
            · rw [List.length_map, List.length_map]
              refine Nat.lt_of_le_of_lt (List.length_filter_le _ _) ?_
              rw [List.length_take, sortI_len]
              unfold nums
              rw [List.length_map]
              omega
            · have e36 := (e4.trans e5).trans e6
              refine ⟨_, _, _, _, rfl, Ex.mut (e3.trans e36) hp0, ?_, hpq, ?_⟩
              · rw [upd_ne hpq.symm]
                exact e36 _ _ hq
              · rw [upd_same, filter_snoc_t hm hb, List.map_append, List.map_append]
                have nn : (Sum.inl m : Key) ∉ (((((sortI (nums l)).take i).filter (actN l n)).map fun m => (m, kindN l m)).map kvI).map (·.1) := fun z => by
                  rw [List.map_map, List.map_map] at z
                  obtain ⟨m', h1, h2⟩ := List.mem_map.mp z
                  have e7 : m' = m := Sum.inl.inj h2
                  subst e7
                  obtain ⟨h3, _⟩ := List.mem_filter.mp h1
                  obtain ⟨j, hj⟩ := List.mem_iff_getElem?.mp h3
                  have hlt : j < i := by
                    have := (List.getElem?_eq_some_iff.mp hj).1
                    rw [List.length_take] at this
                    omega
                  rw [List.getElem?_take_of_lt hlt] at hj
                  have := nd_ix (sortI_nodup S.nd) hj hm
                  omega
                rw [putK_new _ (valV_none nn)]
                show some (HO.dK (_ ++ [(Sum.inl m, V.int e.kind)])) = some (HO.dK (_ ++ [(Sum.inl m, V.int (kindN l m))]))
                rw [hk]
          · have hb : actN l n m = false := ha.trans hb
            refine ⟨_, _, _, _, rfl, (e3.trans e4).trans e5, (e4.trans e5) _ _ hq, hpq, ?_⟩
            rw [filter_snoc_f hm hb]
            exact (e4.trans e5) _ _ hP
      · rintro q σ' H3 ⟨y3, y4, y5, y6, rfl, e3, hq, hpq, hP⟩
        rw [List.length_map, List.take_length] at hP
        exact s_ret (ev_var rfl) fun H4 e4 => k p H4 hp0 (e3.trans e4) (e4 _ _ hP)
theorem cal_wants_on (D : Dn K mg "wants_on" s_wants_on ["stays", "night"]) (T : Tp mg) (C_kinds_on : Cal P w K mg base "kinds_on" 1 ["spans", "night"] sp_kinds_on) : Cal P w K mg base "wants_on" 2 ["stays", "night"] sp_kinds_on := by
  refine cal_of D sc_wants_on (fun vs H Q E h => ?_) (fun f cdv A outer s H vs Q E hr h => ?_)
  · obtain ⟨d, l, n, rfl, _⟩ := h
    rfl
  · obtain ⟨d, l, n, rfl, S, hl, k⟩ := h
    refine ⟨_, (pss_one (ps_ret (pe_cal C_kinds_on (hr.mono (by decide)) (by rfl) (pa_cons (pv 0) (pa_cons (pv 1) pa_nil))))), ?_⟩
    exact s_retD (ed_call0 (ea_2 (ev_var rfl) (ev_var rfl)) (d_kinds_on S hl n)) k
theorem cal_rooms_on (D : Dn K mg "rooms_on" s_rooms_on ["counts", "closings", "night"]) (T : Tp mg) (C_kinds_on : Cal P w K mg base "kinds_on" 1 ["spans", "night"] sp_kinds_on) (C_rooms_of : Cal P w K mg base "rooms_of" 2 ["counts", "kind"] (sp_rooms_of K)) :
    Cal P w K mg base "rooms_on" 3 ["counts", "closings", "night"] (sp_rooms_on K) := by
  refine cal_of D sc_rooms_on (fun vs H Q E h => ?_) (fun f cdv A outer s H vs Q E hr h => ?_)
  · obtain ⟨a, cs, d, l, n, rfl, _⟩ := h
    rfl
  · obtain ⟨a, cs, d, l, n, rfl, hS, hh, S, hl, k⟩ := h
    refine ⟨_, (pss_cons (ps_set (i := 3) sc_rooms_on.nd rfl (.inl rfl) (pe_listVals rfl (pe_cal C_kinds_on (hr.mono (by decide)) (by rfl) (pa_cons (pv 1) (pa_cons (pv 2) pa_nil))) (by rfl) T.z_list)) (pss_cons (ps_set (i := 4) sc_rooms_on.nd rfl (.inl rfl) (pe_lst pa_nil)) (pss_cons (ps_for PassesOwn.never rfl (pi_range1 (by rfl) T.z_range (pa_cons (pe_callB (r := rLenS K) call_len_seq (by rfl) T.z_len (by decide +kernel) (pa_cons (pv 0) pa_nil)) pa_nil)) (pg_name (i := 5) sc_rooms_on.nd rfl (.inl rfl)) (pss_one (ps_if (pt_cmpR (r := rIn K true) op_notIn_seq (pv 5) (pv 3) (by rfl)) (pss_one (ps_expr (pe_bm PySem.F.plainAttrs_list PySem.F.slot_list_extend PySem.F.type_list_extend mt_extend (pv 4) (pa_cons (pe_cal C_rooms_of (hr.mono (by decide)) (by rfl) (pa_cons (pv 0) (pa_cons (pv 5) pa_nil))) pa_nil)))) pss_nil))) (pss_one (ps_ret (pv 4)))))), ?_⟩
    have hle := hh.le
    generalize hcl : (kindsOn l n).map (·.2) = cl at k
    refine q_asgL (el_is (ys := cl.map V.int) (el_valsN (ed_call0 (ea_2 (ev_var rfl) (ev_var rfl)) (d_kinds_on S hl n))) ?_) fun p H1 hp e1 h1 => ?_
    · rw [← hcl, List.map_map, List.map_map]
      rfl
    refine q_asgL el_nil fun q H2 hq e2 h2 => ?_
    have hqp : p ≠ q := fun z => by
      rw [← z, h1] at hq
      cases hq
    refine q_forR1 (n := (cs.length : Int)) (ea_1 (ev_of (ev_len' (ev_var rfl) (ex_l (e1.trans e2) hS)) (by rw [List.length_map]))) ⟨by omega, by omega⟩
      (fun i σ' H' => ∃ y5, σ' = [some (.ref a), some (.ref d), some (.int n), some (.ref p), some (.ref q), y5] ∧ Ex H1 H' ∧ H' q = some (.lst (((List.range i).flatMap fun k : Nat => if (k : Int) ∈ cl then [] else roomsOf cs (k : Int)).map V.int)))
      (fun H3 e3 => ⟨none, rfl, e2.trans e3, e3 _ _ h2⟩) ?_ ?_
    · rintro i σ' H3 hi ⟨y5, rfl, e3, h3⟩
      have hi : i < cs.length := by omega
      have es : (List.range (i + 1)).flatMap (fun k : Nat => if (k : Int) ∈ cl then [] else roomsOf cs (k : Int)) = (List.range i).flatMap (fun k : Nat => if (k : Int) ∈ cl then [] else roomsOf cs (k : Int)) ++ (if (i : Int) ∈ cl then [] else roomsOf cs (i : Int)) := by
        rw [List.range_succ, List.flatMap_append, List.flatMap_cons]
        simp
      refine s_when (et_test (ev_niI (ev_var rfl) (ev_var rfl) (sq_of (e3 _ _ h1)))) (fun hb H4 e4 => ?_) (fun hb H4 e4 => ?_)
      · have hb : ¬ (i : Int) ∈ cl := of_decide_eq_false (not_t hb)
        rw [if_neg hb] at es
        have hlen : ∀ j : Nat, j ≤ cs.length → ((List.range j).flatMap fun k : Nat => if (k : Int) ∈ cl then [] else roomsOf cs (k : Int)).length ≤ 54 := fun j hj => by
          have h54 := roomsOn_take_len hh cl
          unfold roomsOn at h54
          obtain ⟨m, hm⟩ : ∃ m, cs.length = j + m := ⟨cs.length - j, by omega⟩
          rw [hm, List.range_add, List.flatMap_append, List.length_append] at h54
          omega
        have hz := hlen (i + 1) (by omega)
        rw [es, List.length_append] at hz
        refine s_ext (e4 _ _ h3) (ev_var rfl) (el_call0 (ea_2 (ev_var rfl) (ev_var rfl)) (l_rooms_of (ex_l ((e1.trans e3).trans e4) hS) hh (i : Int))) (by rw [List.length_map, List.length_map]; omega) fun H5 e5 => ?_
        refine ⟨_, rfl, Ex.mut ((e3.trans e4).trans e5) hq, ?_⟩
        rw [upd_same, es, List.map_append]
      · have hb : (i : Int) ∈ cl := of_decide_eq_true (not_f hb)
        rw [if_pos hb, List.append_nil] at es
        exact ⟨_, rfl, e3.trans e4, by rw [es]; exact e4 _ _ h3⟩
    · rintro σ' H3 ⟨y5, rfl, e3, h3⟩
      rw [Int.toNat_natCast] at h3
      exact s_ret (ev_var rfl) fun H4 e4 => k q H4 (fresh_back e1 hq) ((e1.trans e3).trans e4) (e4 _ _ h3)
end

/-! ### the program's short kind -/
def sp_lacking (K : PySem.W.Frag) : Sp := fun vs H Q _ => ∃ (a : Addr) (cs : List Int) (b : Addr) (rs : List Int) (d : Addr) (kvs : List (Key × V)) (ws : List Int) (n : Nat), vs = [.ref a, .ref b, .ref d, .int (n : Int)] ∧ SqL K H a (cs.map V.int) ∧ SqL K H b (rs.map V.int) ∧ rs.length ≤ 1000 ∧
  H d = some (.dK kvs) ∧ kvs.map (·.2) = ws.map V.int ∧ ws.length ≤ 1000 ∧ RetV (.int ((atLeast ws (n : Int) : Int) - (atLeast rs (cs.take n).sum : Int))) H Q
section
variable {P : Program} {w : World} {K : PySem.W.Frag} {mg : Str → Option Value} {base : Heap}
theorem v_lacking {H : Hp} {a b d : Addr} {cs rs ws : List Int} {kvs : List (Key × V)} (hS : SqL K H a (cs.map V.int)) (hR : SqL K H b (rs.map V.int)) (hrl : rs.length ≤ 1000) (hd : H d = some (.dK kvs)) (hv : kvs.map (·.2) = ws.map V.int) (hw : ws.length ≤ 1000) (n : Nat) :
    SpV (sp_lacking K) [.ref a, .ref b, .ref d, .int (n : Int)] H (.int ((atLeast ws (n : Int) : Int) - (atLeast rs (cs.take n).sum : Int))) := fun _ e _ q _ => ⟨a, cs, b, rs, d, kvs, ws, n, rfl, ex_l e hS, ex_l e hR, hrl, e _ _ hd, hv, hw, q⟩
theorem cal_lacking (D : Dn K mg "lacking" s_lacking ["counts", "rooms", "wants", "kind"]) (T : Tp mg) (C_first_room : Cal P w K mg base "first_room" 1 ["counts", "kind"] (sp_first_room K)) : Cal P w K mg base "lacking" 2 ["counts", "rooms", "wants", "kind"] (sp_lacking K) := by
  refine cal_of D sc_lacking (fun vs H Q E h => ?_) (fun f cdv A outer s H vs Q E hr h => ?_)
  · obtain ⟨a, cs, b, rs, d, kvs, ws, n, rfl, _⟩ := h
    rfl
  · obtain ⟨a, cs, b, rs, d, kvs, ws, i, rfl, hS, hR, hrl, hd, hv, hw, k⟩ := h
    refine ⟨_, (pss_cons (ps_set (i := 4) sc_lacking.nd rfl (.inr rfl) (pe_cal C_first_room (hr.mono (by decide)) (by rfl) (pa_cons (pv 0) (pa_cons (pv 3) pa_nil)))) (pss_cons (ps_setLc (i := 5) (own := [("room", 7)]) (g := gName 7) (by rfl) sc_lacking.nd rfl rfl (sw_true rfl rfl rfl (by decide +kernel)) (pi_list (pv 1)) (blkOk_by (own := [("room", 7)]) (N := ["counts", "rooms", "wants", "kind", "start", "good", "wanted", "room", "want"]) (sc := defScope s_lacking) (by decide +kernel)) (fun _ _ _ _ _ => pg_name (i := 7) sc_lacking.nd rfl (Or.inl rfl)) (fun _ _ _ _ _ => (pts_one (pt_cmpR op_ge (pv 7) (pv 4) (nomark _)))) (fun _ _ _ _ _ => (pv 7))) (pss_cons (ps_lock (ps_setLc (i := 6) (own := [("want", 8)]) (g := gName 8) (by rfl) sc_lacking.nd rfl rfl (sw_true rfl rfl rfl (by decide +kernel)) (pi_values (pv 2)) (blkOk_by (own := [("want", 8)]) (N := ["counts", "rooms", "wants", "kind", "start", "good", "wanted", "room", "want"]) (sc := defScope s_lacking) (by decide +kernel)) (fun _ _ _ _ _ => pg_name (i := 8) sc_lacking.nd rfl (Or.inl rfl)) (fun _ _ _ _ _ => (pts_one (pt_cmpR op_ge (pv 8) (pv 3) (nomark _)))) (fun _ _ _ _ _ => (pv 8)))) (pss_one (ps_ret (pe_op op_sub (pe_callB (r := rLenS K) call_len_seq (by rfl) T.z_len (by decide +kernel) (pa_cons (pv 6) pa_nil)) (pe_callB (r := rLenS K) call_len_seq (by rfl) T.z_len (by decide +kernel) (pa_cons (pv 5) pa_nil)))))))), ?_⟩
    refine q_asg (ev_call0 (ea_2 (ev_var rfl) (ev_var rfl)) (v_first_room hS i)) fun H2 e2 => ?_
    refine q_asgL (el_lcA rs V.int (fun r => decide ((cs.take i).sum ≤ r)) V.int (ev_var rfl) (ex_l e2 hR) (by omega) (fun _ => rfl) (fun x _ H3 _ => et_test (ev_cmp (ev_var rfl) (ev_var rfl))) (fun x _ _ H3 _ => ev_var rfl)) fun p H3 hp e3 h3 => ?_
    have e03 := e2.trans e3
    refine q_asgLV ws V.int (fun x => decide ((i : Int) ≤ x)) V.int (e03 _ _ hd) hv (by omega) (fun _ => rfl) (fun od => ev_var rfl) (fun od x _ => et_test (ev_cmp (ev_var rfl) (ev_var rfl))) (fun od x _ _ => ev_var rfl) fun q H4 hq e4 h4 => ?_
    refine s_ret (ev_of (ev_sub (ev_len' (ev_var rfl) (sq_of h4)) (ev_len' (ev_var rfl) (sq_of (e4 _ _ h3)))) ?_) fun H5 e5 => k H5 ((e03.trans e4).trans e5)
    rw [List.length_map, List.length_map]
    rfl
end

def sp_short_kind (K : PySem.W.Frag) : Sp := fun vs H Q _ => ∃ (a : Addr) (cs : List Int) (b : Addr) (rs : List Int) (d : Addr) (kvs : List (Key × V)) (ws : List Int), vs = [.ref a, .ref b, .ref d] ∧ SqL K H a (cs.map V.int) ∧ cs.length ≤ 6 ∧ SqL K H b (rs.map V.int) ∧ rs.length ≤ 1000 ∧
  H d = some (.dK kvs) ∧ kvs.map (·.2) = ws.map V.int ∧ ws.length ≤ 1000 ∧ RetV (onV (shortP cs rs ws)) H Q
section
variable {P : Program} {w : World} {K : PySem.W.Frag} {mg : Str → Option Value} {base : Heap}
theorem cal_short_kind (D : Dn K mg "short_kind" s_short_kind ["counts", "rooms", "wants"]) (T : Tp mg) (C_lacking : Cal P w K mg base "lacking" 2 ["counts", "rooms", "wants", "kind"] (sp_lacking K)) : Cal P w K mg base "short_kind" 3 ["counts", "rooms", "wants"] (sp_short_kind K) := by
  refine cal_of D sc_short_kind (fun vs H Q E h => ?_) (fun f cdv A outer s H vs Q E hr h => ?_)
  · obtain ⟨a, cs, b, rs, d, kvs, ws, rfl, _⟩ := h
    rfl
  · obtain ⟨a, cs, b, rs, d, kvs, ws, rfl, hS, hc, hR, hrl, hd, hv, hw, k⟩ := h
    refine ⟨_, (pss_cons (ps_for PassesOwn.never rfl (pi_range1 (by rfl) T.z_range (pa_cons (pe_callB (r := rLenS K) call_len_seq (by rfl) T.z_len (by decide +kernel) (pa_cons (pv 0) pa_nil)) pa_nil)) (pg_name (i := 3) sc_short_kind.nd rfl (.inl rfl)) (pss_one (ps_if (pt_cmpR op_gt (pe_cal C_lacking (hr.mono (by decide)) (by rfl) (pa_cons (pv 0) (pa_cons (pv 1) (pa_cons (pv 2) (pa_cons (pv 3) pa_nil))))) pe_int (nomark _)) (pss_one (ps_ret (pv 3))) pss_nil))) (pss_one (ps_ret pe_non))), ?_⟩
    refine q_forR1 (n := (cs.length : Int)) (ea_1 (ev_of (ev_len' (ev_var rfl) hS) (by rw [List.length_map]))) ⟨by omega, by omega⟩
      (fun i σ' H' => ∃ y3, σ' = [some (.ref a), some (.ref b), some (.ref d), y3] ∧ Ex H H' ∧ ∀ j, j < i → decide (atLeast rs (cs.take j).sum < atLeast ws (j : Int)) = false)
      (fun H1 e1 => ⟨none, rfl, e1, fun j hj => absurd hj (Nat.not_lt_zero j)⟩) ?_ ?_
    · rintro i σ' H1 hi ⟨y3, rfl, e1, hn⟩
      have e34 : decide ((0 : Int) < (atLeast ws (i : Int) : Int) - (atLeast rs (cs.take i).sum : Int)) = decide (atLeast rs (cs.take i).sum < atLeast ws (i : Int)) := decide_eq_decide.mpr ⟨fun h => by omega, fun h => by omega⟩
      refine s_when (et_test (ev_cmp (ev_call0 (ea_cons (ev_var rfl) (ea_3 (ev_var rfl) (ev_var rfl) (ev_var rfl))) (v_lacking (ex_l e1 hS) (ex_l e1 hR) hrl (e1 _ _ hd) hv hw i)) ev_c)) (fun hb H5 e5 => ?_) (fun hb H5 e5 => ?_)
      · have hb := e34.symm.trans hb
        refine s_ret (ev_var rfl) fun H6 e6 => ?_
        have es : shortP cs rs ws = some i := find_range (by omega) hb hn
        rw [es] at k
        exact k H6 ((e1.trans e5).trans e6)
      · have hb := e34.symm.trans hb
        refine ⟨_, rfl, e1.trans e5, fun j hj => ?_⟩
        by_cases q : j = i
        · subst q
          exact hb
        · exact hn j (by omega)
    · rintro σ' H1 ⟨y3, rfl, e1, hn⟩
      rw [Int.toNat_natCast] at hn
      have es : shortP cs rs ws = none := find_range_none hn
      rw [es] at k
      exact s_ret ev_c fun H2 e2 => k H2 (e1.trans e2)
end

/-! ### the law's helpers: cells, whole numbers -/
def cellM (ns : List Int) (k : Int) : Int := if ns = [] then k * 7919 else (k * 7919 + k / (ns.length : Int) * 104729 + ns.getD (k % (ns.length : Int)).toNat 0 * 48271) % 1000003
def cell (ns : List Int) (k : Int) : Int := (cellM ns k * cellM ns k / 11 + 13 * cellM ns k) % 1000003
theorem cell_bd (ns : List Int) (k : Int) : 0 ≤ cell ns k ∧ cell ns k < 1000003 := ⟨Int.emod_nonneg _ (by decide), Int.emod_lt_of_pos _ (by decide)⟩
def sp_cell (K : PySem.W.Frag) : Sp := fun vs H Q _ => ∃ (a : Addr) (ns : List Int) (k : Int), vs = [.ref a, .int k] ∧ SqL K H a (ns.map V.int) ∧ ns.length ≤ 63 ∧ 0 ≤ k ∧ k < 10000 ∧ RetV (.int (cell ns k)) H Q
def sp_whole (K : PySem.W.Frag) : Sp := fun vs H Q _ => ∃ (x : V), vs = [x] ∧ (((∃ n, x = .int n) ∧ RetV (.bl true) H Q) ∨ (x = .non ∧ RetV (.bl false) H Q))
def sp_wholes (K : PySem.W.Frag) : Sp := fun vs H Q _ => ∃ (a : Addr) (ns : List Int), vs = [.ref a] ∧ H a = some (.lst (ns.map V.int)) ∧ ns.length ≤ 1000 ∧ RetV (.bl true) H Q
section
variable {K : PySem.W.Frag} {H : Hp} {a : Addr} {ns : List Int}
theorem v_cell (h : SqL K H a (ns.map V.int)) (hl : ns.length ≤ 63) {k : Int} (h0 : 0 ≤ k) (h1 : k < 10000) : SpV (sp_cell K) [.ref a, .int k] H (.int (cell ns k)) := fun _ e _ q _ => ⟨a, ns, k, rfl, ex_l e h, hl, h0, h1, q⟩
theorem v_whole {n : Int} : SpV (sp_whole K) [.int n] H (.bl true) := fun _ e _ q _ => ⟨_, rfl, .inl ⟨⟨n, rfl⟩, q⟩⟩
theorem v_wholes (h : H a = some (.lst (ns.map V.int))) (hl : ns.length ≤ 1000) : SpV (sp_wholes K) [.ref a] H (.bl true) := fun _ e _ q _ => ⟨a, ns, rfl, e _ _ h, hl, q⟩
end
section
variable {K : PySem.W.Frag} {σ : L2.St} {H : Hp} {a : Addr} {ns : List Int} {tk : TE}
theorem ev_cell {k : Int} {i : Nat} (hS : SqL K H a (ns.map V.int)) (hl : ns.length ≤ 63) (hv : σ[i]? = some (some (.ref a))) (hk : Ev tk σ H (.int k)) (h0 : 0 ≤ k) (h1 : k < 10000) :
    Ev (tCall (sp_cell K) [] E0 (tCons (tVar i) (tCons tk tNil))) σ H (.int (cell ns k)) := ev_call0 (ea_2 (ev_var hv) hk) (v_cell hS hl h0 h1)
theorem mod_bd (z : Int) {m : Int} (h : 0 < m) : 0 ≤ z % m ∧ z % m < m := ⟨Int.emod_nonneg _ (Int.ne_of_gt h), Int.emod_lt_of_pos _ h⟩
theorem atI_in {xs : List V} {z : Int} (h0 : 0 ≤ z) (h1 : z < (xs.length : Int)) : ∃ v, v ∈ xs ∧ atI xs z = some v := by
  have hlt : z.toNat < xs.length := by omega
  refine ⟨xs[z.toNat], List.getElem_mem hlt, ?_⟩
  have e : z = ((z.toNat : Nat) : Int) := by omega
  conv => lhs; rw [e]
  exact atI_nat (List.getElem?_eq_getElem hlt)
theorem atI_ints {ns : List Int} {z : Int} (h0 : 0 ≤ z) (h1 : z < (ns.length : Int)) : ∃ n, n ∈ ns ∧ atI (ns.map V.int) z = some (.int n) := by
  obtain ⟨v, hv, e⟩ := atI_in (xs := ns.map V.int) h0 (by rw [List.length_map]; exact h1)
  obtain ⟨n, hn, rfl⟩ := List.mem_map.mp hv
  exact ⟨n, hn, e⟩
end
section
variable {P : Program} {w : World} {K : PySem.W.Frag} {mg : Str → Option Value} {base : Heap}
theorem cal_cell (D : Dn K mg "_law_cell" s_law_cell ["_law_script", "_law_k"]) (T : Tp mg) : Cal P w K mg base "_law_cell" 1 ["_law_script", "_law_k"] (sp_cell K) := by
  refine cal_of D sc_law_cell (fun vs H Q E h => ?_) (fun f cdv A outer s H vs Q E hr h => ?_)
  · obtain ⟨a, ns, n, rfl, _⟩ := h
    rfl
  · obtain ⟨a, ns, n, rfl, hS, hl, h0, h1, k⟩ := h
    refine ⟨_, (pss_cons (ps_set (i := 2) sc_law_cell.nd rfl (.inl rfl) (pe_op op_mul (pv 1) pe_int)) (pss_cons (ps_if (pt_cmpR (r := rNeD K) (op_neD hr.units) (pv 0) (pe_lst pa_nil) (nomark _)) (pss_cons (ps_set (i := 2) sc_law_cell.nd rfl (.inl rfl) (pe_op op_add (pv 2) (pe_op op_mul (pe_op op_fdiv (pv 1) (pe_callB (r := rLenS K) call_len_seq (by rfl) T.z_len (by decide +kernel) (pa_cons (pv 0) pa_nil))) pe_int))) (pss_one (ps_set (i := 2) sc_law_cell.nd rfl (.inl rfl) (pe_op op_mod (pe_op op_add (pv 2) (pe_op op_mul (pe_ix (r := rIxL K) ix_list (pv 0) (pe_op op_mod (pv 1) (pe_callB (r := rLenS K) call_len_seq (by rfl) T.z_len (by decide +kernel) (pa_cons (pv 0) pa_nil))) (fun _ _ => rfl)) pe_int)) pe_int)))) pss_nil) (pss_one (ps_ret (pe_op op_mod (pe_op op_add (pe_op op_fdiv (pe_op op_mul (pv 2) (pv 2)) pe_int) (pe_op op_mul pe_int (pv 2))) pe_int))))), ?_⟩
    refine q_asg (ev_mulR (ev_var rfl) ev_c ⟨by decide, by decide⟩) fun H1 e1 => ?_
    refine q_when (et_test (ev_neIN (ms := []) (ev_var rfl) el_nil (ex_l e1 hS))) (fun hb H2 e2 => ?_) (fun hb H2 e2 => ?_)
    · have hne : ns ≠ [] := of_decide_eq_false (not_t hb)
      have hp : 0 < (ns.length : Int) := by
        have := List.length_pos_iff.mpr hne
        omega
      have hm0 := Int.emod_nonneg n (Int.ne_of_gt hp)
      have hm1 := Int.emod_lt_of_pos n hp
      have hi : atI (ns.map V.int) (n % (ns.length : Int)) = some (.int (ns.getD (n % (ns.length : Int)).toNat 0)) := by
        have e : n % (ns.length : Int) = (((n % (ns.length : Int)).toNat : Nat) : Int) := by omega
        rw [e]
        refine atI_nat ?_
        have hlt : (n % (ns.length : Int)).toNat < ns.length := by omega
        rw [List.getElem?_map, Int.toNat_natCast, List.getD_eq_getElem?_getD, List.getElem?_eq_getElem hlt]
        rfl
      have hS2 := ex_l (e1.trans e2) hS
      have lenE : ∀ {σ : L2.St} {H' : Hp}, Ex H2 H' → σ[0]? = some (some (.ref a)) → Ev (tCB (rLenS K) (tCons (tVar 0) tNil)) σ H' (.int (ns.length : Int)) := fun e hv => ev_of (ev_len' (ev_var hv) (ex_l e hS2)) (by rw [List.length_map])
      refine q_asg (ev_add (ev_var rfl) (ev_mulR (ev_fdiv (ev_var rfl) (lenE (Ex.refl _) rfl) ⟨hp, by omega⟩) ev_c ⟨by decide, by decide⟩)) fun H3 e3 => ?_
      refine s_asg (ev_mod (ev_add (ev_var rfl) (ev_mulR (ev_ixL (ev_var rfl) (ev_mod (ev_var rfl) (lenE e3 rfl) hp) (ex_l e3 hS2) hi) ev_c ⟨by decide, by decide⟩)) ev_c (by decide)) fun H4 e4 => ?_
      have b0 : ∀ z : Int, 0 ≤ z % 1000003 ∧ z % 1000003 < 1000003 := fun z => ⟨Int.emod_nonneg _ (by decide), Int.emod_lt_of_pos _ (by decide)⟩
      have b1 := b0 (n * 7919 + n / (ns.length : Int) * 104729 + ns.getD (n % (ns.length : Int)).toNat 0 * 48271)
      refine s_ret (ev_mod (ev_add (ev_fdiv (ev_mulL (ev_var rfl) (ev_var rfl) ⟨by omega, by omega⟩) ev_c ⟨by decide, by decide⟩) (ev_mulL ev_c (ev_var rfl) ⟨by decide, by decide⟩)) ev_c (by decide)) fun H5 e5 => ?_
      unfold cell cellM at k
      rw [if_neg hne] at k
      exact k H5 ((((e1.trans e2).trans e3).trans e4).trans e5)
    · have hne : ns = [] := of_decide_eq_true (not_f hb)
      refine s_ret (ev_mod (ev_add (ev_fdiv (ev_mulL (ev_var rfl) (ev_var rfl) ⟨by omega, by omega⟩) ev_c ⟨by decide, by decide⟩) (ev_mulL ev_c (ev_var rfl) ⟨by decide, by decide⟩)) ev_c (by decide)) fun H5 e5 => ?_
      unfold cell cellM at k
      rw [if_pos hne] at k
      exact k H5 ((e1.trans e2).trans e5)
theorem cal_whole (D : Dn K mg "_law_whole" s_law_whole ["_law_found"]) (T : Tp mg) : Cal P w K mg base "_law_whole" 1 ["_law_found"] (sp_whole K) := by
  refine cal_of D sc_law_whole (fun vs H Q E h => ?_) (fun f cdv A outer s H vs Q E hr h => ?_)
  · obtain ⟨x, rfl, _⟩ := h
    rfl
  · obtain ⟨x, rfl, h⟩ := h
    refine ⟨_, (pss_one (ps_ret (pe_and (pe_callB (r := rIsi K) call_isi (by rfl) T.z_isinstance (by decide +kernel) (pa_cons (pv 0) (pa_cons (pe_bltn (v := .ty "int") (by rfl) T.z_int (by decide +kernel) rfl) pa_nil))) (pe_one (pe_not (pe_callB (r := rIsi K) call_isi (by rfl) T.z_isinstance (by decide +kernel) (pa_cons (pv 0) (pa_cons (pe_bltn (v := .ty "bool") (by rfl) T.z_bool (by decide +kernel) rfl) pa_nil)))))))), ?_⟩
    rcases h with ⟨⟨n, rfl⟩, k⟩ | ⟨rfl, k⟩
    · exact s_ret (ev_andV (a := true) (b := true) (ev_isi (a := "int") (ev_var rfl) (fun _ _ => .base (.int n)) (by decide +kernel)) fun _ => ev_notV (a := false) (ev_isi (a := "int") (ev_var rfl) (fun _ _ => .base (.int n)) (by decide +kernel))) k
    · exact s_ret (ev_andV (a := false) (b := true) (ev_isi (a := "NoneType") (ev_var rfl) (fun _ _ => .base .non) (by decide +kernel)) fun z => nomatch z) k
theorem cal_wholes (D : Dn K mg "_law_wholes" s_law_wholes ["_law_found"]) (T : Tp mg) (C_law_whole : Cal P w K mg base "_law_whole" 1 ["_law_found"] (sp_whole K)) : Cal P w K mg base "_law_wholes" 2 ["_law_found"] (sp_wholes K) := by
  refine cal_of D sc_law_wholes (fun vs H Q E h => ?_) (fun f cdv A outer s H vs Q E hr h => ?_)
  · obtain ⟨a, ns, rfl, _⟩ := h
    rfl
  · obtain ⟨a, ns, rfl, hH, hl, k⟩ := h
    refine ⟨_, (pss_one (ps_ret (pe_and (pe_callB (r := rIsi K) call_isi (by rfl) T.z_isinstance (by decide +kernel) (pa_cons (pv 0) (pa_cons (pe_bltn (v := .ty "list") (by rfl) T.z_list (by decide +kernel) rfl) pa_nil))) (pe_one (pe_callB (r := rAll K) (cr_all rfl) (by rfl) T.z_all (by decide +kernel) (pa_cons (pe_lc (own := [("_law_one", 1)]) (g := gName 1) (by rfl) sc_law_wholes.nd (pi_list (pv 0)) (blkOk_by (own := [("_law_one", 1)]) (N := ["_law_found", "_law_one"]) (sc := defScope s_law_wholes) (by decide +kernel)) (fun _ _ _ _ _ => pg_name (i := 1) sc_law_wholes.nd rfl (Or.inl rfl)) (fun _ _ _ _ _ => pts_nil) (fun _ _ _ _ _ => (pe_cal C_law_whole (hr.mono (by decide)) (by rfl) (pa_cons (pv 1) pa_nil)))) pa_nil)))))), ?_⟩
    refine s_ret (ev_andV (a := true) (b := true) (ev_isi (a := "list") (ev_var rfl) (fun _ e => .base (.lst (e _ _ hH))) (by decide +kernel)) fun _ => ?_) k
    refine ev_of (ev_all (bs := ns.map fun _ => true) (el_is (el_lcA ns V.int (fun _ => true) (fun _ => .bl true) (ev_var rfl) (sq_of hH) (by omega) (fun _ => rfl) (fun x _ H2 _ => et_yes) (fun x _ _ H2 _ => ev_call0 (ea_1 (ev_var rfl)) v_whole)) ?_)) ?_
    · rw [filter_tt, List.map_map]
      rfl
    · rw [List.all_map]
      exact congrArg V.bl (List.all_eq_true.mpr fun _ _ => rfl)
end

/-! ### the law's houses and kinds -/
def sp_house_by (K : PySem.W.Frag) : Sp := fun vs H Q _ => ∃ (a : Addr) (ns : List Int), vs = [.ref a] ∧ SqL K H a (ns.map V.int) ∧ ns.length ≤ 63 ∧ ∀ p H' (cs : List Int), House cs → H p = none → Ex H H' → H' p = some (.lst (cs.map V.int)) → Q (.ref p) H'
def sp_kinds (K : PySem.W.Frag) : Sp := fun vs H Q _ => ∃ (a : Addr) (cs : List Int), vs = [.ref a] ∧ SqL K H a (cs.map V.int) ∧ House cs ∧ RetL ((kinds cs).map V.int) H Q
section
variable {K : PySem.W.Frag} {H : Hp} {a : Addr} {cs : List Int}
theorem l_kinds (h : SqL K H a (cs.map V.int)) (hh : House cs) : SpL (sp_kinds K) [.ref a] H ((kinds cs).map V.int) := fun _ e _ q _ => ⟨a, cs, rfl, ex_l e h, hh, q⟩
end
section
variable {P : Program} {w : World} {K : PySem.W.Frag} {mg : Str → Option Value} {base : Heap}
theorem cal_house_by (D : Dn K mg "_law_house_by" s_law_house_by ["_law_script"]) (T : Tp mg) (C_law_cell : Cal P w K mg base "_law_cell" 1 ["_law_script", "_law_k"] (sp_cell K)) : Cal P w K mg base "_law_house_by" 2 ["_law_script"] (sp_house_by K) := by
  refine cal_of D sc_law_house_by (fun vs H Q E h => ?_) (fun f cdv A outer s H vs Q E hr h => ?_)
  · obtain ⟨a, ns, rfl, _⟩ := h
    rfl
  · obtain ⟨a, ns, rfl, hS, hl, k⟩ := h
    refine ⟨_, (pss_cons (ps_set (i := 1) sc_law_house_by.nd rfl (.inl rfl) (pe_op op_add pe_int (pe_op op_mod (pe_cal C_law_cell (hr.mono (by decide)) (by rfl) (pa_cons (pv 0) (pa_cons pe_int pa_nil))) pe_int))) (pss_cons (ps_set (i := 2) sc_law_house_by.nd rfl (.inr rfl) (pe_ix (r := rIxL K) ix_list (pe_lst (pa_cons pe_int (pa_cons pe_int (pa_cons pe_int (pa_cons pe_int pa_nil))))) (pe_op op_mod (pe_cal C_law_cell (hr.mono (by decide)) (by rfl) (pa_cons (pv 0) (pa_cons pe_int pa_nil))) pe_int) (fun _ _ => rfl))) (pss_one (ps_ret (pe_lc (own := [("_law_k", 3)]) (g := gName 3) (by rfl) sc_law_house_by.nd (pi_range1 (by rfl) T.z_range (pa_cons (pv 1) pa_nil)) (blkOk_by (own := [("_law_k", 3)]) (N := ["_law_script", "_law_many", "_law_most", "_law_k"]) (sc := defScope s_law_house_by) (by decide +kernel)) (fun _ _ _ _ _ => pg_name (i := 3) sc_law_house_by.nd rfl (Or.inl rfl)) (fun _ _ _ _ _ => pts_nil) (fun _ _ _ _ _ => (pe_op op_mod (pe_cal C_law_cell (hr.mono (by decide)) (by rfl) (pa_cons (pv 0) (pa_cons (pe_op op_add pe_int (pv 3)) pa_nil))) (pe_op op_add (pv 2) pe_int)))))))), ?_⟩
    have m6 := mod_bd (cell ns 0) (m := 6) (by decide)
    have m4 := mod_bd (cell ns 1) (m := 4) (by decide)
    refine q_asg (ev_add ev_c (ev_mod (ev_cell hS hl rfl ev_c (by decide) (by decide)) ev_c (by decide))) fun H1 e1 => ?_
    obtain ⟨z, hz, ez⟩ := atI_ints (ns := [4, 3, 4, 9]) (z := cell ns 1 % 4) m4.1 m4.2
    have hz : 3 ≤ z ∧ z ≤ 9 := by
      simp only [List.mem_cons, List.not_mem_nil, or_false] at hz
      omega
    refine q_asg (ev_ixN (el_lst (ea_cons ev_c (ea_3 ev_c ev_c ev_c)) (by decide)) (ev_mod (ev_cell (ex_l e1 hS) hl rfl ev_c (by decide) (by decide)) ev_c (by decide)) ez) fun H2 e2 => ?_
    have e02 := e1.trans e2
    refine s_retL (el_is (ys := ((List.range (1 + cell ns 0 % 6).toNat).map fun i : Nat => cell ns (10 + (i : Int)) % (z + 1)).map V.int) (el_lcR (n := 1 + cell ns 0 % 6) (fun _ => true) (fun i => .int (cell ns (10 + (i : Int)) % (z + 1))) (ea_1 (ev_var rfl)) ⟨by omega, by omega⟩ (fun _ => rfl) (fun i _ _ _ => et_yes)
        (fun i hi _ H2 e2 => ev_mod (ev_cell (ex_l (e02.trans e2) hS) hl rfl (ev_add ev_c (ev_var rfl)) (by omega) (by omega)) (ev_add (ev_var rfl) ev_c) (by omega))) ?_) fun p H3 hp e3 h3 => ?_
    · rw [filter_tt, List.map_map]
      rfl
    · refine k p H3 _ ⟨?_, ?_, fun c hc => ?_⟩ (fresh_back e02 hp) (e02.trans e3) h3
      · rw [List.length_map, List.length_range]
        omega
      · rw [List.length_map, List.length_range]
        omega
      · obtain ⟨i, _, rfl⟩ := List.mem_map.mp hc
        have := mod_bd (cell ns (10 + (i : Int))) (m := z + 1) (by omega)
        omega
theorem cal_kinds (D : Dn K mg "_law_kinds" s_law_kinds ["_law_counts"]) (T : Tp mg) : Cal P w K mg base "_law_kinds" 1 ["_law_counts"] (sp_kinds K) := by
  refine cal_of D sc_law_kinds (fun vs H Q E h => ?_) (fun f cdv A outer s H vs Q E hr h => ?_)
  · obtain ⟨a, cs, rfl, _⟩ := h
    rfl
  · obtain ⟨a, cs, rfl, hS, hh, k⟩ := h
    have hle := hh.le
    refine ⟨_, (pss_cons (ps_set (i := 1) sc_law_kinds.nd rfl (.inl rfl) (pe_lst pa_nil)) (pss_cons (ps_for PassesOwn.never rfl (pi_range1 (by rfl) T.z_range (pa_cons (pe_callB (r := rLenS K) call_len_seq (by rfl) T.z_len (by decide +kernel) (pa_cons (pv 0) pa_nil)) pa_nil)) (pg_name (i := 2) sc_law_kinds.nd rfl (.inl rfl)) (pss_one (ps_set (i := 1) sc_law_kinds.nd rfl (.inl rfl) (pe_op op_cat (pv 1) (pe_op op_rep (pe_lst (pa_cons (pv 2) pa_nil)) (pe_ix (r := rIxL K) ix_list (pv 0) (pv 2) (fun _ _ => rfl))))))) (pss_one (ps_ret (pv 1))))), ?_⟩
    refine q_asgL el_nil fun p0 H1 hp0 e1 h1 => ?_
    refine q_forR1 (n := (cs.length : Int)) (ea_1 (ev_of (ev_len' (ev_var rfl) (ex_l e1 hS)) (by rw [List.length_map]))) ⟨by omega, by omega⟩
      (fun i σ' H' => ∃ p y2, σ' = [some (.ref a), some (.ref p), y2] ∧ H p = none ∧ Ex H H' ∧ H' p = some (.lst ((kindsF 0 (cs.take i)).map V.int))) (fun H2 e2 => ⟨p0, none, rfl, hp0, e1.trans e2, e2 _ _ h1⟩) ?_ ?_
    · rintro i σ' H2 hi ⟨p, y2, rfl, hp, e2, h2⟩
      have hi : i < cs.length := by omega
      have hc := hh.ok cs[i] (List.getElem_mem hi)
      have hl := kinds_take_le hh i
      have hx : atI (cs.map V.int) (i : Int) = some (.int cs[i]) := atI_nat (by rw [List.getElem?_map, List.getElem?_eq_getElem hi]; rfl)
      refine s_asgL (el_catN (ev_var rfl) (el_repN (n := cs[i]) (el_lst (ea_1 (ev_var rfl)) (by show 1 ≤ 100000; decide)) (ev_ixL (ev_var rfl) (ev_var rfl) (ex_l e2 hS) hx) ⟨by omega, by omega⟩ (sz_of (by rw [List.length_singleton]; omega))) h2 (sz_of ?_)) fun q H3 hq e3 h3 => ⟨q, _, rfl, fresh_back e2 hq, e2.trans e3, ?_⟩
      · rw [List.length_map, rep_one, List.length_replicate]
        omega
      · rw [h3, rep_one, kinds_step hi, List.map_append, map_rep]
    · rintro σ' H2 ⟨p, y2, rfl, hp, e2, h2⟩
      rw [Int.toNat_natCast, List.take_length] at h2
      exact s_ret (ev_var rfl) fun H3 e3 => k p H3 hp (e2.trans e3) (e3 _ _ h2)
end

/-! ### the law's spans, wants, open rooms -/
structure Sp4 (many f l k : Int) : Prop where
  f0 : 0 ≤ f
  fl : f < l
  l40 : l ≤ 40
  k0 : 0 ≤ k
  km : k < many
def sp_span_by (K : PySem.W.Frag) : Sp := fun vs H Q _ => ∃ (a : Addr) (ns : List Int) (k many : Int), vs = [.ref a, .int k, .int many] ∧ SqL K H a (ns.map V.int) ∧ ns.length ≤ 63 ∧ 0 ≤ k ∧ k < 9000 ∧ 0 < many ∧
  ∀ p H' f l kd, Sp4 many f l kd → H p = none → Ex H H' → H' p = some (.tup [.int f, .int l, .int kd]) → Q (.ref p) H'
def sp_spans_by (K : PySem.W.Frag) : Sp := fun vs H Q _ => ∃ (a : Addr) (ns : List Int) (k count many : Nat), vs = [.ref a, .int (k : Int), .int (count : Int), .int (many : Int)] ∧ SqL K H a (ns.map V.int) ∧ ns.length ≤ 63 ∧ k < 1000 ∧ count ≤ 20 ∧ 0 < many ∧
  ∀ p H' (l : List Ent), l.length = count → (∀ e ∈ l, SpanOk many e) → H p = none → Ex H H' → Sps H' p l → Q (.ref p) H'
def sp_wants : Sp := fun vs H Q _ => ∃ (d : Addr) (l : List Ent) (n : Int), vs = [.ref d, .int n] ∧ Sps H d l ∧ l.length < 64 ∧ RetD ((wantsL l n).map kvI) H Q
def shutL (l : List Ent) (night : Int) : List Int := ((nums l).filter (actN l night)).map (kindN l)
def sp_open (K : PySem.W.Frag) : Sp := fun vs H Q _ => ∃ (a : Addr) (cs : List Int) (d : Addr) (l : List Ent) (n : Int), vs = [.ref a, .ref d, .int n] ∧ SqL K H a (cs.map V.int) ∧ House cs ∧ Sps H d l ∧ l.length < 64 ∧ RetL ((openR cs (shutL l n)).map fun r : Nat => V.int (r : Int)) H Q
theorem mem_shut {l : List Ent} (hn : (l.map Ent.num).Nodup) (night k : Int) : k ∈ shutL l night ↔ k ∈ (wantsL l night).map (·.2) := by
  unfold shutL wantsL
  rw [List.map_map]
  constructor
  · intro h
    obtain ⟨n, hm, hk⟩ := List.mem_map.mp h
    obtain ⟨h1, h2⟩ := List.mem_filter.mp hm
    exact List.mem_map.mpr ⟨n, List.mem_filter.mpr ⟨sortI_mem.mpr h1, h2⟩, hk⟩
  · intro h
    obtain ⟨n, hm, hk⟩ := List.mem_map.mp h
    obtain ⟨h1, h2⟩ := List.mem_filter.mp hm
    exact List.mem_map.mpr ⟨n, List.mem_filter.mpr ⟨sortI_mem.mp h1, h2⟩, hk⟩
section
variable {K : PySem.W.Frag} {H : Hp} {a d : Addr} {cs : List Int} {l : List Ent}
theorem d_wants (h : Sps H d l) (hl : l.length < 64) (n : Int) : SpD sp_wants [.ref d, .int n] H ((wantsL l n).map kvI) := fun _ e _ q _ => ⟨d, l, n, rfl, h.mono e, hl, q⟩
theorem l_open (h : SqL K H a (cs.map V.int)) (hh : House cs) (hd : Sps H d l) (hl : l.length < 64) (n : Int) : SpL (sp_open K) [.ref a, .ref d, .int n] H ((openR cs (shutL l n)).map fun r : Nat => V.int (r : Int)) := fun _ e _ q _ => ⟨a, cs, d, l, n, rfl, ex_l e h, hh, hd.mono e, hl, q⟩
/-- the look at one span, its dict read or locked -/
theorem ev_span {σ : L2.St} {ti tn : TE} {i : Nat} {n : Int} {e : Ent} {j : Int} {v : V} (hv : σ[i]? = some (some (.ref d))) (hn : Ev tn σ H (.int n)) (hd : Rd H d (.dK (l.map Ent.kv))) (he : look l n = some e) (ht : H e.at_ = some e.tup) (hj : Ev ti σ H (.int j)) (ha : atI [V.int e.first, .int e.last, .int e.kind] j = some v) :
    Ev (tOp (rIxT K) (tDGet (tVar i) tn) ti) σ H v := ev_ixT (ev_dgetR (ev_var hv) hn hd (by rw [look_val, he]; rfl)) hj (st_of ht) ha
end
section
variable {P : Program} {w : World} {K : PySem.W.Frag} {mg : Str → Option Value} {base : Heap}
theorem cal_span_by (D : Dn K mg "_law_span_by" s_law_span_by ["_law_script", "_law_k", "_law_many"]) (T : Tp mg) (C_law_cell : Cal P w K mg base "_law_cell" 1 ["_law_script", "_law_k"] (sp_cell K)) : Cal P w K mg base "_law_span_by" 2 ["_law_script", "_law_k", "_law_many"] (sp_span_by K) := by
  refine cal_of D sc_law_span_by (fun vs H Q E h => ?_) (fun f cdv A outer s H vs Q E hr h => ?_)
  · obtain ⟨a, ns, x, y, rfl, _⟩ := h
    rfl
  · obtain ⟨a, ns, x, y, rfl, hS, hl, h0, h1, hy, k⟩ := h
    refine ⟨_, (pss_cons (ps_set (i := 3) sc_law_span_by.nd rfl (.inl rfl) (pe_op op_mod (pe_cal C_law_cell (hr.mono (by decide)) (by rfl) (pa_cons (pv 0) (pa_cons (pv 1) pa_nil))) (pe_ix (r := rIxL K) ix_list (pe_lst (pa_cons pe_int (pa_cons pe_int (pa_cons pe_int pa_nil)))) (pe_op op_mod (pe_cal C_law_cell (hr.mono (by decide)) (by rfl) (pa_cons (pv 0) (pa_cons (pe_op op_add (pv 1) pe_int) pa_nil))) pe_int) (fun _ _ => rfl)))) (pss_cons (ps_set (i := 4) sc_law_span_by.nd rfl (.inl rfl) (pe_callB (call_min2 rfl) (by rfl) T.z_min (by decide +kernel) (pa_cons pe_int (pa_cons (pe_op op_add (pe_op op_add (pv 3) pe_int) (pe_op op_mod (pe_op op_fdiv (pe_cal C_law_cell (hr.mono (by decide)) (by rfl) (pa_cons (pv 0) (pa_cons (pe_op op_add (pv 1) pe_int) pa_nil))) pe_int) (pe_ix (r := rIxL K) ix_list (pe_lst (pa_cons pe_int (pa_cons pe_int (pa_cons pe_int pa_nil)))) (pe_op op_mod (pe_cal C_law_cell (hr.mono (by decide)) (by rfl) (pa_cons (pv 0) (pa_cons (pe_op op_add (pv 1) pe_int) pa_nil))) pe_int) (fun _ _ => rfl)))) pa_nil)))) (pss_one (ps_ret (pe_tup (pa_cons (pv 3) (pa_cons (pv 4) (pa_cons (pe_op op_mod (pe_op op_fdiv (pe_cal C_law_cell (hr.mono (by decide)) (by rfl) (pa_cons (pv 0) (pa_cons (pe_op op_add (pv 1) pe_int) pa_nil))) pe_int) (pv 2)) pa_nil)))))))), ?_⟩
    have m1 := mod_bd (cell ns (x + 1)) (m := 3) (by decide)
    have m2 := mod_bd (cell ns (x + 2)) (m := 3) (by decide)
    obtain ⟨z, hz, ez⟩ := atI_ints (ns := [40, 9, 9]) (z := cell ns (x + 1) % 3) m1.1 m1.2
    obtain ⟨z2, hz2, ez2⟩ := atI_ints (ns := [40, 5, 5]) (z := cell ns (x + 2) % 3) m2.1 m2.2
    have hz : 9 ≤ z ∧ z ≤ 40 := by
      simp only [List.mem_cons, List.not_mem_nil, or_false] at hz
      omega
    have hz2 : 5 ≤ z2 ∧ z2 ≤ 40 := by
      simp only [List.mem_cons, List.not_mem_nil, or_false] at hz2
      omega
    have cE : ∀ {σ : L2.St} {H' : Hp} {tk : TE} {j : Int}, Ex H H' → σ[0]? = some (some (.ref a)) → Ev tk σ H' (.int j) → 0 ≤ j → j < 10000 → Ev (tCall (sp_cell K) [] E0 (tCons (tVar 0) (tCons tk tNil))) σ H' (.int (cell ns j)) := fun e hv hk h0 h1 => ev_cell (ex_l e hS) hl hv hk h0 h1
    refine q_asg (ev_mod (cE (Ex.refl _) rfl (ev_var rfl) h0 (by omega)) (ev_ixN (el_lst (ea_3 ev_c ev_c ev_c) (by decide)) (ev_mod (cE (Ex.refl _) rfl (ev_add (ev_var rfl) ev_c) (by omega) (by omega)) ev_c (by decide)) ez) (by omega)) fun H1 e1 => ?_
    refine q_asg (ev_cb (ea_2 ev_c (ev_add (ev_add (ev_var rfl) ev_c) (ev_mod (ev_fdiv (cE e1 rfl (ev_add (ev_var rfl) ev_c) (by omega) (by omega)) ev_c ⟨by decide, by decide⟩) (ev_ixN (el_lst (ea_3 ev_c ev_c ev_c) (by decide)) (ev_mod (cE e1 rfl (ev_add (ev_var rfl) ev_c) (by omega) (by omega)) ev_c (by decide)) ez2) (by omega)))) fun H2 _ _ q => ⟨_, _, rfl, q H2 (Ex.refl H2)⟩) fun H2 e2 => ?_
    refine s_retU (eu_tup (ea_3 (ev_var rfl) (ev_var rfl) (ev_mod (ev_fdiv (cE (e1.trans e2) rfl (ev_add (ev_var rfl) ev_c) (by omega) (by omega)) ev_c ⟨by decide, by decide⟩) (ev_var rfl) hy)) (by show 3 ≤ 100000; decide)) fun p H3 hp e3 h3 => ?_
    have b1 := mod_bd (cell ns x) (m := z) (by omega)
    have b2 := mod_bd (cell ns (x + 1) / 3) (m := z2) (by omega)
    have b3 := mod_bd (cell ns (x + 2) / 3) hy
    refine k p H3 _ _ _ ⟨b1.1, ?_, ?_, b3.1, b3.2⟩ (fresh_back (e1.trans e2) hp) ((e1.trans e2).trans e3) h3
    · split <;> omega
    · split <;> omega
theorem cal_spans_by (D : Dn K mg "_law_spans_by" s_law_spans_by ["_law_script", "_law_k", "_law_count", "_law_many"]) (T : Tp mg) (C_law_cell : Cal P w K mg base "_law_cell" 1 ["_law_script", "_law_k"] (sp_cell K)) (C_law_span_by : Cal P w K mg base "_law_span_by" 2 ["_law_script", "_law_k", "_law_many"] (sp_span_by K)) :
    Cal P w K mg base "_law_spans_by" 3 ["_law_script", "_law_k", "_law_count", "_law_many"] (sp_spans_by K) := by
  refine cal_of D sc_law_spans_by (fun vs H Q E h => ?_) (fun f cdv A outer s H vs Q E hr h => ?_)
  · obtain ⟨a, ns, x, c, m, rfl, _⟩ := h
    rfl
  · obtain ⟨a, ns, x, c, m, rfl, hS, hl, hx, hc, hm, k⟩ := h
    refine ⟨_, (pss_cons (ps_set (i := 4) sc_law_spans_by.nd rfl (.inl rfl) pe_dnewK) (pss_cons (ps_for PassesOwn.never rfl (pi_range1 (by rfl) T.z_range (pa_cons (pv 2) pa_nil)) (pg_name (i := 5) sc_law_spans_by.nd rfl (.inl rfl)) (pss_cons (ps_set (i := 6) sc_law_spans_by.nd rfl (.inl rfl) (pe_op op_add (pe_op op_mod (pe_op op_add (pe_op op_mul (pv 5) pe_int) (pe_cal C_law_cell (hr.mono (by decide)) (by rfl) (pa_cons (pv 0) (pa_cons (pv 1) pa_nil)))) pe_int) (pe_ix (r := rIxL K) ix_list (pe_lst (pa_cons pe_int (pa_cons pe_int (pa_cons (pe_un un_neg pe_int) (pa_cons (pe_op op_pow pe_int pe_int) pa_nil))))) (pe_op op_mod (pe_cal C_law_cell (hr.mono (by decide)) (by rfl) (pa_cons (pv 0) (pa_cons (pv 1) pa_nil))) pe_int) (fun _ _ => rfl)))) (pss_one (ps_dput (hu_of hr) (pv 4) (pv 6) (pe_cal C_law_span_by (hr.mono (by decide)) (by rfl) (pa_cons (pv 0) (pa_cons (pe_op op_add (pe_op op_add (pv 1) (pe_op op_mul pe_int (pv 5))) pe_int) (pa_cons (pv 3) pa_nil)))) rfl)))) (pss_one (ps_ret (pv 4))))), ?_⟩
    refine q_asgD ed_new fun p H1 hp e1 h1 => ?_
    have m4 := mod_bd (cell ns (x : Int)) (m := 4) (by decide)
    obtain ⟨z, hz, ez⟩ := atI_ints (ns := [0, 0, -50, 10 ^ (20 : Int).toNat]) (z := cell ns (x : Int) % 4) m4.1 m4.2
    generalize hg : (fun i : Nat => ((i : Int) * 37 + cell ns (x : Int)) % 101 + z) = g
    have ginj : ∀ i j, i < c → j < c → g i = g j → i = j := fun i j hi hj h => by
      rw [← hg] at h
      have h : ((i : Int) * 37 + cell ns (x : Int)) % 101 + z = ((j : Int) * 37 + cell ns (x : Int)) % 101 + z := h
      omega
    refine q_forR1 (n := (c : Int)) (ea_1 (ev_var rfl)) ⟨by omega, by omega⟩
      (fun i σ' H' => ∃ y5 y6, σ' = [some (.ref a), some (.int (x : Int)), some (.int (c : Int)), some (.int (m : Int)), some (.ref p), y5, y6] ∧ Ex H H' ∧ i ≤ c ∧ ∃ l : List Ent, nums l = (List.range i).map g ∧ (∀ e ∈ l, SpanOk m e) ∧ (∀ e ∈ l, H' e.at_ = some e.tup) ∧ H' p = some (.dK (l.map Ent.kv)))
      (fun H2 e2 => ⟨none, none, rfl, e1.trans e2, Nat.zero_le _, [], rfl, fun e he => (by cases he), fun e he => (by cases he), e2 _ _ h1⟩) ?_ ?_
    · rintro i σ' H2 hi ⟨y5, y6, rfl, e2, _, l, hn, ho, ht, hP⟩
      have hi : i < c := by omega
      have hlen : l.length = i := by
        have e := congrArg List.length hn
        unfold nums at e
        rw [List.length_map, List.length_map, List.length_range] at e
        exact e
      refine q_asg (v := .int (g i)) (ev_of (ev_add (ev_mod (ev_add (ev_mulR (ev_var rfl) ev_c ⟨by decide, by decide⟩) (ev_cell (ex_l e2 hS) hl rfl (ev_var rfl) (by omega) (by omega))) ev_c (by decide)) (ev_ixN (el_lst (ea_cons ev_c (ea_3 ev_c (ev_neg ev_c) (ev_pow ev_c ev_c ⟨by decide, by decide, by decide⟩))) (by decide)) (ev_mod (ev_cell (ex_l e2 hS) hl rfl (ev_var rfl) (by omega) (by omega)) ev_c (by decide)) ez)) (by rw [← hg])) fun H3 e3 => ?_
      -- found[number] = span_by(..)
      refine s_dputC (R := fun v H1 H2 => ∃ q fi la kd, v = .ref q ∧ Sp4 (m : Int) fi la kd ∧ H1 q = none ∧ H2 q = some (.tup [.int fi, .int la, .int kd])) (ea_3 (ev_var rfl) (ev_add (ev_add (ev_var rfl) (ev_mulR ev_c (ev_var rfl) ⟨by omega, by omega⟩)) ev_c) (ev_var rfl))
        (fun H4 e4 Q' q' E' => ⟨a, ns, _, _, rfl, ex_l ((e2.trans e3).trans e4) hS, hl, by omega, by omega, by omega, fun q H5 fi la kd ok hq e5 h5 => q' _ H5 e5 ⟨q, fi, la, kd, rfl, ok, hq, h5⟩⟩) (ev_var rfl) (ev_var rfl) (e3 _ _ hP) (by rw [List.length_map]; omega) ?_
      rintro v H4 H5 e4 e5 ⟨q, fi, la, kd, rfl, ok, hq, h5⟩ H6 e6
      have hp2 : H p = none := hp
      have e25 := ((e3.trans e4).trans e5).trans e6
      have hpq : q ≠ p := fun z => by
        rw [z, (e3.trans e4) _ _ hP] at hq
        cases hq
      have hpt : ∀ e ∈ l, e.at_ ≠ p := fun e he z => by
        have := ht e he
        rw [z, hP] at this
        cases this
      have nn : (Sum.inl (g i) : Key) ∉ (l.map Ent.kv).map (·.1) := fun z => by
        rw [kv_keys, hn, List.map_map] at z
        obtain ⟨j, hj, e⟩ := List.mem_map.mp z
        have hj := List.mem_range.mp hj
        have := ginj j i (by omega) hi (Sum.inl.inj e)
        omega
      refine ⟨_, _, rfl, Ex.mut (e2.trans e25) hp2, hi, l ++ [⟨g i, fi, la, kd, q⟩], ?_, ?_, ?_, ?_⟩
      · unfold nums at hn ⊢
        rw [List.map_append, hn, List.range_succ, List.map_append]
        rfl
      · intro e he
        rcases List.mem_append.mp he with he | he
        · exact ho e he
        · have e1 := List.mem_singleton.mp he
          subst e1
          exact ⟨ok.f0, ok.fl, ok.l40, ok.k0, ok.km⟩
      · intro e he
        rcases List.mem_append.mp he with he | he
        · rw [upd_ne (hpt e he)]
          exact e25 _ _ (ht e he)
        · have e1 := List.mem_singleton.mp he
          subst e1
          rw [upd_ne hpq]
          exact e6 _ _ h5
      · rw [upd_same, putK_new _ (valV_none nn), List.map_append]
        rfl
    · rintro σ' H2 ⟨y5, y6, rfl, e2, _, l, hn, ho, ht, hP⟩
      rw [Int.toNat_natCast] at hn
      have hlen : l.length = c := by
        have e := congrArg List.length hn
        unfold nums at e
        rw [List.length_map, List.length_map, List.length_range] at e
        exact e
      have nd : (l.map Ent.num).Nodup := by
        have hn' : l.map Ent.num = (List.range c).map g := hn
        rw [hn', List.nodup_iff_pairwise_ne, List.pairwise_map]
        exact (List.pairwise_lt_range (n := c)).imp_of_mem fun {i j} hi hj hlt e => by
          have := ginj i j (List.mem_range.mp hi) (List.mem_range.mp hj) e
          omega
      exact s_ret (ev_var rfl) fun H3 e3 => k p H3 l hlen ho hp (e2.trans e3) ⟨e3 _ _ hP, fun e he => e3 _ _ (ht e he), nd⟩
theorem cal_wants (D : Dn K mg "_law_wants" s_law_wants ["_law_stays", "_law_night"]) (T : Tp mg) : Cal P w K mg base "_law_wants" 1 ["_law_stays", "_law_night"] sp_wants := by
  refine cal_of D sc_law_wants (fun vs H Q E h => ?_) (fun f cdv A outer s H vs Q E hr h => ?_)
  · obtain ⟨d, l, n, rfl, _⟩ := h
    rfl
  · obtain ⟨d, l, n, rfl, S, hl, k⟩ := h
    refine ⟨_, (pss_one (ps_ret (pe_callTy (r := rDictP K) (call_dictP rfl) (by rfl) T.z_dict (by decide +kernel) (pa_cons (pe_lc (own := [("_law_one", 2)]) (g := gName 2) (by rfl) sc_law_wants.nd (pi_list (pe_callB (r := rSortedI K) cr_sortedI (by rfl) T.z_sorted (by decide +kernel) (pa_cons (pe_callTy (call_list_dK rfl) (by rfl) T.z_list (by decide +kernel) (pa_cons (pv 0) pa_nil)) pa_nil))) (blkOk_by (own := [("_law_one", 2)]) (N := ["_law_stays", "_law_night", "_law_one"]) (sc := defScope s_law_wants) (by decide +kernel)) (fun _ _ _ _ _ => pg_name (i := 2) sc_law_wants.nd rfl (Or.inl rfl)) (fun _ _ _ _ _ => (pts_one (pt_chain op_le op_lt (pe_ix (r := rIxT K) ix_tup (pe_dget (hu_of hr) (pv 0) (pv 2) (fun _ _ => rfl)) pe_int (fun _ _ => rfl)) (pv 1) (pe_ix (r := rIxT K) ix_tup (pe_dget (hu_of hr) (pv 0) (pv 2) (fun _ _ => rfl)) pe_int (fun _ _ => rfl))))) (fun _ _ _ _ _ => (pe_tup (pa_cons (pv 2) (pa_cons (pe_ix (r := rIxT K) ix_tup (pe_dget (hu_of hr) (pv 0) (pv 2) (fun _ _ => rfl)) pe_int (fun _ _ => rfl)) pa_nil))))) pa_nil)))), ?_⟩
    have key : ∀ m ∈ sortI (nums l), ∃ e, look l m = some e ∧ e ∈ l ∧ e.num = m := fun m hm => look_some (sortI_mem.mp hm)
    refine s_retD (ed_is (ed_lcNA (sortI (nums l)) V.int (actN l n) (fun m => (Sum.inl m, .int (kindN l m))) (el_sortN (el_is (el_keys (ev_var rfl) S.dc) ?_)) ?_ (fun _ => rfl) (fun m hm H1 e1 => ?_) (fun m hm _ H1 e1 => ?_)) ?_) k
    · unfold nums
      rw [List.map_map, List.map_map]
      rfl
    · rw [sortI_len]
      unfold nums
      rw [List.length_map]
      omega
    · obtain ⟨e, he, hmem, _⟩ := key m hm
      have S1 := S.mono e1
      have ha : actN l n m = (decide (e.first ≤ n) && decide (n < e.last)) := by
        unfold actN
        rw [he]
        rfl
      rw [ha]
      exact et_test (ev_chainI (ev_span rfl (ev_var rfl) (.inl S1.dc) he (S1.tp e hmem) ev_c rfl) (ev_var rfl) (ev_span rfl (ev_var rfl) (.inl S1.dc) he (S1.tp e hmem) ev_c rfl))
    · obtain ⟨e, he, hmem, _⟩ := key m hm
      have S1 := S.mono e1
      have hk : kindN l m = e.kind := by
        unfold kindN
        rw [he]
      rw [hk]
      exact eu_tup (ea_2 (ev_var rfl) (ev_span rfl (ev_var rfl) (.inl S1.dc) he (S1.tp e hmem) ev_c rfl)) (by show 2 ≤ 100000; decide)
    · have nd := wants_nodup S.nd n
      rw [mergeK_nodup]
      · unfold wantsL
        rw [List.map_map]
        rfl
      · unfold wantsL at nd
        rw [List.nil_append]
        rw [List.map_map] at nd ⊢
        have e : ((sortI (nums l)).filter (actN l n)).map ((fun x : Key × V => x.1) ∘ fun m => (Sum.inl m, V.int (kindN l m))) = (((sortI (nums l)).filter (actN l n)).map ((fun x : Int × Int => x.1) ∘ fun n => (n, kindN l n))).map (Sum.inl : Int → Key) := by
          rw [List.map_map]
          rfl
        rw [e, List.nodup_iff_pairwise_ne, List.pairwise_map]
        exact (List.nodup_iff_pairwise_ne.mp nd).imp fun h z => h (Sum.inl.inj z)
theorem cal_open (D : Dn K mg "_law_open" s_law_open ["_law_counts", "_law_closings", "_law_night"]) (T : Tp mg) (C_law_kinds : Cal P w K mg base "_law_kinds" 1 ["_law_counts"] (sp_kinds K)) : Cal P w K mg base "_law_open" 2 ["_law_counts", "_law_closings", "_law_night"] (sp_open K) := by
  refine cal_of D sc_law_open (fun vs H Q E h => ?_) (fun f cdv A outer s H vs Q E hr h => ?_)
  · obtain ⟨a, cs, d, l, n, rfl, _⟩ := h
    rfl
  · obtain ⟨a, cs, d, l, n, rfl, hS, hh, S, hl, k⟩ := h
    refine ⟨_, (pss_cons (ps_set (i := 3) sc_law_open.nd rfl (.inr rfl) (pe_lock (pe_lc (own := [("_law_one", 5)]) (g := gName 5) (by rfl) sc_law_open.nd (pi_keys (pv 1)) (blkOk_by (own := [("_law_one", 5)]) (N := ["_law_counts", "_law_closings", "_law_night", "_law_shut", "_law_kinds_here", "_law_one", "_law_room"]) (sc := defScope s_law_open) (by decide +kernel)) (fun _ _ _ _ _ => pg_name (i := 5) sc_law_open.nd rfl (Or.inl rfl)) (fun _ _ _ _ _ => (pts_one (pt_chain op_le op_lt (pe_ix (r := rIxT K) ix_tup (pe_dget (hu_of hr) (pv 1) (pv 5) (fun _ _ => rfl)) pe_int (fun _ _ => rfl)) (pv 2) (pe_ix (r := rIxT K) ix_tup (pe_dget (hu_of hr) (pv 1) (pv 5) (fun _ _ => rfl)) pe_int (fun _ _ => rfl))))) (fun _ _ _ _ _ => (pe_ix (r := rIxT K) ix_tup (pe_dget (hu_of hr) (pv 1) (pv 5) (fun _ _ => rfl)) pe_int (fun _ _ => rfl)))))) (pss_cons (ps_set (i := 4) sc_law_open.nd rfl (.inr rfl) (pe_cal C_law_kinds (hr.mono (by decide)) (by rfl) (pa_cons (pv 0) pa_nil))) (pss_one (ps_ret (pe_lc (own := [("_law_room", 6)]) (g := gName 6) (by rfl) sc_law_open.nd (pi_range1 (by rfl) T.z_range (pa_cons (pe_callB (r := rLenS K) call_len_seq (by rfl) T.z_len (by decide +kernel) (pa_cons (pv 4) pa_nil)) pa_nil)) (blkOk_by (own := [("_law_room", 6)]) (N := ["_law_counts", "_law_closings", "_law_night", "_law_shut", "_law_kinds_here", "_law_one", "_law_room"]) (sc := defScope s_law_open) (by decide +kernel)) (fun _ _ _ _ _ => pg_name (i := 6) sc_law_open.nd rfl (Or.inl rfl)) (fun _ _ _ _ _ => (pts_one (pt_cmpR (r := rIn K true) op_notIn_seq (pe_ix (r := rIxL K) ix_list (pv 4) (pv 6) (fun _ _ => rfl)) (pv 3) (by rfl)))) (fun _ _ _ _ _ => (pv 6))))))), ?_⟩
    have key : ∀ m ∈ nums l, ∃ e, look l m = some e ∧ e ∈ l ∧ e.num = m := fun m hm => look_some hm
    have hkl := kinds_le hh
    refine q_asgL (el_lcK (ks := nums l) (actN l n) (fun m => .int (kindN l m)) S.dc (kv_keys l) (by unfold nums; rw [List.length_map]; omega) (fun _ => rfl) (fun od => ev_var rfl) (fun od m hm => ?_) (fun od m hm _ => ?_)) fun p H1 hp e1 h1 => ?_
    · obtain ⟨e, he, hmem, _⟩ := key m hm
      have ha : actN l n m = (decide (e.first ≤ n) && decide (n < e.last)) := by
        unfold actN
        rw [he]
        rfl
      have hT := lock_at (od := od) S.dc (S.tp e hmem) (fun k z => by cases z)
      rw [ha]
      exact et_test (ev_chainI (ev_span rfl (ev_var rfl) lock_rd he hT ev_c rfl) (ev_var rfl) (ev_span rfl (ev_var rfl) lock_rd he hT ev_c rfl))
    · obtain ⟨e, he, hmem, _⟩ := key m hm
      have hk : kindN l m = e.kind := by
        unfold kindN
        rw [he]
      have hT := lock_at (od := od) S.dc (S.tp e hmem) (fun k z => by cases z)
      rw [hk]
      exact ev_span rfl (ev_var rfl) lock_rd he hT ev_c rfl
    · have h1 : H1 p = some (.lst ((shutL l n).map V.int)) := by
        rw [h1]
        unfold shutL
        rw [List.map_map]
        rfl
      refine q_asgL (el_call0 (ea_1 (ev_var rfl)) (l_kinds (ex_l e1 hS) hh)) fun q H2 hq e2 h2 => ?_
      refine s_retL (el_lcR (n := ((kinds cs).length : Int)) (fun r => !decide ((kinds cs).getD r 0 ∈ shutL l n)) (fun r => .int (r : Int)) (ea_1 (ev_of (ev_len' (ev_var rfl) (sq_of h2)) (by rw [List.length_map]))) ⟨by omega, by omega⟩ (fun _ => rfl)
        (fun r hr H3 e3 => et_test (ev_niI (ev_ixL (ev_var rfl) (ev_var rfl) (sq_of (e3 _ _ h2)) ?_) (ev_var rfl) (sq_of ((e2.trans e3) _ _ h1)))) (fun r hr _ H3 e3 => ev_var rfl)) fun q2 H3 hq2 e3 h3 => ?_
      · have hr : r < (kinds cs).length := by omega
        exact atI_nat (by rw [List.getElem?_map, List.getD_eq_getElem?_getD, List.getElem?_eq_getElem hr]; rfl)
      · rw [Int.toNat_natCast] at h3
        exact k.go (e1.trans e2) hq2 e3 h3
end

theorem kvI_keys (l : List (Int × Int)) : (l.map kvI).map (·.1) = (l.map (·.1)).map Sum.inl := by
  rw [List.map_map, List.map_map]
  rfl
theorem kvI_vals (l : List (Int × Int)) : (l.map kvI).map (·.2) = (l.map (·.2)).map V.int := by
  rw [List.map_map, List.map_map]
  rfl
theorem kd_at {cs : List Int} {i : Nat} (hi : i < (kinds cs).length) : atI ((kinds cs).map V.int) (i : Int) = some (.int (kd cs (i : Int))) ∧ 0 ≤ kd cs (i : Int) ∧ kd cs (i : Int) < (cs.length : Int) := by
  unfold kd
  rw [Int.toNat_natCast, List.getD_eq_getElem?_getD, List.getElem?_eq_getElem hi]
  have := kinds_lt (List.getElem_mem hi)
  exact ⟨atI_nat (by rw [List.getElem?_map, List.getElem?_eq_getElem hi]; rfl), this⟩
theorem kd_in {cs : List Int} {r : Int} (h0 : 0 ≤ r) (h1 : r < ((kinds cs).length : Int)) : atI ((kinds cs).map V.int) r = some (.int (kd cs r)) := by
  obtain ⟨i, rfl⟩ : ∃ i : Nat, r = (i : Int) := ⟨r.toNat, by omega⟩
  exact (kd_at (by omega)).1

/-! ### the law's short kinds -/
def sp_at_least (K : PySem.W.Frag) : Sp := fun vs H Q _ => ∃ (a : Addr) (ks : List Int) (k : Int), vs = [.ref a, .int k] ∧ SqL K H a (ks.map V.int) ∧ ks.length ≤ 1000 ∧ RetV (.int (atLeast ks k : Int)) H Q
def sp_short (K : PySem.W.Frag) : Sp := fun vs H Q _ => ∃ (a : Addr) (cs : List Int) (b : Addr) (rs : List Int) (d : Addr) (kvs : List (Key × V)) (ws : List Int), vs = [.ref a, .ref b, .ref d] ∧ SqL K H a (cs.map V.int) ∧ House cs ∧ SqL K H b (rs.map V.int) ∧ RoomsOk cs rs ∧
  H d = some (.dK kvs) ∧ kvs.map (·.2) = ws.map V.int ∧ ws.length ≤ 1000 ∧ RetV (onV (shortL cs.length ws (rs.map (kd cs)))) H Q
section
variable {P : Program} {w : World} {K : PySem.W.Frag} {mg : Str → Option Value} {base : Heap}
theorem v_at_least {H : Hp} {a : Addr} {ks : List Int} (h : SqL K H a (ks.map V.int)) (hl : ks.length ≤ 1000) (k : Int) : SpV (sp_at_least K) [.ref a, .int k] H (.int (atLeast ks k : Int)) := fun _ e _ q _ => ⟨a, ks, k, rfl, ex_l e h, hl, q⟩
theorem cal_at_least (D : Dn K mg "_law_at_least" s_law_at_least ["_law_kinds_here", "_law_kind"]) (T : Tp mg) : Cal P w K mg base "_law_at_least" 1 ["_law_kinds_here", "_law_kind"] (sp_at_least K) := by
  refine cal_of D sc_law_at_least (fun vs H Q E h => ?_) (fun f cdv A outer s H vs Q E hr h => ?_)
  · obtain ⟨a, ks, n, rfl, _⟩ := h
    rfl
  · obtain ⟨a, ks, n, rfl, hS, hl, k⟩ := h
    refine ⟨_, (pss_one (ps_ret (pe_callB (r := rLenS K) call_len_seq (by rfl) T.z_len (by decide +kernel) (pa_cons (pe_lc (own := [("_law_one", 2)]) (g := gName 2) (by rfl) sc_law_at_least.nd (pi_list (pv 0)) (blkOk_by (own := [("_law_one", 2)]) (N := ["_law_kinds_here", "_law_kind", "_law_one"]) (sc := defScope s_law_at_least) (by decide +kernel)) (fun _ _ _ _ _ => pg_name (i := 2) sc_law_at_least.nd rfl (Or.inl rfl)) (fun _ _ _ _ _ => (pts_one (pt_cmpR op_ge (pv 2) (pv 1) (nomark _)))) (fun _ _ _ _ _ => (pv 2))) pa_nil)))), ?_⟩
    refine s_ret (ev_of (ev_lenN (el_lcA ks V.int (fun x => decide (n ≤ x)) V.int (ev_var rfl) hS (by omega) (fun _ => rfl) (fun x _ H3 _ => et_test (ev_cmp (ev_var rfl) (ev_var rfl))) (fun x _ _ H3 _ => ev_var rfl))) ?_) k
    rw [List.length_map]
    rfl
theorem cal_short (D : Dn K mg "_law_short" s_law_short ["_law_counts", "_law_rooms", "_law_wants_here"]) (T : Tp mg) (C_law_kinds : Cal P w K mg base "_law_kinds" 1 ["_law_counts"] (sp_kinds K)) (C_law_at_least : Cal P w K mg base "_law_at_least" 1 ["_law_kinds_here", "_law_kind"] (sp_at_least K)) :
    Cal P w K mg base "_law_short" 2 ["_law_counts", "_law_rooms", "_law_wants_here"] (sp_short K) := by
  refine cal_of D sc_law_short (fun vs H Q E h => ?_) (fun f cdv A outer s H vs Q E hr h => ?_)
  · obtain ⟨a, cs, b, rs, d, kvs, ws, rfl, _⟩ := h
    rfl
  · obtain ⟨a, cs, b, rs, d, kvs, ws, rfl, hS, hh, hR, ho, hd, hv, hw, k⟩ := h
    have hle := hh.le
    have hrl := rooms_len hh ho
    refine ⟨_, (pss_cons (ps_set (i := 3) sc_law_short.nd rfl (.inr rfl) (pe_cal C_law_kinds (hr.mono (by decide)) (by rfl) (pa_cons (pv 0) pa_nil))) (pss_cons (ps_for PassesOwn.never rfl (pi_range1 (by rfl) T.z_range (pa_cons (pe_callB (r := rLenS K) call_len_seq (by rfl) T.z_len (by decide +kernel) (pa_cons (pv 0) pa_nil)) pa_nil)) (pg_name (i := 4) sc_law_short.nd rfl (.inl rfl)) (pss_one (ps_if (pt_cmpR op_gt (pe_cal C_law_at_least (hr.mono (by decide)) (by rfl) (pa_cons (pe_listVals rfl (pv 2) (by rfl) T.z_list) (pa_cons (pv 4) pa_nil))) (pe_cal C_law_at_least (hr.mono (by decide)) (by rfl) (pa_cons (pe_lc (own := [("_law_room", 5)]) (g := gName 5) (by rfl) sc_law_short.nd (pi_list (pv 1)) (blkOk_by (own := [("_law_room", 5)]) (N := ["_law_counts", "_law_rooms", "_law_wants_here", "_law_kinds_here", "_law_kind", "_law_room"]) (sc := defScope s_law_short) (by decide +kernel)) (fun _ _ _ _ _ => pg_name (i := 5) sc_law_short.nd rfl (Or.inl rfl)) (fun _ _ _ _ _ => pts_nil) (fun _ _ _ _ _ => (pe_ix (r := rIxL K) ix_list (pv 3) (pv 5) (fun _ _ => rfl)))) (pa_cons (pv 4) pa_nil))) (nomark _)) (pss_one (ps_ret (pv 4))) pss_nil))) (pss_one (ps_ret pe_non)))), ?_⟩
    refine q_asgL (el_call0 (ea_1 (ev_var rfl)) (l_kinds hS hh)) fun p H1 hp e1 h1 => ?_
    refine q_forR1 (n := (cs.length : Int)) (ea_1 (ev_of (ev_len' (ev_var rfl) (ex_l e1 hS)) (by rw [List.length_map]))) ⟨by omega, by omega⟩
      (fun i σ' H' => ∃ y4 y5, σ' = [some (.ref a), some (.ref b), some (.ref d), some (.ref p), y4, y5] ∧ Ex H1 H' ∧ ∀ j, j < i → decide (atLeast (rs.map (kd cs)) (j : Int) < atLeast ws (j : Int)) = false)
      (fun H2 e2 => ⟨none, none, rfl, e2, fun j hj => absurd hj (Nat.not_lt_zero j)⟩) ?_ ?_
    · rintro i σ' H2 hi ⟨y4, y5, rfl, e2, hn⟩
      have e02 := e1.trans e2
      have e34 : decide ((atLeast (rs.map (kd cs)) (i : Int) : Int) < (atLeast ws (i : Int) : Int)) = decide (atLeast (rs.map (kd cs)) (i : Int) < atLeast ws (i : Int)) := decide_eq_decide.mpr ⟨fun h => Int.ofNat_lt.mp h, fun h => Int.ofNat_lt.mpr h⟩
      refine s_when (et_test (ev_cmp (ev_callLV (xs := ws.map V.int) (el_is (el_vals (ev_var rfl) (e02 _ _ hd)) hv) (ev_var rfl) fun q H3 e3 h3 => v_at_least (sq_of h3) hw (i : Int))
        (ev_callLV (xs := (rs.map (kd cs)).map V.int) (el_is (el_lcA rs V.int (fun _ => true) (fun r => .int (kd cs r)) (ev_var rfl) (ex_l e02 hR) (by omega) (fun _ => rfl) (fun x _ H3 _ => et_yes)
          (fun x hx _ H3 e3 => ev_ixL (ev_var rfl) (ev_var rfl) (sq_of ((e2.trans e3) _ _ h1)) (kd_in (ho.ok x hx).1 (ho.ok x hx).2))) (by rw [filter_tt, List.map_map]; rfl)) (ev_var rfl) fun q H3 e3 h3 => v_at_least (sq_of h3) (by rw [List.length_map]; omega) (i : Int)))) (fun hb H5 e5 => ?_) (fun hb H5 e5 => ?_)
      · rw [e34] at hb
        refine s_ret (ev_var rfl) fun H6 e6 => ?_
        have es : shortL cs.length ws (rs.map (kd cs)) = some i := find_range (by omega) hb hn
        rw [es] at k
        exact k H6 ((e02.trans e5).trans e6)
      · rw [e34] at hb
        refine ⟨_, _, rfl, e2.trans e5, fun j hj => ?_⟩
        by_cases q : j = i
        · subst q
          exact hb
        · exact hn j (by omega)
    · rintro σ' H2 ⟨y4, y5, rfl, e2, hn⟩
      rw [Int.toNat_natCast] at hn
      have es : shortL cs.length ws (rs.map (kd cs)) = none := find_range_none hn
      rw [es] at k
      exact s_ret ev_c fun H3 e3 => k H3 ((e1.trans e2).trans e3)
end

/-! ### the first short night -/
def nightP (cs : List Int) (m l : List Ent) (n : Int) : Option Nat := shortP cs (roomsOn cs ((kindsOn m n).map fun p : Int × Int => p.2)) ((kindsOn l n).map fun p : Int × Int => p.2)
def roomsL (cs : List Int) (m : List Ent) (n : Int) : List Int := (openR cs (shutL m n)).map fun r : Nat => (r : Int)
def nightL (cs : List Int) (m l : List Ent) (n : Int) : Option Nat := shortL cs.length ((wantsL l n).map fun p : Int × Int => p.2) ((roomsL cs m n).map (kd cs))
theorem roomsL_ok {cs : List Int} (m : List Ent) (n : Int) : RoomsOk cs (roomsL cs m n) := by
  unfold roomsL
  refine ⟨fun r hr => ?_, ?_⟩
  · obtain ⟨x, hx, rfl⟩ := List.mem_map.mp hr
    have := openR_lt x hx
    omega
  · rw [List.pairwise_map]
    refine ((List.pairwise_lt_range (n := (kinds cs).length)).sublist List.filter_sublist).imp fun h => ?_
    omega
theorem night_eq {cs : List Int} {m l : List Ent} (hh : House cs) (hm : (m.map Ent.num).Nodup) (hl : (l.map Ent.num).Nodup) (om : ∀ e ∈ m, SpanOk cs.length e) (ol : ∀ e ∈ l, SpanOk cs.length e) (n : Int) : nightP cs m l n = nightL cs m l n := by
  unfold nightP nightL
  rw [kindsOn_eq hm om, kindsOn_eq hl ol]
  have e : roomsOn cs ((wantsL m n).map fun p : Int × Int => p.2) = roomsL cs m n := by
    unfold roomsL
    rw [← openR_eq hh, openR_congr fun k => (mem_shut hm n k).symm]
  rw [e]
  exact shortP_eq hh (roomsL_ok m n) _
def firstN (g : Int → Option Nat) : Option (Nat × Nat) := (List.range 40).findSome? fun n : Nat => (g (n : Int)).map fun k => (n, k)
theorem firstN_some {g : Int → Option Nat} {i k : Nat} (hi : i < 40) (h : g (i : Int) = some k) (hn : ∀ j : Nat, j < i → g (j : Int) = none) : firstN g = some (i, k) := by
  unfold firstN
  obtain ⟨m, hm⟩ : ∃ m, 40 = i + (m + 1) := ⟨40 - i - 1, by omega⟩
  rw [hm, List.range_add, List.findSome?_append, List.findSome?_eq_none_iff.mpr fun x hx => by rw [hn x (List.mem_range.mp hx)]; rfl, List.range_succ_eq_map, List.map_cons, List.findSome?_cons, Nat.add_zero, h]
  rfl
theorem firstN_none {g : Int → Option Nat} (hn : ∀ j : Nat, j < 40 → g (j : Int) = none) : firstN g = none := List.findSome?_eq_none_iff.mpr fun x hx => by rw [hn x (List.mem_range.mp hx)]; rfl
def TupO (o : Option (Nat × Nat)) (v : V) (H : Hp) : Prop := match o with
  | none => v = .non
  | some (n, k) => ∃ t, v = .ref t ∧ H t = some (.tup [.int (n : Int), .int (k : Int)])
def sp_short_night (K : PySem.W.Frag) : Sp := fun vs H Q _ => ∃ (a : Addr) (cs : List Int) (c : Addr) (m : List Ent) (d : Addr) (l : List Ent), vs = [.ref a, .ref c, .ref d] ∧ SqL K H a (cs.map V.int) ∧ House cs ∧ Sps H c m ∧ m.length < 64 ∧ Sps H d l ∧ l.length < 64 ∧
  ∀ v H', Ex H H' → TupO (firstN (nightP cs m l)) v H' → Q v H'
def sp_due (K : PySem.W.Frag) : Sp := fun vs H Q _ => ∃ (a : Addr) (cs : List Int) (c : Addr) (m : List Ent) (d : Addr) (l : List Ent), vs = [.ref a, .ref c, .ref d] ∧ SqL K H a (cs.map V.int) ∧ House cs ∧ Sps H c m ∧ m.length < 64 ∧ Sps H d l ∧ l.length < 64 ∧
  ∀ v H', Ex H H' → TupO (firstN (nightL cs m l)) v H' → Q v H'
def sp_right (K : PySem.W.Frag) : Sp := fun vs H Q _ => ∃ (a : Addr) (cs : List Int) (c : Addr) (m : List Ent) (d : Addr) (l : List Ent), vs = [.ref a, .ref c, .ref d] ∧ SqL K H a (cs.map V.int) ∧ House cs ∧ Sps H c m ∧ m.length < 64 ∧ Sps H d l ∧ l.length < 64 ∧
  (∀ e ∈ m, SpanOk cs.length e) ∧ (∀ e ∈ l, SpanOk cs.length e) ∧ RetV (.bl true) H Q
section
variable {P : Program} {w : World} {K : PySem.W.Frag} {mg : Str → Option Value} {base : Heap}
theorem cal_short_night (D : Dn K mg "short_night" s_short_night ["counts", "closings", "stays"]) (T : Tp mg) (C_rooms_on : Cal P w K mg base "rooms_on" 3 ["counts", "closings", "night"] (sp_rooms_on K)) (C_wants_on : Cal P w K mg base "wants_on" 2 ["stays", "night"] sp_kinds_on)
    (C_short_kind : Cal P w K mg base "short_kind" 3 ["counts", "rooms", "wants"] (sp_short_kind K)) : Cal P w K mg base "short_night" 4 ["counts", "closings", "stays"] (sp_short_night K) := by
  refine cal_of D sc_short_night (fun vs H Q E h => ?_) (fun f cdv A outer s H vs Q E hr h => ?_)
  · obtain ⟨a, cs, c, m, d, l, rfl, _⟩ := h
    rfl
  · obtain ⟨a, cs, c, m, d, l, rfl, hS, hh, M, hm, S, hl, k⟩ := h
    have hle := hh.le
    refine ⟨_, (pss_cons (ps_for PassesOwn.never rfl (pi_range1 (by rfl) T.z_range (pa_cons (pe_glob (v := .int 40) rfl T.g_NIGHTS.choose_spec ⟨_, rfl⟩) pa_nil)) (pg_name (i := 3) sc_short_night.nd rfl (.inl rfl)) (pss_cons (ps_set (i := 4) sc_short_night.nd rfl (.inl rfl) (pe_cal C_rooms_on (hr.mono (by decide)) (by rfl) (pa_cons (pv 0) (pa_cons (pv 1) (pa_cons (pv 3) pa_nil))))) (pss_cons (ps_set (i := 5) sc_short_night.nd rfl (.inl rfl) (pe_cal C_short_kind (hr.mono (by decide)) (by rfl) (pa_cons (pv 0) (pa_cons (pv 4) (pa_cons (pe_cal C_wants_on (hr.mono (by decide)) (by rfl) (pa_cons (pv 2) (pa_cons (pv 3) pa_nil))) pa_nil))))) (pss_one (ps_if (pt_cmpR op_notN (pv 5) pe_non (nomark _)) (pss_one (ps_ret (pe_tup (pa_cons (pv 3) (pa_cons (pv 5) pa_nil))))) pss_nil))))) (pss_one (ps_ret pe_non))), ?_⟩
    refine q_forR1 (n := 40) (ea_1 ev_c) ⟨by decide, by decide⟩ (fun i σ' H' => ∃ y3 y4 y5, σ' = [some (.ref a), some (.ref c), some (.ref d), y3, y4, y5] ∧ Ex H H' ∧ ∀ j : Nat, j < i → nightP cs m l (j : Int) = none)
      (fun H1 e1 => ⟨none, none, none, rfl, e1, fun j hj => absurd hj (Nat.not_lt_zero j)⟩) ?_ ?_
    · rintro i σ' H1 hi ⟨y3, y4, y5, rfl, e1, hn⟩
      have hi : i < 40 := by omega
      refine q_asgL (el_call0 (ea_3 (ev_var rfl) (ev_var rfl) (ev_var rfl)) (l_rooms_on (ex_l e1 hS) hh (M.mono e1) hm (i : Int))) fun p H2 hp e2 h2 => ?_
      have e02 := e1.trans e2
      have hrl := roomsOn_take_len hh ((kindsOn m (i : Int)).map (·.2))
      have hwl : ((kindsOn l (i : Int)).map fun p : Int × Int => p.2).length ≤ 1000 := by
        rw [List.length_map]
        unfold kindsOn
        split
        · have := wants_len l (i : Int)
          omega
        · exact Nat.zero_le _
      refine q_asg (v := onV (nightP cs m l (i : Int))) (ev_callVVD (ev_var rfl) (ev_var rfl) (ed_call0 (ea_2 (ev_var rfl) (ev_var rfl)) (d_kinds_on (S.mono e02) hl (i : Int))) fun q H3 e3 h3 H4 e4 Q' q' E' => ⟨a, cs, p, _, q, _, _, rfl, ex_l ((e02.trans e3).trans e4) hS, hle, sq_of ((e3.trans e4) _ _ h2), by omega, e4 _ _ h3, kvI_vals _, hwl, q'⟩) fun H3 e3 => ?_
      have e03 := e02.trans e3
      cases hg : nightP cs m l (i : Int) with
      | none =>
        refine s_when (b := false) (et_is (et_test (ev_notN (ev_var rfl))) (by simp [onV])) (fun z => nomatch z) (fun _ H4 e4 => ⟨_, _, _, rfl, e03.trans e4, fun j hj => ?_⟩)
        by_cases q : j = i
        · subst q
          exact hg
        · exact hn j (by omega)
      | some n =>
        refine s_when (b := true) (et_is (et_test (ev_notN (ev_var rfl))) (by simp [onV])) (fun _ H4 e4 => ?_) (fun z => nomatch z)
        refine s_retU (eu_tup (ea_2 (ev_var rfl) (ev_var rfl)) (by show 2 ≤ 100000; decide)) fun t H5 _ e5 h5 => ?_
        have ef := firstN_some hi hg hn
        exact k _ H5 ((e03.trans e4).trans e5) (by rw [ef]; exact ⟨t, rfl, h5⟩)
    · rintro σ' H1 ⟨y3, y4, y5, rfl, e1, hn⟩
      have ef : firstN (nightP cs m l) = none := firstN_none hn
      exact s_ret ev_c fun H2 e2 => k _ H2 (e1.trans e2) (by rw [ef]; rfl)
theorem cal_due (D : Dn K mg "_law_due" s_law_due ["_law_counts", "_law_closings", "_law_stays"]) (T : Tp mg) (C_law_short : Cal P w K mg base "_law_short" 2 ["_law_counts", "_law_rooms", "_law_wants_here"] (sp_short K)) (C_law_open : Cal P w K mg base "_law_open" 2 ["_law_counts", "_law_closings", "_law_night"] (sp_open K))
    (C_law_wants : Cal P w K mg base "_law_wants" 1 ["_law_stays", "_law_night"] sp_wants) : Cal P w K mg base "_law_due" 3 ["_law_counts", "_law_closings", "_law_stays"] (sp_due K) := by
  refine cal_of D sc_law_due (fun vs H Q E h => ?_) (fun f cdv A outer s H vs Q E hr h => ?_)
  · obtain ⟨a, cs, c, m, d, l, rfl, _⟩ := h
    rfl
  · obtain ⟨a, cs, c, m, d, l, rfl, hS, hh, M, hm, S, hl, k⟩ := h
    have hle := hh.le
    refine ⟨_, (pss_cons (ps_for PassesOwn.never rfl (pi_range1 (by rfl) T.z_range (pa_cons pe_int pa_nil)) (pg_name (i := 3) sc_law_due.nd rfl (.inl rfl)) (pss_cons (ps_set (i := 4) sc_law_due.nd rfl (.inl rfl) (pe_cal C_law_short (hr.mono (by decide)) (by rfl) (pa_cons (pv 0) (pa_cons (pe_cal C_law_open (hr.mono (by decide)) (by rfl) (pa_cons (pv 0) (pa_cons (pv 1) (pa_cons (pv 3) pa_nil)))) (pa_cons (pe_cal C_law_wants (hr.mono (by decide)) (by rfl) (pa_cons (pv 2) (pa_cons (pv 3) pa_nil))) pa_nil))))) (pss_one (ps_if (pt_cmpR op_notN (pv 4) pe_non (nomark _)) (pss_one (ps_ret (pe_tup (pa_cons (pv 3) (pa_cons (pv 4) pa_nil))))) pss_nil)))) (pss_one (ps_ret pe_non))), ?_⟩
    refine q_forR1 (n := 40) (ea_1 ev_c) ⟨by decide, by decide⟩ (fun i σ' H' => ∃ y3 y4, σ' = [some (.ref a), some (.ref c), some (.ref d), y3, y4] ∧ Ex H H' ∧ ∀ j : Nat, j < i → nightL cs m l (j : Int) = none)
      (fun H1 e1 => ⟨none, none, rfl, e1, fun j hj => absurd hj (Nat.not_lt_zero j)⟩) ?_ ?_
    · rintro i σ' H1 hi ⟨y3, y4, rfl, e1, hn⟩
      have hi : i < 40 := by omega
      have hwl := wants_len l (i : Int)
      refine q_asg (v := onV (nightL cs m l (i : Int))) (ev_callVLD (xs := (roomsL cs m (i : Int)).map V.int) (ev_var rfl) (el_is (el_call0 (ea_3 (ev_var rfl) (ev_var rfl) (ev_var rfl)) (l_open (ex_l e1 hS) hh (M.mono e1) hm (i : Int))) (by unfold roomsL; rw [List.map_map]; rfl)) (ed_call0 (ea_2 (ev_var rfl) (ev_var rfl)) (d_wants (S.mono e1) hl (i : Int)))
        fun p q H3 e3 h3 h3' H4 e4 Q' q' E' => ⟨a, cs, p, _, q, _, _, rfl, ex_l ((e1.trans e3).trans e4) hS, hh, sq_of (e4 _ _ h3), roomsL_ok m (i : Int), e4 _ _ h3', kvI_vals _, by rw [List.length_map]; omega, q'⟩) fun H3 e3 => ?_
      have e03 := e1.trans e3
      cases hg : nightL cs m l (i : Int) with
      | none =>
        refine s_when (b := false) (et_is (et_test (ev_notN (ev_var rfl))) (by simp [onV])) (fun z => nomatch z) (fun _ H4 e4 => ⟨_, _, rfl, e03.trans e4, fun j hj => ?_⟩)
        by_cases q : j = i
        · subst q
          exact hg
        · exact hn j (by omega)
      | some n =>
        refine s_when (b := true) (et_is (et_test (ev_notN (ev_var rfl))) (by simp [onV])) (fun _ H4 e4 => ?_) (fun z => nomatch z)
        refine s_retU (eu_tup (ea_2 (ev_var rfl) (ev_var rfl)) (by show 2 ≤ 100000; decide)) fun t H5 _ e5 h5 => ?_
        have ef := firstN_some hi hg hn
        exact k _ H5 ((e03.trans e4).trans e5) (by rw [ef]; exact ⟨t, rfl, h5⟩)
    · rintro σ' H1 ⟨y3, y4, rfl, e1, hn⟩
      have ef : firstN (nightL cs m l) = none := firstN_none hn
      exact s_ret ev_c fun H2 e2 => k _ H2 (e1.trans e2) (by rw [ef]; rfl)
end

theorem eqV_ints {K : PySem.W.Frag} {H : Hp} {n : Nat} : ∀ cs : List Int, Paired (EqV K H (n + 1)) (cs.map V.int) (cs.map V.int)
  | [] => .nil
  | c :: r => .cons (.inl ⟨rfl, rfl⟩) (eqV_ints r)
theorem eqV_il {K : PySem.W.Frag} {H : Hp} {n : Nat} {p q : Addr} {cs : List Int} (h1 : SqL K H p (cs.map V.int)) (h2 : SqL K H q (cs.map V.int)) : EqV K H (n + 2) (.ref p) (.ref q) := .inr (.inr (.inl ⟨p, q, _, _, rfl, rfl, h1, h2, eqV_ints cs⟩))
theorem eqV_sps {K : PySem.W.Frag} {H : Hp} {n : Nat} {p q : Addr} {l : List Ent} (h1 : H p = some (.dK (l.map Ent.kv))) (h2 : H q = some (.dK (l.map Ent.kv))) (nd : (l.map Ent.num).Nodup) : EqV K H (n + 2) (.ref p) (.ref q) :=
  .inr (.inr (.inr ⟨p, q, _, _, rfl, rfl, h1, h2, rfl, fun x hx => by
    have hn : ((l.map Ent.kv).map (·.1)).Nodup := by
      rw [kv_keys, List.nodup_iff_pairwise_ne, List.pairwise_map]
      exact (List.nodup_iff_pairwise_ne.mp nd).imp fun h z => h (Sum.inl.inj z)
    obtain ⟨e, _, rfl⟩ := List.mem_map.mp hx
    exact ⟨_, valV_mem hn hx, .inr (.inl ⟨e.at_, rfl, rfl⟩)⟩⟩))

def spLaw (K : PySem.W.Frag) : Sp := fun vs H Q _ => ∃ (a : Addr) (ns : List Int), vs = [.ref a] ∧ SqL K H a (ns.map V.int) ∧ ns.length ≤ 63 ∧ ∀ H', Q (.bl true) H'
theorem pair_data (n k : Nat) : PyData.eqv (.tuple [.int (n : Int), .int (k : Int)]) (.tuple [.int (n : Int), .int (k : Int)]) = true := by
  show (((n : Int) == (n : Int)) && (((k : Int) == (k : Int)) && true)) = true
  simp
theorem pair_shaped (n k : Nat) : SeqAt.shaped (.tuple [.int (n : Int), .int (k : Int)]) = true := rfl
theorem pair_dp {K : PySem.W.Frag} {H : Hp} {t : Addr} {n k : Nat} (h : H t = some (.tup [.int (n : Int), .int (k : Int)])) : Dp K H (.ref t) (.tuple [.int (n : Int), .int (k : Int)]) := .tup (st_of h) (.cons (.int _) (.cons (.int _) .nil))
/-- without those that f leaves out -/
theorem fewer_kv {l : List Ent} (nd : (l.map Ent.num).Nodup) (f : Int → Bool) (g : Int → Key × V) (hg : ∀ e ∈ l, g e.num = Ent.kv e) : ((nums l).filter f).map g = (l.filter fun e => f e.num).map Ent.kv := by
  unfold nums
  rw [List.filter_map, List.map_map]
  exact List.map_congr_left fun e he => hg e ((List.mem_filter.mp he).1)
theorem kv_nodup {l : List Ent} (nd : (l.map Ent.num).Nodup) : ((l.map Ent.kv).map (·.1)).Nodup := by
  rw [kv_keys, List.nodup_iff_pairwise_ne, List.pairwise_map]
  exact (List.nodup_iff_pairwise_ne.mp nd).imp fun h z => h (Sum.inl.inj z)
section
variable {P : Program} {w : World} {K : PySem.W.Frag} {mg : Str → Option Value} {base : Heap}
theorem cal_right (D : Dn K mg "_law_right" s_law_right ["_law_counts", "_law_closings", "_law_stays"]) (T : Tp mg) (C_law_due : Cal P w K mg base "_law_due" 3 ["_law_counts", "_law_closings", "_law_stays"] (sp_due K)) (C_short_night : Cal P w K mg base "short_night" 4 ["counts", "closings", "stays"] (sp_short_night K))
    (C_law_wholes : Cal P w K mg base "_law_wholes" 2 ["_law_found"] (sp_wholes K)) : Cal P w K mg base "_law_right" 5 ["_law_counts", "_law_closings", "_law_stays"] (sp_right K) := by
  refine cal_of D sc_law_right (fun vs H Q E h => ?_) (fun f cdv A outer s H vs Q E hr h => ?_)
  · obtain ⟨a, cs, c, m, d, l, rfl, _⟩ := h
    rfl
  · obtain ⟨a, cs, c, m, d, l, rfl, hS, hh, M, hm, S, hl, om, ol, k⟩ := h
    refine ⟨_, (pss_cons (ps_set (i := 3) sc_law_right.nd rfl (.inl rfl) (pe_cal C_law_due (hr.mono (by decide)) (by rfl) (pa_cons (pv 0) (pa_cons (pv 1) (pa_cons (pv 2) pa_nil))))) (pss_cons (ps_set (i := 4) sc_law_right.nd rfl (.inl rfl) (pe_cal C_short_night (hr.mono (by decide)) (by rfl) (pa_cons (pv 0) (pa_cons (pv 1) (pa_cons (pv 2) pa_nil))))) (pss_cons (ps_if (pt_cmpR op_isN (pv 3) pe_non (nomark _)) (pss_one (ps_ret (pe_cmpR op_isN (pv 4) pe_non (nomark _)))) pss_nil) (pss_one (ps_ret (pe_and (pe_callB (r := rIsi K) call_isi (by rfl) T.z_isinstance (by decide +kernel) (pa_cons (pv 4) (pa_cons (pe_bltn (v := .ty "tuple") (by rfl) T.z_tuple (by decide +kernel) rfl) pa_nil))) (pe_and (pe_cal C_law_wholes (hr.mono (by decide)) (by rfl) (pa_cons (pe_callTy call_list_of (by rfl) T.z_list (by decide +kernel) (pa_cons (pv 4) pa_nil)) pa_nil)) (pe_one (pe_cmpR (r := rEqD K) (op_eqD hr.units) (pv 4) (pv 3) (nomark _)))))))))), ?_⟩
    have eg : nightP cs m l = nightL cs m l := funext fun n => night_eq hh M.nd S.nd om ol n
    refine q_asgC (R := fun v _ H3 => TupO (firstN (nightL cs m l)) v H3) (ea_3 (ev_var rfl) (ev_var rfl) (ev_var rfl)) (fun H2 e2 Q' q' E' => ⟨a, cs, c, m, d, l, rfl, ex_l e2 hS, hh, M.mono e2, hm, S.mono e2, hl, fun v H3 e3 h3 => q' v H3 e3 h3⟩) ?_
    rintro v H1 H2 e1 e2 hv
    have e02 := e1.trans e2
    refine q_asgC (R := fun v _ H3 => TupO (firstN (nightL cs m l)) v H3) (ea_3 (ev_var rfl) (ev_var rfl) (ev_var rfl)) (fun H3 e3 Q' q' E' => ⟨a, cs, c, m, d, l, rfl, ex_l (e02.trans e3) hS, hh, M.mono (e02.trans e3), hm, S.mono (e02.trans e3), hl, fun v H4 e4 h4 => q' v H4 e4 (by rw [← eg]; exact h4)⟩) ?_
    rintro u H3 H4 e3 e4 hu
    have e24 := e3.trans e4
    have e04 := e02.trans e24
    cases ho : firstN (nightL cs m l) with
    | none =>
      rw [ho] at hv hu
      have hv : v = .non := hv
      have hu : u = .non := hu
      subst hv hu
      refine q_when (b := true) (et_is (et_test (ev_isN (ev_var rfl))) rfl) (fun _ H5 e5 => ?_) (fun z => nomatch z)
      exact s_ret (ev_of (ev_isN (ev_var rfl)) rfl) fun H6 e6 => k H6 ((e04.trans e5).trans e6)
    | some o =>
      obtain ⟨n, j⟩ := o
      rw [ho] at hv hu
      obtain ⟨t, rfl, ht⟩ := hv
      obtain ⟨t', rfl, ht'⟩ := hu
      refine q_when (b := false) (et_is (et_test (ev_isN (ev_var rfl))) (by simp)) (fun z => nomatch z) (fun _ H5 e5 => ?_)
      have h5 := (e24.trans e5) _ _ ht
      have h5' := e5 _ _ ht'
      refine s_ret (ev_of (ev_andV (a := true) (b := true) (ev_isi (a := "tuple") (ev_var rfl) (fun _ e => .base (.tup (e _ _ h5'))) (by decide +kernel)) fun _ => ev_andV (a := true) (b := true) (ev_callL (xs := [.int (n : Int), .int (j : Int)]) ?_ fun p H6 e6 h6 => v_wholes (ns := [(n : Int), (j : Int)]) h6 (by show 2 ≤ 1000; decide)) fun _ => ev_op (ev_var rfl) (ev_var rfl) ?_) rfl) fun H6 e6 => k H6 ((e04.trans e5).trans e6)
      · exact fun H6 e6 Q' q' => ev_var (i := 4) rfl H6 e6 _ fun H7 e7 => ⟨t', _, rfl, .inr (st_of ((e6.trans e7) _ _ h5')), fun p hp => q' p _ (fresh_back e7 hp) (e7.trans (Ex.new hp)) upd_same⟩
      · exact fun H6 e6 Q' q' => ⟨_, _, pair_dp (e6 _ _ h5'), pair_dp (e6 _ _ h5), pair_shaped n j, pair_shaped n j, by rw [pair_data]; exact q' H6 (Ex.refl _)⟩
theorem ok_law {f : Addr} {fd : FuncData} (F : Fun K "law" "law" s_law f fd) (T : Tp mg) (C_law_cell : Cal P w K mg base "_law_cell" 1 ["_law_script", "_law_k"] (sp_cell K)) (C_law_house_by : Cal P w K mg base "_law_house_by" 2 ["_law_script"] (sp_house_by K))
    (C_law_spans_by : Cal P w K mg base "_law_spans_by" 3 ["_law_script", "_law_k", "_law_count", "_law_many"] (sp_spans_by K)) (C_law_right : Cal P w K mg base "_law_right" 5 ["_law_counts", "_law_closings", "_law_stays"] (sp_right K)) (C_law_due : Cal P w K mg base "_law_due" 3 ["_law_counts", "_law_closings", "_law_stays"] (sp_due K))
    (C_law_wants : Cal P w K mg base "_law_wants" 1 ["_law_stays", "_law_night"] sp_wants) : FnOk P w K mg base CX0 6 f fd ["_law_script"] (spLaw K) := by
  refine F.ok sc_law (fun vs H Q E h => ?_) (fun cdv A outer s H vs Q E hr h => ?_)
  · obtain ⟨a, ns, rfl, _⟩ := h
    rfl
  · obtain ⟨a, ns, rfl, hS, hl, k⟩ := h
    refine ⟨_, (pss_cons (ps_set (i := 1) sc_law.nd rfl (.inl rfl) (pe_cal C_law_house_by (hr.mono (by decide)) (by rfl) (pa_cons (pv 0) pa_nil))) (pss_cons (ps_set (i := 2) sc_law.nd rfl (.inr rfl) (pe_cal C_law_spans_by (hr.mono (by decide)) (by rfl) (pa_cons (pv 0) (pa_cons pe_int (pa_cons (pe_op op_mod (pe_cal C_law_cell (hr.mono (by decide)) (by rfl) (pa_cons (pv 0) (pa_cons pe_int pa_nil))) pe_int) (pa_cons (pe_callB (r := rLenS K) call_len_seq (by rfl) T.z_len (by decide +kernel) (pa_cons (pv 1) pa_nil)) pa_nil)))))) (pss_cons (ps_set (i := 3) sc_law.nd rfl (.inl rfl) (pe_cal C_law_spans_by (hr.mono (by decide)) (by rfl) (pa_cons (pv 0) (pa_cons pe_int (pa_cons (pe_op op_mod (pe_cal C_law_cell (hr.mono (by decide)) (by rfl) (pa_cons (pv 0) (pa_cons pe_int pa_nil))) pe_int) (pa_cons (pe_callB (r := rLenS K) call_len_seq (by rfl) T.z_len (by decide +kernel) (pa_cons (pv 1) pa_nil)) pa_nil)))))) (pss_cons (ps_set (i := 4) sc_law.nd rfl (.inl rfl) (pe_lst (pa_cons (pe_callTy call_list_of (by rfl) T.z_list (by decide +kernel) (pa_cons (pv 1) pa_nil)) (pa_cons (pe_callTy call_dictD (by rfl) T.z_dict (by decide +kernel) (pa_cons (pv 3) pa_nil)) (pa_cons (pe_callTy call_dictD (by rfl) T.z_dict (by decide +kernel) (pa_cons (pv 2) pa_nil)) pa_nil))))) (pss_cons (ps_if (PW.pt (pw_or (pt_not (pt_val (pe_cal C_law_right (hr.mono (by decide)) (by rfl) (pa_cons (pe_ix (r := rIxL K) ix_list (pv 4) pe_int (fun _ _ => rfl)) (pa_cons (pe_ix (r := rIxL K) ix_list (pv 4) pe_int (fun _ _ => rfl)) (pa_cons (pe_ix (r := rIxL K) ix_list (pv 4) pe_int (fun _ _ => rfl)) pa_nil)))))) (pw_or1 (pt_cmpR (r := rNeV K) (op_neV hr.units) (pv 4) (pe_lst (pa_cons (pv 1) (pa_cons (pv 3) (pa_cons (pv 2) pa_nil)))) (nomark _))))) (pss_one (ps_ret pe_bl)) pss_nil) (pss_cons (ps_set (i := 5) sc_law.nd rfl (.inr rfl) (pe_cal C_law_due (hr.mono (by decide)) (by rfl) (pa_cons (pv 1) (pa_cons (pv 3) (pa_cons (pv 2) pa_nil))))) (pss_cons (ps_if (pt_cmpR op_isN (pv 5) pe_non (nomark _)) (pss_one (ps_ret pe_bl)) pss_nil) (pss_cons (ps_set (i := 6) sc_law.nd rfl (.inr rfl) (pe_cal C_law_wants (hr.mono (by decide)) (by rfl) (pa_cons (pv 2) (pa_cons (pe_ix (r := rIxT K) ix_tup (pv 5) pe_int (fun _ _ => rfl)) pa_nil)))) (pss_cons (ps_set (i := 7) sc_law.nd rfl (.inl rfl) (pe_callTy (r := rDictP K) (call_dictP rfl) (by rfl) T.z_dict (by decide +kernel) (pa_cons (pe_lock (pe_lc (own := [("_law_one", 8)]) (g := gName 8) (by rfl) sc_law.nd (pi_keys (pv 2)) (blkOk_by (own := [("_law_one", 8)]) (N := ["_law_script", "_law_counts", "_law_stays", "_law_closings", "_law_handed", "_law_due_here", "_law_wants_here", "_law_fewer", "_law_one"]) (sc := defScope s_law) (by decide +kernel)) (fun _ _ _ _ _ => pg_name (i := 8) sc_law.nd rfl (Or.inl rfl)) (fun _ _ _ _ _ => (pts_one (PW.pt (pw_or (pt_cmp (pc_dnotin (hu_of hr) (pv 8) (pv 6))) (pw_or1 (pt_cmpR op_lt (pe_dget (hu_of hr) (pv 6) (pv 8) (fun _ _ => rfl)) (pe_ix (r := rIxT K) ix_tup (pv 5) pe_int (fun _ _ => rfl)) (nomark _))))))) (fun _ _ _ _ _ => (pe_tup (pa_cons (pv 8) (pa_cons (pe_dget (hu_of hr) (pv 2) (pv 8) (fun _ _ => rfl)) pa_nil)))))) pa_nil))) (pss_one (ps_ret (pe_and (pe_cal C_law_right (hr.mono (by decide)) (by rfl) (pa_cons (pv 1) (pa_cons (pv 3) (pa_cons (pv 7) pa_nil)))) (pe_one (pe_cal C_law_right (hr.mono (by decide)) (by rfl) (pa_cons (pv 1) (pa_cons (pv 3) (pa_cons (pv 2) pa_nil))))))))))))))))), ?_⟩
    have cE : ∀ {σ : L2.St} {H' : Hp} {tk : TE} {j : Int}, Ex H H' → σ[0]? = some (some (.ref a)) → Ev tk σ H' (.int j) → 0 ≤ j → j < 10000 → Ev (tCall (sp_cell K) [] E0 (tCons (tVar 0) (tCons tk tNil))) σ H' (.int (cell ns j)) := fun e hv hk h0 h1 => ev_cell (ex_l e hS) hl hv hk h0 h1
    refine q_asgC (R := fun v _ H3 => ∃ (p : Addr) (cs : List Int), v = .ref p ∧ House cs ∧ H3 p = some (.lst (cs.map V.int))) (ea_1 (ev_var rfl)) (fun H2 e2 Q' q' E' => ⟨a, ns, rfl, ex_l e2 hS, hl, fun p H3 cs hh hp e3 h3 => q' _ H3 e3 ⟨p, cs, rfl, hh, h3⟩⟩) ?_
    rintro v H0 H1 e0 e1' ⟨p, cs, rfl, hh, h1⟩
    have e1 := e0.trans e1'
    have hpos := hh.pos
    have hle := hh.le
    have m13 := mod_bd (cell ns 2) (m := 21) (by decide)
    have m6 := mod_bd (cell ns 3) (m := 6) (by decide)
    have lenC : ∀ {σ : L2.St} {H' : Hp}, Ex H1 H' → σ[1]? = some (some (.ref p)) → Ev (tCB (rLenS K) (tCons (tVar 1) tNil)) σ H' (.int (cs.length : Int)) := fun e hv => ev_of (ev_len' (ev_var hv) (sq_of (e _ _ h1))) (by rw [List.length_map])
    refine q_asgC (R := fun v _ H3 => ∃ (d : Addr) (l : List Ent), v = .ref d ∧ l.length = (cell ns 2 % 21).toNat ∧ (∀ e ∈ l, SpanOk cs.length e) ∧ Sps H3 d l) (ea_cons (ev_var rfl) (ea_3 (y := .int (((cell ns 2 % 21).toNat : Nat) : Int)) ev_c (ev_of (ev_mod (cE e1 rfl ev_c (by decide) (by decide)) ev_c (by decide)) (congrArg V.int (by omega))) (lenC (Ex.refl _) rfl)))
      (fun H2 e2 Q' q' E' => ⟨a, ns, 20, (cell ns 2 % 21).toNat, cs.length, rfl, ex_l (e1.trans e2) hS, hl, by decide, by omega, by omega, fun d H3 l hlen ol hd e3 S => q' _ H3 e3 ⟨d, l, rfl, hlen, ol, S⟩⟩) ?_
    rintro v H2 H3 e2 e3 ⟨d, l, rfl, hlen, ol, S⟩
    have e13 := e2.trans e3
    refine q_asgC (R := fun v _ H3 => ∃ (d : Addr) (l : List Ent), v = .ref d ∧ l.length = (cell ns 3 % 6).toNat ∧ (∀ e ∈ l, SpanOk cs.length e) ∧ Sps H3 d l) (ea_cons (ev_var rfl) (ea_3 (y := .int (((cell ns 3 % 6).toNat : Nat) : Int)) ev_c (ev_of (ev_mod (cE (e1.trans e13) rfl ev_c (by decide) (by decide)) ev_c (by decide)) (congrArg V.int (by omega))) (lenC e13 rfl)))
      (fun H2 e2 Q' q' E' => ⟨a, ns, 90, (cell ns 3 % 6).toNat, cs.length, rfl, ex_l ((e1.trans e13).trans e2) hS, hl, by decide, by omega, by omega, fun d H3 l hlen ol hd e3 S => q' _ H3 e3 ⟨d, l, rfl, hlen, ol, S⟩⟩) ?_
    rintro v H4 H5 e4 e5 ⟨c, m, rfl, hlem, om, M⟩
    have e35 := e4.trans e5
    have S5 := S.mono e35
    have h15 := (e13.trans e35) _ _ h1
    refine q_asgLst (P := fun vs H6 => ∃ p2 c2 d2, vs = [.ref p2, .ref c2, .ref d2] ∧ H6 p2 = some (.lst (cs.map V.int)) ∧ H6 c2 = some (.dK (m.map Ent.kv)) ∧ H6 d2 = some (.dK (l.map Ent.kv))) (fun Q' q' => ?_) (fun vs H6 ⟨_, _, _, e, _⟩ => by rw [e]; show 3 ≤ 1000; decide) ?_
    · refine el_list (ev_var rfl) (sq_of h15) H5 (Ex.refl _) _ fun p2 H6 _ e6 h6 => ?_
      refine ed_copy (ev_var rfl) M.dc H6 e6 _ fun c2 H7 _ e7 h7 => ?_
      refine ed_copy (ev_var rfl) S5.dc H7 (e6.trans e7) _ fun d2 H8 _ e8 h8 => ?_
      exact q' _ H8 ((e6.trans e7).trans e8) ⟨p2, c2, d2, rfl, (e7.trans e8) _ _ h6, e8 _ _ h7, h8⟩
    rintro vs hn H6 e6 ⟨p2, c2, d2, rfl, h6p, h6c, h6d⟩ hhn
    have e7 : Ex H6 (upd H6 hn (.lst [.ref p2, .ref c2, .ref d2])) := Ex.new hhn
    generalize hH7 : upd H6 hn (.lst [.ref p2, .ref c2, .ref d2]) = H7 at e7
    have h7n : H7 hn = some (.lst [.ref p2, .ref c2, .ref d2]) := by rw [← hH7, upd_same]
    have S7 : Sps H7 d l := S5.mono (e6.trans e7)
    have M7 : Sps H7 c m := M.mono (e6.trans e7)
    have S7' : Sps H7 d2 l := ⟨e7 _ _ h6d, S7.tp, S7.nd⟩
    have M7' : Sps H7 c2 m := ⟨e7 _ _ h6c, M7.tp, M7.nd⟩
    have h7p := e7 _ _ h6p
    have h7q := (e6.trans e7) _ _ h15
    have e07 := ((((e1.trans e13).trans e35)).trans e6).trans e7
    clear hH7
    have hx := sq_of (K := K) h7n
    have hml : m.length < 64 := by omega
    have hll : l.length < 64 := by omega
    -- right(handed..) and handed as it was
    refine q_when (b := false) (et_is (et_or (et_not (et_B (ev_call0 (z := .bl true) (ea_3 (ev_ixL (ev_var rfl) ev_c hx (atI_nat (j := 0) rfl)) (ev_ixL (ev_var rfl) ev_c hx (atI_nat (j := 1) rfl)) (ev_ixL (ev_var rfl) ev_c hx (atI_nat (j := 2) rfl))) ?_))) fun _ => et_test (b := false) (ev_opL (xs := [.ref p, .ref c, .ref d]) (ev_var rfl) (el_lst (ea_3 (ev_var rfl) (ev_var rfl) (ev_var rfl)) (by show 3 ≤ 100000; decide)) fun q H9 hq e9 H10 e10 Q' q' => ?_)) rfl) (fun z => nomatch z) (fun _ H8 e8 => ?_)
    · exact fun H8 e8 Q' q' E' => ⟨p2, cs, c2, m, d2, l, rfl, sq_of (e8 _ _ h7p), hh, M7'.mono e8, hml, S7'.mono e8, hll, om, ol, q'⟩
    · have g : ∀ {b o}, H7 b = some o → H10 b = some o := fun h => (e9.trans e10) _ _ h
      exact ⟨10, hn, q, _, _, by decide, rfl, rfl, .inr ⟨sq_of (g h7n), sq_of (e10 _ _ hq)⟩, .cons (eqV_il (sq_of (g h7p)) (sq_of (g h7q))) (.cons (eqV_sps (g M7'.dc) (g M7.dc) M7.nd) (.cons (eqV_sps (g S7'.dc) (g S7.dc) S7.nd) .nil)), q' H10 (Ex.refl _)⟩
    -- due, once more
    refine q_asgC (R := fun v _ H3 => TupO (firstN (nightL cs m l)) v H3) (ea_3 (ev_var rfl) (ev_var rfl) (ev_var rfl)) (fun H9 e9 Q' q' E' => ⟨p, cs, c, m, d, l, rfl, sq_of ((e8.trans e9) _ _ h7q), hh, M7.mono (e8.trans e9), hml, S7.mono (e8.trans e9), hll, fun v H3 e3 h3 => q' v H3 e3 h3⟩) ?_
    rintro v H9 H10 e9 e10 hv
    have e710 := (e8.trans e9).trans e10
    cases ho : firstN (nightL cs m l) with
    | none =>
      rw [ho] at hv
      have hv : v = .non := hv
      subst hv
      refine q_when (b := true) (et_is (et_test (ev_isN (ev_var rfl))) rfl) (fun _ H11 e11 => ?_) (fun z => nomatch z)
      exact s_ret ev_c fun H12 _ => k H12
    | some o =>
      obtain ⟨n, j⟩ := o
      rw [ho] at hv
      obtain ⟨t, rfl, ht⟩ := hv
      refine q_when (b := false) (et_is (et_test (ev_isN (ev_var rfl))) (by simp)) (fun z => nomatch z) (fun _ H11 e11 => ?_)
      have e711 := e710.trans e11
      have S11 := S7.mono e711
      have M11 := M7.mono e711
      refine q_asgD (ed_call0 (ea_2 (ev_var rfl) (ev_ixT (xs := [.int (n : Int), .int (j : Int)]) (ev_var rfl) ev_c (st_of (e11 _ _ ht)) (atI_nat (j := 0) rfl))) (d_wants S11 hll (n : Int))) fun wd H12 hwd e12 h12 => ?_
      have S12 := S11.mono e12
      have ht12 := (e11.trans e12) _ _ ht
      have hwd11 : H11 wd = none := hwd
      have hwdd : wd ≠ d := fun z => by
        rw [z, S11.dc] at hwd
        cases hwd
      generalize hwl : wantsL l (n : Int) = wl at h12
      have hkey : ∀ x ∈ nums l, ∃ e, look l x = some e ∧ e ∈ l ∧ e.num = x := fun x hx => look_some hx
      refine q_asgD (ed_is (kvs' := ((l.filter fun e => !(valV (wl.map kvI) (Sum.inl e.num : Key)).isSome || (match valV (wl.map kvI) (Sum.inl e.num : Key) with | some (.int u) => decide (u < (j : Int)) | _ => false)).map Ent.kv)) (ed_lcK (ks := nums l) (fun x => !(valV (wl.map kvI) (Sum.inl x : Key)).isSome || (match valV (wl.map kvI) (Sum.inl x : Key) with | some (.int u) => decide (u < (j : Int)) | _ => false)) (fun x => (Sum.inl x, match look l x with | some e => V.ref e.at_ | none => .non)) S12.dc (kv_keys l)
        (by unfold nums; rw [List.length_map]; omega) (fun _ => rfl) (fun od => ev_var rfl) (fun od x hx => ?_) (fun od x hx _ => ?_)) ?_) fun fw H13 hfw e13' h13 => ?_
      · have hrd : Rd (upd H12 d (.frz od (.dK (l.map Ent.kv)))) wd (.dK (wl.map kvI)) := .inl (by rw [upd_ne hwdd]; exact h12)
        refine et_or (et_B (ev_dnotinR (ev_var rfl) (ev_var rfl) hrd)) fun hb => ?_
        cases hval : valV (wl.map kvI) (Sum.inl x : Key) with
        | none =>
          rw [hval] at hb
          exact absurd hb (by decide)
        | some u =>
          have hu : ∃ z : Int, u = .int z := by
            unfold valV at hval
            cases hf : (wl.map kvI).find? fun kv => decide (kv.1 = (Sum.inl x : Key)) with
            | none =>
              rw [hf] at hval
              cases hval
            | some kv =>
              rw [hf] at hval
              obtain ⟨y, _, rfl⟩ := List.mem_map.mp (List.mem_of_find?_eq_some hf)
              exact ⟨y.2, (Option.some.inj hval).symm⟩
          obtain ⟨z, rfl⟩ := hu
          exact et_test (ev_cmp (ev_dgetR (ev_var rfl) (ev_var rfl) hrd hval) (ev_ixT (xs := [.int (n : Int), .int (j : Int)]) (ev_var rfl) ev_c (st_of (lock_at S12.dc ht12 fun k z => by cases z)) (atI_nat (j := 1) rfl)))
      · obtain ⟨e, he, hmem, hnum⟩ := hkey x hx
        rw [he]
        exact eu_tup (ea_2 (ev_var rfl) (ev_dgetR (ev_var rfl) (ev_var rfl) lock_rd (by rw [look_val, he]; rfl))) (by show 2 ≤ 100000; decide)
      · rw [fewer_kv S12.nd _ _ fun e he => by rw [look_mem S12.nd he]; rfl, mergeK_nodup]
        · rfl
        · rw [List.nil_append]
          exact kv_nodup (S12.nd.sublist (List.filter_sublist.map _))
      generalize hfl : (l.filter fun e => !(valV (wl.map kvI) (Sum.inl e.num : Key)).isSome || (match valV (wl.map kvI) (Sum.inl e.num : Key) with | some (.int u) => decide (u < (j : Int)) | _ => false)) = fl at h13
      have hfm : ∀ e ∈ fl, e ∈ l := fun e he => by
        rw [← hfl] at he
        exact (List.mem_filter.mp he).1
      have hflen : fl.length ≤ l.length := by
        rw [← hfl]
        exact List.length_filter_le _ _
      have hfnd : (fl.map Ent.num).Nodup := by
        rw [← hfl]
        exact S12.nd.sublist (List.filter_sublist.map _)
      have F13 : Sps H13 fw fl := ⟨h13, fun e he => e13' _ _ (S12.tp e (hfm e he)), hfnd⟩
      have e713 := (e711.trans e12).trans e13'
      refine s_ret (ev_of (ev_andV (a := true) (b := true) (ev_call0 (ea_3 (ev_var rfl) (ev_var rfl) (ev_var rfl)) ?_) fun _ => ev_call0 (ea_3 (ev_var rfl) (ev_var rfl) (ev_var rfl)) ?_) rfl) fun H14 _ => k H14
      · exact fun H14 e14 Q' q' E' => ⟨p, cs, c, m, fw, fl, rfl, sq_of ((e713.trans e14) _ _ h7q), hh, M7.mono (e713.trans e14), hml, F13.mono e14, by omega, om, fun e he => ol e (hfm e he), q'⟩
      · exact fun H14 e14 Q' q' E' => ⟨p, cs, c, m, d, l, rfl, sq_of ((e713.trans e14) _ _ h7q), hh, M7.mono (e713.trans e14), hml, S7.mono (e713.trans e14), hll, om, ol, q'⟩
end

theorem all_mk {l : PySem.W.OpenLaw} {w : World} {K : PySem.W.Frag} {h : Heap} {mg : Str → Option Value} {fa f0 f1 f2 f3 f4 f5 f6 f7 f8 f9 f10 f11 f12 f13 f14 f15 f16 f17 f18 f19 f20 f21 : Addr} (X : K.In h) (G : h.Ns mainGlobals mg) (hfa : mg "law" = some (.ref fa))
    {od0 an0 od1 an1 od2 an2 od3 an3 od4 an4 od5 an5 od6 an6 od7 an7 od8 an8 od9 an9 od10 an10 od11 an11 od12 an12 od13 an13 od14 an14 od15 an15 od16 an16 od17 an17 od18 an18 od19 an19 od20 an20 od21 an21 : Option Addr} {sl0 sl1 sl2 sl3 sl4 sl5 sl6 sl7 sl8 sl9 sl10 sl11 sl12 sl13 sl14 sl15 sl16 sl17 sl18 sl19 sl20 sl21 : Array (Option Value)} {oc0 kV0 dc0 pm0 cd0 ct0 oc1 kV1 dc1 pm1 cd1 ct1 oc2 kV2 dc2 pm2 cd2 ct2 oc3 kV3 dc3 pm3 cd3 ct3 oc4 kV4 dc4 pm4 cd4 ct4 oc5 kV5 dc5 pm5 cd5 ct5 oc6 kV6 dc6 pm6 cd6 ct6 oc7 kV7 dc7 pm7 cd7 ct7 oc8 kV8 dc8 pm8 cd8 ct8 oc9 kV9 dc9 pm9 cd9 ct9 oc10 kV10 dc10 pm10 cd10 ct10 oc11 kV11 dc11 pm11 cd11 ct11 oc12 kV12 dc12 pm12 cd12 ct12 oc13 kV13 dc13 pm13 cd13 ct13 oc14 kV14 dc14 pm14 cd14 ct14 oc15 kV15 dc15 pm15 cd15 ct15 oc16 kV16 dc16 pm16 cd16 ct16 oc17 kV17 dc17 pm17 cd17 ct17 oc18 kV18 dc18 pm18 cd18 ct18 oc19 kV19 dc19 pm19 cd19 ct19 oc20 kV20 dc20 pm20 cd20 ct20 oc21 kV21 dc21 pm21 cd21 ct21 : Value}

    (a0 : PySem.W.nsIn K mainGlobals "first_room" = some (some (.ref f0))) (l0 : K.lookup f0 = some ⟨oc0, od0, .func (PySem.W.fnOf "first_room" "first_room" (defArgs s_first_room) (defBody s_first_room) (defScope s_first_room) .none kV0 dc0 pm0 an0 cd0 ct0), sl0⟩) (c0 : PySem.W.codeIn K cd0 "first_room" = true) (k0 : PySem.W.keepIn K (.ref f0) = true)
    (a1 : PySem.W.nsIn K mainGlobals "rooms_of" = some (some (.ref f1))) (l1 : K.lookup f1 = some ⟨oc1, od1, .func (PySem.W.fnOf "rooms_of" "rooms_of" (defArgs s_rooms_of) (defBody s_rooms_of) (defScope s_rooms_of) .none kV1 dc1 pm1 an1 cd1 ct1), sl1⟩) (c1 : PySem.W.codeIn K cd1 "rooms_of" = true) (k1 : PySem.W.keepIn K (.ref f1) = true)
    (a2 : PySem.W.nsIn K mainGlobals "kinds_on" = some (some (.ref f2))) (l2 : K.lookup f2 = some ⟨oc2, od2, .func (PySem.W.fnOf "kinds_on" "kinds_on" (defArgs s_kinds_on) (defBody s_kinds_on) (defScope s_kinds_on) .none kV2 dc2 pm2 an2 cd2 ct2), sl2⟩) (c2 : PySem.W.codeIn K cd2 "kinds_on" = true) (k2 : PySem.W.keepIn K (.ref f2) = true)
    (a3 : PySem.W.nsIn K mainGlobals "wants_on" = some (some (.ref f3))) (l3 : K.lookup f3 = some ⟨oc3, od3, .func (PySem.W.fnOf "wants_on" "wants_on" (defArgs s_wants_on) (defBody s_wants_on) (defScope s_wants_on) .none kV3 dc3 pm3 an3 cd3 ct3), sl3⟩) (c3 : PySem.W.codeIn K cd3 "wants_on" = true) (k3 : PySem.W.keepIn K (.ref f3) = true)
    (a4 : PySem.W.nsIn K mainGlobals "rooms_on" = some (some (.ref f4))) (l4 : K.lookup f4 = some ⟨oc4, od4, .func (PySem.W.fnOf "rooms_on" "rooms_on" (defArgs s_rooms_on) (defBody s_rooms_on) (defScope s_rooms_on) .none kV4 dc4 pm4 an4 cd4 ct4), sl4⟩) (c4 : PySem.W.codeIn K cd4 "rooms_on" = true) (k4 : PySem.W.keepIn K (.ref f4) = true)
    (a5 : PySem.W.nsIn K mainGlobals "lacking" = some (some (.ref f5))) (l5 : K.lookup f5 = some ⟨oc5, od5, .func (PySem.W.fnOf "lacking" "lacking" (defArgs s_lacking) (defBody s_lacking) (defScope s_lacking) .none kV5 dc5 pm5 an5 cd5 ct5), sl5⟩) (c5 : PySem.W.codeIn K cd5 "lacking" = true) (k5 : PySem.W.keepIn K (.ref f5) = true)
    (a6 : PySem.W.nsIn K mainGlobals "short_kind" = some (some (.ref f6))) (l6 : K.lookup f6 = some ⟨oc6, od6, .func (PySem.W.fnOf "short_kind" "short_kind" (defArgs s_short_kind) (defBody s_short_kind) (defScope s_short_kind) .none kV6 dc6 pm6 an6 cd6 ct6), sl6⟩) (c6 : PySem.W.codeIn K cd6 "short_kind" = true) (k6 : PySem.W.keepIn K (.ref f6) = true)
    (a7 : PySem.W.nsIn K mainGlobals "short_night" = some (some (.ref f7))) (l7 : K.lookup f7 = some ⟨oc7, od7, .func (PySem.W.fnOf "short_night" "short_night" (defArgs s_short_night) (defBody s_short_night) (defScope s_short_night) .none kV7 dc7 pm7 an7 cd7 ct7), sl7⟩) (c7 : PySem.W.codeIn K cd7 "short_night" = true) (k7 : PySem.W.keepIn K (.ref f7) = true)
    (a8 : PySem.W.nsIn K mainGlobals "_law_cell" = some (some (.ref f8))) (l8 : K.lookup f8 = some ⟨oc8, od8, .func (PySem.W.fnOf "_law_cell" "_law_cell" (defArgs s_law_cell) (defBody s_law_cell) (defScope s_law_cell) .none kV8 dc8 pm8 an8 cd8 ct8), sl8⟩) (c8 : PySem.W.codeIn K cd8 "_law_cell" = true) (k8 : PySem.W.keepIn K (.ref f8) = true)
    (a9 : PySem.W.nsIn K mainGlobals "_law_whole" = some (some (.ref f9))) (l9 : K.lookup f9 = some ⟨oc9, od9, .func (PySem.W.fnOf "_law_whole" "_law_whole" (defArgs s_law_whole) (defBody s_law_whole) (defScope s_law_whole) .none kV9 dc9 pm9 an9 cd9 ct9), sl9⟩) (c9 : PySem.W.codeIn K cd9 "_law_whole" = true) (k9 : PySem.W.keepIn K (.ref f9) = true)
    (a10 : PySem.W.nsIn K mainGlobals "_law_wholes" = some (some (.ref f10))) (l10 : K.lookup f10 = some ⟨oc10, od10, .func (PySem.W.fnOf "_law_wholes" "_law_wholes" (defArgs s_law_wholes) (defBody s_law_wholes) (defScope s_law_wholes) .none kV10 dc10 pm10 an10 cd10 ct10), sl10⟩) (c10 : PySem.W.codeIn K cd10 "_law_wholes" = true) (k10 : PySem.W.keepIn K (.ref f10) = true)
    (a11 : PySem.W.nsIn K mainGlobals "_law_house_by" = some (some (.ref f11))) (l11 : K.lookup f11 = some ⟨oc11, od11, .func (PySem.W.fnOf "_law_house_by" "_law_house_by" (defArgs s_law_house_by) (defBody s_law_house_by) (defScope s_law_house_by) .none kV11 dc11 pm11 an11 cd11 ct11), sl11⟩) (c11 : PySem.W.codeIn K cd11 "_law_house_by" = true) (k11 : PySem.W.keepIn K (.ref f11) = true)
    (a12 : PySem.W.nsIn K mainGlobals "_law_kinds" = some (some (.ref f12))) (l12 : K.lookup f12 = some ⟨oc12, od12, .func (PySem.W.fnOf "_law_kinds" "_law_kinds" (defArgs s_law_kinds) (defBody s_law_kinds) (defScope s_law_kinds) .none kV12 dc12 pm12 an12 cd12 ct12), sl12⟩) (c12 : PySem.W.codeIn K cd12 "_law_kinds" = true) (k12 : PySem.W.keepIn K (.ref f12) = true)
    (a13 : PySem.W.nsIn K mainGlobals "_law_at_least" = some (some (.ref f13))) (l13 : K.lookup f13 = some ⟨oc13, od13, .func (PySem.W.fnOf "_law_at_least" "_law_at_least" (defArgs s_law_at_least) (defBody s_law_at_least) (defScope s_law_at_least) .none kV13 dc13 pm13 an13 cd13 ct13), sl13⟩) (c13 : PySem.W.codeIn K cd13 "_law_at_least" = true) (k13 : PySem.W.keepIn K (.ref f13) = true)
    (a14 : PySem.W.nsIn K mainGlobals "_law_short" = some (some (.ref f14))) (l14 : K.lookup f14 = some ⟨oc14, od14, .func (PySem.W.fnOf "_law_short" "_law_short" (defArgs s_law_short) (defBody s_law_short) (defScope s_law_short) .none kV14 dc14 pm14 an14 cd14 ct14), sl14⟩) (c14 : PySem.W.codeIn K cd14 "_law_short" = true) (k14 : PySem.W.keepIn K (.ref f14) = true)
    (a15 : PySem.W.nsIn K mainGlobals "_law_span_by" = some (some (.ref f15))) (l15 : K.lookup f15 = some ⟨oc15, od15, .func (PySem.W.fnOf "_law_span_by" "_law_span_by" (defArgs s_law_span_by) (defBody s_law_span_by) (defScope s_law_span_by) .none kV15 dc15 pm15 an15 cd15 ct15), sl15⟩) (c15 : PySem.W.codeIn K cd15 "_law_span_by" = true) (k15 : PySem.W.keepIn K (.ref f15) = true)
    (a16 : PySem.W.nsIn K mainGlobals "_law_spans_by" = some (some (.ref f16))) (l16 : K.lookup f16 = some ⟨oc16, od16, .func (PySem.W.fnOf "_law_spans_by" "_law_spans_by" (defArgs s_law_spans_by) (defBody s_law_spans_by) (defScope s_law_spans_by) .none kV16 dc16 pm16 an16 cd16 ct16), sl16⟩) (c16 : PySem.W.codeIn K cd16 "_law_spans_by" = true) (k16 : PySem.W.keepIn K (.ref f16) = true)
    (a17 : PySem.W.nsIn K mainGlobals "_law_wants" = some (some (.ref f17))) (l17 : K.lookup f17 = some ⟨oc17, od17, .func (PySem.W.fnOf "_law_wants" "_law_wants" (defArgs s_law_wants) (defBody s_law_wants) (defScope s_law_wants) .none kV17 dc17 pm17 an17 cd17 ct17), sl17⟩) (c17 : PySem.W.codeIn K cd17 "_law_wants" = true) (k17 : PySem.W.keepIn K (.ref f17) = true)
    (a18 : PySem.W.nsIn K mainGlobals "_law_open" = some (some (.ref f18))) (l18 : K.lookup f18 = some ⟨oc18, od18, .func (PySem.W.fnOf "_law_open" "_law_open" (defArgs s_law_open) (defBody s_law_open) (defScope s_law_open) .none kV18 dc18 pm18 an18 cd18 ct18), sl18⟩) (c18 : PySem.W.codeIn K cd18 "_law_open" = true) (k18 : PySem.W.keepIn K (.ref f18) = true)
    (a19 : PySem.W.nsIn K mainGlobals "_law_due" = some (some (.ref f19))) (l19 : K.lookup f19 = some ⟨oc19, od19, .func (PySem.W.fnOf "_law_due" "_law_due" (defArgs s_law_due) (defBody s_law_due) (defScope s_law_due) .none kV19 dc19 pm19 an19 cd19 ct19), sl19⟩) (c19 : PySem.W.codeIn K cd19 "_law_due" = true) (k19 : PySem.W.keepIn K (.ref f19) = true)
    (a20 : PySem.W.nsIn K mainGlobals "_law_right" = some (some (.ref f20))) (l20 : K.lookup f20 = some ⟨oc20, od20, .func (PySem.W.fnOf "_law_right" "_law_right" (defArgs s_law_right) (defBody s_law_right) (defScope s_law_right) .none kV20 dc20 pm20 an20 cd20 ct20), sl20⟩) (c20 : PySem.W.codeIn K cd20 "_law_right" = true) (k20 : PySem.W.keepIn K (.ref f20) = true)
    (a21 : PySem.W.nsIn K mainGlobals "law" = some (some (.ref f21))) (l21 : K.lookup f21 = some ⟨oc21, od21, .func (PySem.W.fnOf "law" "law" (defArgs s_law) (defBody s_law) (defScope s_law) .none kV21 dc21 pm21 an21 cd21 ct21), sl21⟩) (c21 : PySem.W.codeIn K cd21 "law" = true) (k21 : PySem.W.keepIn K (.ref f21) = true)
    (z_sum : PySem.W.nsIn K mainGlobals "sum" = some none)
    (z_max : PySem.W.nsIn K mainGlobals "max" = some none)
    (z_list : PySem.W.nsIn K mainGlobals "list" = some none)
    (z_range : PySem.W.nsIn K mainGlobals "range" = some none)
    (z_len : PySem.W.nsIn K mainGlobals "len" = some none)
    (z_sorted : PySem.W.nsIn K mainGlobals "sorted" = some none)
    (z_isinstance : PySem.W.nsIn K mainGlobals "isinstance" = some none)
    (z_int : PySem.W.nsIn K mainGlobals "int" = some none)
    (z_bool : PySem.W.nsIn K mainGlobals "bool" = some none)
    (z_all : PySem.W.nsIn K mainGlobals "all" = some none)
    (z_min : PySem.W.nsIn K mainGlobals "min" = some none)
    (z_dict : PySem.W.nsIn K mainGlobals "dict" = some none)
    (z_tuple : PySem.W.nsIn K mainGlobals "tuple" = some none)
    (g_NIGHTS : ∃ t, PySem.W.nsIn K mainGlobals "NIGHTS" = some (some (.int 40 t)))
    : ∃ fd : FuncData, (∀ (s : Shared) (v : Value), BindsTo s fd ⟨[v], []⟩ [("_law_script", v)]) ∧ ∀ base : Heap, K.In base → base.Ns mainGlobals mg → FnOk l.prog w K mg base CX0 6 fa fd ["_law_script"] (spLaw K) := by
  have e := hfa.symm.trans (PySem.W.mg_of X G a21)
  cases e
  have T : Tp mg := ⟨PySem.W.mg_none_of X G z_sum, PySem.W.mg_none_of X G z_max, PySem.W.mg_none_of X G z_list, PySem.W.mg_none_of X G z_range, PySem.W.mg_none_of X G z_len, PySem.W.mg_none_of X G z_sorted, PySem.W.mg_none_of X G z_isinstance, PySem.W.mg_none_of X G z_int, PySem.W.mg_none_of X G z_bool, PySem.W.mg_none_of X G z_all, PySem.W.mg_none_of X G z_min, PySem.W.mg_none_of X G z_dict, PySem.W.mg_none_of X G z_tuple, g_NIGHTS.imp fun _ z => PySem.W.mg_of X G z⟩
  have F_first_room := fun_mk (st := s_first_room) l0 c0 k0
  have D_first_room := dn_mk F_first_room (PySem.W.mg_of X G a0) (F_first_room.binds (ps := ["counts", "kind"]) fun _ _ _ _ _ _ us hl => match us, hl with | [_, _], _ => rfl)
  have F_rooms_of := fun_mk (st := s_rooms_of) l1 c1 k1
  have D_rooms_of := dn_mk F_rooms_of (PySem.W.mg_of X G a1) (F_rooms_of.binds (ps := ["counts", "kind"]) fun _ _ _ _ _ _ us hl => match us, hl with | [_, _], _ => rfl)
  have F_kinds_on := fun_mk (st := s_kinds_on) l2 c2 k2
  have D_kinds_on := dn_mk F_kinds_on (PySem.W.mg_of X G a2) (F_kinds_on.binds (ps := ["spans", "night"]) fun _ _ _ _ _ _ us hl => match us, hl with | [_, _], _ => rfl)
  have F_wants_on := fun_mk (st := s_wants_on) l3 c3 k3
  have D_wants_on := dn_mk F_wants_on (PySem.W.mg_of X G a3) (F_wants_on.binds (ps := ["stays", "night"]) fun _ _ _ _ _ _ us hl => match us, hl with | [_, _], _ => rfl)
  have F_rooms_on := fun_mk (st := s_rooms_on) l4 c4 k4
  have D_rooms_on := dn_mk F_rooms_on (PySem.W.mg_of X G a4) (F_rooms_on.binds (ps := ["counts", "closings", "night"]) fun _ _ _ _ _ _ us hl => match us, hl with | [_, _, _], _ => rfl)
  have F_lacking := fun_mk (st := s_lacking) l5 c5 k5
  have D_lacking := dn_mk F_lacking (PySem.W.mg_of X G a5) (F_lacking.binds (ps := ["counts", "rooms", "wants", "kind"]) fun _ _ _ _ _ _ us hl => match us, hl with | [_, _, _, _], _ => rfl)
  have F_short_kind := fun_mk (st := s_short_kind) l6 c6 k6
  have D_short_kind := dn_mk F_short_kind (PySem.W.mg_of X G a6) (F_short_kind.binds (ps := ["counts", "rooms", "wants"]) fun _ _ _ _ _ _ us hl => match us, hl with | [_, _, _], _ => rfl)
  have F_short_night := fun_mk (st := s_short_night) l7 c7 k7
  have D_short_night := dn_mk F_short_night (PySem.W.mg_of X G a7) (F_short_night.binds (ps := ["counts", "closings", "stays"]) fun _ _ _ _ _ _ us hl => match us, hl with | [_, _, _], _ => rfl)
  have F_law_cell := fun_mk (st := s_law_cell) l8 c8 k8
  have D_law_cell := dn_mk F_law_cell (PySem.W.mg_of X G a8) (F_law_cell.binds (ps := ["_law_script", "_law_k"]) fun _ _ _ _ _ _ us hl => match us, hl with | [_, _], _ => rfl)
  have F_law_whole := fun_mk (st := s_law_whole) l9 c9 k9
  have D_law_whole := dn_mk F_law_whole (PySem.W.mg_of X G a9) (F_law_whole.binds (ps := ["_law_found"]) fun _ _ _ _ _ _ us hl => match us, hl with | [_], _ => rfl)
  have F_law_wholes := fun_mk (st := s_law_wholes) l10 c10 k10
  have D_law_wholes := dn_mk F_law_wholes (PySem.W.mg_of X G a10) (F_law_wholes.binds (ps := ["_law_found"]) fun _ _ _ _ _ _ us hl => match us, hl with | [_], _ => rfl)
  have F_law_house_by := fun_mk (st := s_law_house_by) l11 c11 k11
  have D_law_house_by := dn_mk F_law_house_by (PySem.W.mg_of X G a11) (F_law_house_by.binds (ps := ["_law_script"]) fun _ _ _ _ _ _ us hl => match us, hl with | [_], _ => rfl)
  have F_law_kinds := fun_mk (st := s_law_kinds) l12 c12 k12
  have D_law_kinds := dn_mk F_law_kinds (PySem.W.mg_of X G a12) (F_law_kinds.binds (ps := ["_law_counts"]) fun _ _ _ _ _ _ us hl => match us, hl with | [_], _ => rfl)
  have F_law_at_least := fun_mk (st := s_law_at_least) l13 c13 k13
  have D_law_at_least := dn_mk F_law_at_least (PySem.W.mg_of X G a13) (F_law_at_least.binds (ps := ["_law_kinds_here", "_law_kind"]) fun _ _ _ _ _ _ us hl => match us, hl with | [_, _], _ => rfl)
  have F_law_short := fun_mk (st := s_law_short) l14 c14 k14
  have D_law_short := dn_mk F_law_short (PySem.W.mg_of X G a14) (F_law_short.binds (ps := ["_law_counts", "_law_rooms", "_law_wants_here"]) fun _ _ _ _ _ _ us hl => match us, hl with | [_, _, _], _ => rfl)
  have F_law_span_by := fun_mk (st := s_law_span_by) l15 c15 k15
  have D_law_span_by := dn_mk F_law_span_by (PySem.W.mg_of X G a15) (F_law_span_by.binds (ps := ["_law_script", "_law_k", "_law_many"]) fun _ _ _ _ _ _ us hl => match us, hl with | [_, _, _], _ => rfl)
  have F_law_spans_by := fun_mk (st := s_law_spans_by) l16 c16 k16
  have D_law_spans_by := dn_mk F_law_spans_by (PySem.W.mg_of X G a16) (F_law_spans_by.binds (ps := ["_law_script", "_law_k", "_law_count", "_law_many"]) fun _ _ _ _ _ _ us hl => match us, hl with | [_, _, _, _], _ => rfl)
  have F_law_wants := fun_mk (st := s_law_wants) l17 c17 k17
  have D_law_wants := dn_mk F_law_wants (PySem.W.mg_of X G a17) (F_law_wants.binds (ps := ["_law_stays", "_law_night"]) fun _ _ _ _ _ _ us hl => match us, hl with | [_, _], _ => rfl)
  have F_law_open := fun_mk (st := s_law_open) l18 c18 k18
  have D_law_open := dn_mk F_law_open (PySem.W.mg_of X G a18) (F_law_open.binds (ps := ["_law_counts", "_law_closings", "_law_night"]) fun _ _ _ _ _ _ us hl => match us, hl with | [_, _, _], _ => rfl)
  have F_law_due := fun_mk (st := s_law_due) l19 c19 k19
  have D_law_due := dn_mk F_law_due (PySem.W.mg_of X G a19) (F_law_due.binds (ps := ["_law_counts", "_law_closings", "_law_stays"]) fun _ _ _ _ _ _ us hl => match us, hl with | [_, _, _], _ => rfl)
  have F_law_right := fun_mk (st := s_law_right) l20 c20 k20
  have D_law_right := dn_mk F_law_right (PySem.W.mg_of X G a20) (F_law_right.binds (ps := ["_law_counts", "_law_closings", "_law_stays"]) fun _ _ _ _ _ _ us hl => match us, hl with | [_, _, _], _ => rfl)
  have F_law := fun_mk (st := s_law) l21 c21 k21
  refine ⟨PySem.W.fnOf "law" "law" (defArgs s_law) (defBody s_law) (defScope s_law) .none kV21 dc21 pm21 an21 cd21 ct21, fun s v => .of_eq rfl, fun base _ _ => ?_⟩
  have C_first_room := cal_first_room (P := l.prog) (w := w) (base := base) D_first_room T
  have C_rooms_of := cal_rooms_of (P := l.prog) (w := w) (base := base) D_rooms_of T C_first_room
  have C_kinds_on := cal_kinds_on (P := l.prog) (w := w) (base := base) D_kinds_on T
  have C_wants_on := cal_wants_on (P := l.prog) (w := w) (base := base) D_wants_on T C_kinds_on
  have C_rooms_on := cal_rooms_on (P := l.prog) (w := w) (base := base) D_rooms_on T C_kinds_on C_rooms_of
  have C_lacking := cal_lacking (P := l.prog) (w := w) (base := base) D_lacking T C_first_room
  have C_short_kind := cal_short_kind (P := l.prog) (w := w) (base := base) D_short_kind T C_lacking
  have C_law_cell := cal_cell (P := l.prog) (w := w) (base := base) D_law_cell T
  have C_law_whole := cal_whole (P := l.prog) (w := w) (base := base) D_law_whole T
  have C_law_wholes := cal_wholes (P := l.prog) (w := w) (base := base) D_law_wholes T C_law_whole
  have C_law_house_by := cal_house_by (P := l.prog) (w := w) (base := base) D_law_house_by T C_law_cell
  have C_law_kinds := cal_kinds (P := l.prog) (w := w) (base := base) D_law_kinds T
  have C_law_span_by := cal_span_by (P := l.prog) (w := w) (base := base) D_law_span_by T C_law_cell
  have C_law_spans_by := cal_spans_by (P := l.prog) (w := w) (base := base) D_law_spans_by T C_law_cell C_law_span_by
  have C_law_wants := cal_wants (P := l.prog) (w := w) (base := base) D_law_wants T
  have C_law_open := cal_open (P := l.prog) (w := w) (base := base) D_law_open T C_law_kinds
  have C_law_at_least := cal_at_least (P := l.prog) (w := w) (base := base) D_law_at_least T
  have C_law_short := cal_short (P := l.prog) (w := w) (base := base) D_law_short T C_law_kinds C_law_at_least
  have C_short_night := cal_short_night (P := l.prog) (w := w) (base := base) D_short_night T C_rooms_on C_wants_on C_short_kind
  have C_law_due := cal_due (P := l.prog) (w := w) (base := base) D_law_due T C_law_short C_law_open C_law_wants
  have C_law_right := cal_right (P := l.prog) (w := w) (base := base) D_law_right T C_law_due C_short_night C_law_wholes
  exact ok_law F_law T C_law_cell C_law_house_by C_law_spans_by C_law_right C_law_due C_law_wants
end Ik
open PySem PySem.W PyProof.Rows
set_option maxRecDepth 100000 in
set_option maxHeartbeats 0 in
theorem PySem.Challenge.cw_innkinds_k04_first_short_night_holds : PySem.Challenge.rw_innkinds_k04_first_short_night.Holds := by
  w_on; o_law; k_head; (case hw => w_witness2)
  k_fill
  refine L2.walk_of (l := PySem.Challenge.rw_innkinds_k04_first_short_night) (n := 63) (k := 6) (x := "_law_script") (CX := fun _ => L2.CX0) (sp := fun w => Ik.spLaw _) rfl (by decide) rfl ⟨rfl, by decide, by decide⟩ (fun w h Y => PySem.W.kIn_of Y) ?F (fun _ _ a ns hl _ hS => ⟨a, ns, rfl, hS, hl, fun _ => rfl⟩) (fun _ _ _ _ _ h => h)
  case F =>
    intro w mg fa h KX G hmg
    refine' Ik.all_mk KX G hmg ?a0 ?l0 ?c0 ?k0 ?a1 ?l1 ?c1 ?k1 ?a2 ?l2 ?c2 ?k2 ?a3 ?l3 ?c3 ?k3 ?a4 ?l4 ?c4 ?k4 ?a5 ?l5 ?c5 ?k5 ?a6 ?l6 ?c6 ?k6 ?a7 ?l7 ?c7 ?k7 ?a8 ?l8 ?c8 ?k8 ?a9 ?l9 ?c9 ?k9 ?a10 ?l10 ?c10 ?k10 ?a11 ?l11 ?c11 ?k11 ?a12 ?l12 ?c12 ?k12 ?a13 ?l13 ?c13 ?k13 ?a14 ?l14 ?c14 ?k14 ?a15 ?l15 ?c15 ?k15 ?a16 ?l16 ?c16 ?k16 ?a17 ?l17 ?c17 ?k17 ?a18 ?l18 ?c18 ?k18 ?a19 ?l19 ?c19 ?k19 ?a20 ?l20 ?c20 ?k20 ?a21 ?l21 ?c21 ?k21 ?z_sum ?z_max ?z_list ?z_range ?z_len ?z_sorted ?z_isinstance ?z_int ?z_bool ?z_all ?z_min ?z_dict ?z_tuple ?g_NIGHTS
    (case a0 => k_is)
    (case l0 => k_is)
    (case c0 => k_is)
    (case k0 => k_is)
    (case a1 => k_is)
    (case l1 => k_is)
    (case c1 => k_is)
    (case k1 => k_is)
    (case a2 => k_is)
    (case l2 => k_is)
    (case c2 => k_is)
    (case k2 => k_is)
    (case a3 => k_is)
    (case l3 => k_is)
    (case c3 => k_is)
    (case k3 => k_is)
    (case a4 => k_is)
    (case l4 => k_is)
    (case c4 => k_is)
    (case k4 => k_is)
    (case a5 => k_is)
    (case l5 => k_is)
    (case c5 => k_is)
    (case k5 => k_is)
    (case a6 => k_is)
    (case l6 => k_is)
    (case c6 => k_is)
    (case k6 => k_is)
    (case a7 => k_is)
    (case l7 => k_is)
    (case c7 => k_is)
    (case k7 => k_is)
    (case a8 => k_is)
    (case l8 => k_is)
    (case c8 => k_is)
    (case k8 => k_is)
    (case a9 => k_is)
    (case l9 => k_is)
    (case c9 => k_is)
    (case k9 => k_is)
    (case a10 => k_is)
    (case l10 => k_is)
    (case c10 => k_is)
    (case k10 => k_is)
    (case a11 => k_is)
    (case l11 => k_is)
    (case c11 => k_is)
    (case k11 => k_is)
    (case a12 => k_is)
    (case l12 => k_is)
    (case c12 => k_is)
    (case k12 => k_is)
    (case a13 => k_is)
    (case l13 => k_is)
    (case c13 => k_is)
    (case k13 => k_is)
    (case a14 => k_is)
    (case l14 => k_is)
    (case c14 => k_is)
    (case k14 => k_is)
    (case a15 => k_is)
    (case l15 => k_is)
    (case c15 => k_is)
    (case k15 => k_is)
    (case a16 => k_is)
    (case l16 => k_is)
    (case c16 => k_is)
    (case k16 => k_is)
    (case a17 => k_is)
    (case l17 => k_is)
    (case c17 => k_is)
    (case k17 => k_is)
    (case a18 => k_is)
    (case l18 => k_is)
    (case c18 => k_is)
    (case k18 => k_is)
    (case a19 => k_is)
    (case l19 => k_is)
    (case c19 => k_is)
    (case k19 => k_is)
    (case a20 => k_is)
    (case l20 => k_is)
    (case c20 => k_is)
    (case k20 => k_is)
    (case a21 => k_is)
    (case l21 => k_is)
    (case c21 => k_is)
    (case k21 => k_is)
    (case z_sum => k_is)
    (case z_max => k_is)
    (case z_list => k_is)
    (case z_range => k_is)
    (case z_len => k_is)
    (case z_sorted => k_is)
    (case z_isinstance => k_is)
    (case z_int => k_is)
    (case z_bool => k_is)
    (case z_all => k_is)
    (case z_min => k_is)
    (case z_dict => k_is)
    (case z_tuple => k_is)
    (case g_NIGHTS => exact ⟨_, by k_is⟩)
