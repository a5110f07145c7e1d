import PyProof.Rows.All
import Wide.All
import OpenK.AllK
import Wide.FinOn
import HandS.ForMost
import HandS.Evl
import HandS.Steps
import HandS.IsInst
import HandS.Walk
import HandS.Conv
import HandS.SortInts
import KE.KEqNest
import HandS.SortKw
import HandS.SetFor
import HandS.DeepEq
import HandS.DictComp
import KE.KDictList
import PySem.Challenge.RW_innkinds_k01_houses
set_option Elab.async false
set_option linter.all false
set_option maxRecDepth 100000
set_option maxHeartbeats 4000000

namespace Ik
open PySem PySem.Spec PyProof.Rows L2 Evl

/-! ### calls of own defs -/
structure Cal (P : Program) (w : World) (K : PySem.W.Frag) (mg : Str → Option Value) (base : Heap) (x : Str) (k : Nat) (ps : List Str) (sp : Sp) : Prop where
  ex : ∃ (f : Addr) (fd : FuncData), FnOk P w K mg base CX0 k f fd ps sp ∧ mg x = some (.ref f) ∧ PySem.W.keepIn K (.ref f) = true ∧ Binds K fd ps []
theorem pe_cal {X : Cx} {x : Str} {k : Nat} {ps : List Str} {sp : Sp} {e : Expr} {es : List Expr} {t : TA} {p pos : Pos} (C : Cal X.prog X.w X.K X.mg X.base x k ps sp) (hr : Room k X.A) (hg : Gl X x) (ha : PA X (e :: es) t)
    (hdb : (x == ("__debug__" : Str)) = false := by decide) (he : starEach (e :: es) X.env = (false, eval e X.env) :: starEach es X.env := by rfl) (hpl : (backTo pos (starEach es X.env)).any (·.1) = false := by rfl) :
    PE X (.Call (.Name x p) (e :: es) [] pos) (tCall sp [] E0 t) := by
  obtain ⟨f, fd, F, hm, hk, hb⟩ := C.ex
  exact pe_call F hr hg hm hk hb .nil pass0 ha hdb he hpl

/-! ### what evaluates to something of which R tells: the value, the heap ahead, the heap behind -/
abbrev Rel := V → Hp → Hp → Prop
def EvR (te : TE) (σ : L2.St) (H : Hp) (R : Rel) : Prop := ∀ H1, Ex H H1 → ∀ Q : VK, (∀ v H2, Ex H1 H2 → R v H1 H2 → Q v H2) → te σ H1 Q
def SpR (sp : Sp) (vs : List V) (H : Hp) (R : Rel) : Prop := ∀ H1, Ex H H1 → ∀ Q : VK, (∀ v H2, Ex H1 H2 → R v H1 H2 → Q v H2) → ∀ E : XK, sp vs H1 Q E
section
variable {K : PySem.W.Frag} {σ : L2.St} {H H' : Hp} {ta tb tc te tx : TE} {t u : TT} {x y z v : V} {r r' : R2} {R : Rel}
theorem EvR.mono (e : Ex H H') (h : EvR te σ H R) : EvR te σ H' R := fun H1 a Q q => h H1 (e.trans a) Q q
theorem er_call {sp : Sp} {dvs vs : List V} {E : XK} {ta : TA} (h : EvA ta σ H vs) (hs : SpR sp (vs ++ dvs) H (fun v _ H2 => R v H H2)) : EvR (tCall sp dvs E ta) σ H (fun v _ H2 => R v H H2) := fun H1 e Q q =>
  h H1 e _ fun H2 e2 => hs H2 (e.trans e2) Q (fun v H3 e3 r => q v H3 (e2.trans e3) r) E
theorem ev_call0 {sp : Sp} {vs : List V} {E : XK} {ta : TA} (h : EvA ta σ H vs) (hs : SpV sp vs H z) : Ev (tCall sp [] E ta) σ H z := ev_call h (by rw [List.append_nil]; exact hs)
theorem el_call0 {sp : Sp} {vs xs : List V} {E : XK} {ta : TA} (h : EvA ta σ H vs) (hs : SpL sp vs H xs) : EvL (tCall sp [] E ta) σ H xs := el_call h (by rw [List.append_nil]; exact hs)
theorem ea_1 (h : Ev ta σ H x) : EvA (tCons ta tNil) σ H [x] := ea_cons h ea_nil
theorem ea_2 (h : Ev ta σ H x) (h2 : Ev tb σ H y) : EvA (tCons ta (tCons tb tNil)) σ H [x, y] := ea_cons h (ea_1 h2)
theorem ea_3 (h : Ev ta σ H x) (h2 : Ev tb σ H y) (h3 : Ev tc σ H z) : EvA (tCons ta (tCons tb (tCons tc tNil))) σ H [x, y, z] := ea_cons h (ea_2 h2 h3)

/-! operators -/
theorem ev_add {i j : Int} (ha : Ev ta σ H (.int i)) (hb : Ev tb σ H (.int j)) : Ev (tOp (rI0 fun i j => .int (i + j)) ta tb) σ H (.int (i + j)) := ev_op ha hb (rv_I0 (g := fun i j => .int (i + j)))
theorem ev_sub {i j : Int} (ha : Ev ta σ H (.int i)) (hb : Ev tb σ H (.int j)) : Ev (tOp (rI0 fun i j => .int (i - j)) ta tb) σ H (.int (i - j)) := ev_op ha hb (rv_I0 (g := fun i j => .int (i - j)))
theorem ev_mulR {i j : Int} (ha : Ev ta σ H (.int i)) (hb : Ev tb σ H (.int j)) (h : -(2 ^ 64) < j ∧ j < 2 ^ 64) : Ev (tOp (rI CMul fun i j => .int (i * j)) ta tb) σ H (.int (i * j)) := ev_op ha hb (rv_I (g := fun i j => .int (i * j)) (.inr h))
theorem ev_mulL {i j : Int} (ha : Ev ta σ H (.int i)) (hb : Ev tb σ H (.int j)) (h : -(2 ^ 64) < i ∧ i < 2 ^ 64) : Ev (tOp (rI CMul fun i j => .int (i * j)) ta tb) σ H (.int (i * j)) := ev_op ha hb (rv_I (g := fun i j => .int (i * j)) (.inl h))
theorem ev_fdiv {i j : Int} (ha : Ev ta σ H (.int i)) (hb : Ev tb σ H (.int j)) (h : CDiv i j) : Ev (tOp (rI CDiv fun i j => .int (i / j)) ta tb) σ H (.int (i / j)) := ev_op ha hb (rv_I (g := fun i j => .int (i / j)) h)
theorem ev_mod {i j : Int} (ha : Ev ta σ H (.int i)) (hb : Ev tb σ H (.int j)) (h : 0 < j) : Ev (tOp (rI (fun _ j => 0 < j) fun i j => .int (i % j)) ta tb) σ H (.int (i % j)) := ev_op ha hb (rv_I (g := fun i j => .int (i % j)) h)
theorem ev_cmp {g : Int → Int → Bool} {i j : Int} (ha : Ev ta σ H (.int i)) (hb : Ev tb σ H (.int j)) : Ev (tOp (rI0 fun i j => .bl (g i j)) ta tb) σ H (.bl (g i j)) := ev_op ha hb (rv_I0 (g := fun i j => .bl (g i j)))
theorem ev_eqI {i j : Int} (ha : Ev ta σ H (.int i)) (hb : Ev tb σ H (.int j)) : Ev (tOp rEq ta tb) σ H (.bl (decide (i = j))) := by
  have h := ev_op ha hb (rv_eq (H := H) (x := .int i) (y := .int j) rfl)
  have e : decide (V.int i = V.int j) = decide (i = j) := by simp
  rw [e] at h
  exact h
theorem ev_neI {i j : Int} (ha : Ev ta σ H (.int i)) (hb : Ev tb σ H (.int j)) : Ev (tOp rNe ta tb) σ H (.bl (!decide (i = j))) := by
  have h := ev_op ha hb (rv_ne (H := H) (x := .int i) (y := .int j) rfl)
  have e : decide (V.int i = V.int j) = decide (i = j) := by simp
  rw [e] at h
  exact h
theorem ev_neg {i : Int} (ha : Ev ta σ H (.int i)) : Ev (tUn (rU fun i => .int (-i)) ta) σ H (.int (-i)) := ev_un ha ru_neg
theorem ev_pow {i j : Int} (ha : Ev ta σ H (.int i)) (hb : Ev tb σ H (.int j)) (h : CPow i j) : Ev (tOp (rI CPow fun i j => .int (i ^ j.toNat)) ta tb) σ H (.int (i ^ j.toNat)) := ev_op ha hb (rv_I (g := fun i j => .int (i ^ j.toNat)) h)
theorem ev_chain {b c : Bool} (ha : Ev ta σ H x) (hb : Ev tb σ H y) (hr : RV r x y H (.bl b)) (hc : b = true → Ev tc σ H z) (hr' : b = true → RV r' y z H (.bl c)) : Ev (tChain r r' ta tb tc) σ H (.bl (b && c)) := fun H1 e Q q =>
  ha H1 e _ fun H2 e2 => hb H2 (e.trans e2) _ fun H3 e3 => hr H3 ((e.trans e2).trans e3) _ fun H4 e4 => ⟨b, rfl, by
    have e14 := (e2.trans e3).trans e4
    cases b with
    | true =>
      show tc σ H4 _
      exact hc rfl H4 (e.trans e14) _ fun H5 e5 => hr' rfl H5 ((e.trans e14).trans e5) Q fun H6 e6 => q H6 ((e14.trans e5).trans e6)
    | false =>
      show Q (.bl false) H4
      exact q H4 e14⟩
/-- int comparisons twice -/
theorem ev_chainI {g g' : Int → Int → Bool} {i j k : Int} (ha : Ev ta σ H (.int i)) (hb : Ev tb σ H (.int j)) (hc : Ev tc σ H (.int k)) : Ev (tChain (rI0 fun i j => .bl (g i j)) (rI0 fun i j => .bl (g' i j)) ta tb tc) σ H (.bl (g i j && g' j k)) :=
  ev_chain ha hb (rv_I0 (g := fun i j => .bl (g i j))) (fun _ => hc) (fun _ => rv_I0 (g := fun i j => .bl (g' i j)))
theorem ev_isN (ha : Ev ta σ H x) : Ev (tOp rIsN ta (tC .non)) σ H (.bl (decide (x = .non))) := ev_op ha ev_c fun H1 _ _ q => ⟨rfl, q H1 (Ex.refl H1)⟩
theorem ev_notN (ha : Ev ta σ H x) : Ev (tOp rNotN ta (tC .non)) σ H (.bl (!decide (x = .non))) := ev_op ha ev_c fun H1 _ _ q => ⟨rfl, q H1 (Ex.refl H1)⟩
theorem ev_isi {a b : String} {c : Bool} (ha : Ev ta σ H x) (ht : ∀ H1, Ex H H1 → TyX K H1 x (.type a)) (hk : kitB a b = some c) : Ev (tCB (rIsi K) (tCons ta (tCons (tC (.ty b)) tNil))) σ H (.bl c) :=
  ev_cb (ea_2 ha ev_c) fun H1 e _ q => ⟨x, .ty b, .type a, .type b, c, rfl, .ty b, ht H1 e, kit_ty hk, q H1 (Ex.refl H1)⟩
theorem ev_all {bs : List Bool} (ha : EvL ta σ H (bs.map V.bl)) : Ev (tCB (rAll K) (tCons ta tNil)) σ H (.bl (bs.all id)) := fun H1 e Q q =>
  ha H1 e _ fun p H2 _ e2 h2 => ⟨p, bs, rfl, sq_of h2, q H2 e2⟩
theorem ev_sum {p : Addr} {ns : List Int} (ha : Ev ta σ H (.ref p)) (h : SqL K H p (ns.map V.int)) : Ev (tCB (rSum K) (tCons ta tNil)) σ H (.int ns.sum) := fun H1 e Q q =>
  ha H1 e _ fun H2 e2 => ⟨p, ns, rfl, ex_l (e.trans e2) h, q H2 e2⟩
theorem ev_sumN {ns : List Int} (ha : EvL ta σ H (ns.map V.int)) : Ev (tCB (rSum K) (tCons ta tNil)) σ H (.int ns.sum) := fun H1 e Q q =>
  ha H1 e _ fun p H2 _ e2 h2 => ⟨p, ns, rfl, sq_of h2, q H2 e2⟩
theorem ev_abs {i : Int} (ha : Ev ta σ H (.int i)) : Ev (tCB (fun xs H Q => ∃ i, xs = [V.int i] ∧ Q (.int (if i < 0 then -i else i)) H) (tCons ta tNil)) σ H (.int (if i < 0 then -i else i)) :=
  ev_cb (ea_1 ha) fun H1 _ _ q => ⟨i, rfl, q H1 (Ex.refl H1)⟩
/-- len, as the list layer says it -/
theorem ev_len' {p : Addr} {xs : List V} (ha : Ev ta σ H (.ref p)) (h : SqL K H p xs) : Ev (tCB (rLenS K) (tCons ta tNil)) σ H (.int (xs.length : Int)) := fun H1 e Q q =>
  ha H1 e _ fun H2 e2 => ⟨p, xs, rfl, Or.inl (ex_l (e.trans e2) h), q H2 e2⟩
theorem ev_ixL {p : Addr} {xs : List V} {i : Int} (ha : Ev ta σ H (.ref p)) (hb : Ev tb σ H (.int i)) (h : SqL K H p xs) (hv : atI xs i = some v) : Ev (tOp (rIxL K) ta tb) σ H v := ev_op ha hb (rv_ixL h hv)
/-- an item of a new list -/
theorem ev_ixN {xs : List V} {i : Int} (ha : EvL ta σ H xs) (hb : Ev tb σ H (.int i)) (hv : atI xs i = some v) : Ev (tOp (rIxL K) ta tb) σ H v := ev_opL1 ha (fun H1 e => hb.mono e) fun _ _ hp _ => rv_ixL (sq_of hp) hv
theorem el_cat {p q : Addr} {xs ys : List V} (ha : Ev ta σ H (.ref p)) (hb : Ev tb σ H (.ref q)) (h : H p = some (.lst xs)) (h' : H q = some (.lst ys)) (hz : xs.length + ys.length ≤ sizeLine) : EvL (tOp rCat ta tb) σ H (xs ++ ys) := fun H1 e Q k =>
  ha H1 e _ fun H2 e2 => hb H2 (e.trans e2) _ fun H3 e3 => ⟨p, q, xs, ys, rfl, rfl, ((e.trans e2).trans e3) _ _ h, ((e.trans e2).trans e3) _ _ h', hz, fun l hl => k l _ (fresh_back (e2.trans e3) hl) ((e2.trans e3).trans (Ex.new hl)) upd_same⟩
theorem el_catN {p : Addr} {xs ys : List V} (ha : Ev ta σ H (.ref p)) (hb : EvL tb σ H ys) (h : H p = some (.lst xs)) (hz : xs.length + ys.length ≤ sizeLine) : EvL (tOp rCat ta tb) σ H (xs ++ ys) := fun H1 e Q k =>
  ha H1 e _ fun H2 e2 => hb H2 (e.trans e2) _ fun q H3 _ e3 hq => ⟨p, q, xs, ys, rfl, rfl, ((e.trans e2).trans e3) _ _ h, hq, hz, fun l hl => k l _ (fresh_back (e2.trans e3) hl) ((e2.trans e3).trans (Ex.new hl)) upd_same⟩
theorem el_repN {xs : List V} {n : Int} (ha : EvL ta σ H xs) (hb : Ev tb σ H (.int n)) (hn : -(2 ^ 63) ≤ n ∧ n < 2 ^ 63) (hz : xs.length * n.toNat ≤ sizeLine) : EvL (tOp rRep ta tb) σ H ((List.replicate n.toNat xs).flatten) := fun H1 e Q k =>
  ha H1 e _ fun p H2 _ e2 hp => hb H2 (e.trans e2) _ fun H3 e3 => ⟨p, n, xs, rfl, rfl, e3 p _ hp, hn.1, hn.2, hz, fun l hl => k l _ (fresh_back (e2.trans e3) hl) ((e2.trans e3).trans (Ex.new hl)) upd_same⟩
theorem el_is {xs ys : List V} (h : EvL te σ H xs) (e : xs = ys) : EvL te σ H ys := e ▸ h
theorem ev_of {te : TE} (h : Ev te σ H x) (e : x = y) : Ev te σ H y := e ▸ h
end
end Ik

namespace Ik
open PySem PySem.Spec PyProof.Rows L2 Evl
/-! ### == of lists of ints -/
theorem il_lay : ∀ ns : List Int, PyData.canLayAll0 (ns.map PyData.int) = true
  | [] => rfl
  | n :: r => by
    show (PyData.canLay0 (.int n) && PyData.canLayAll0 (r.map PyData.int)) = true
    rw [il_lay r]
    rfl
theorem il_depth : ∀ ns : List Int, PyData.depthAll (ns.map PyData.int) = 0
  | [] => rfl
  | n :: r => by
    show max (PyData.depth (.int n)) (PyData.depthAll (r.map PyData.int)) = 0
    rw [il_depth r]
    rfl
theorem il_shaped (ns : List Int) : SeqAt.shaped (.list (ns.map PyData.int)) = true := by
  unfold SeqAt.shaped
  rw [show PyData.canLay0 (.list (ns.map PyData.int)) = PyData.canLayAll0 (ns.map PyData.int) from rfl, il_lay, show PyData.depth (.list (ns.map PyData.int)) = PyData.depthAll (ns.map PyData.int) + 1 from rfl, il_depth]
  decide
theorem il_eqvAll : ∀ ns ms : List Int, PyData.eqvAll (ns.map PyData.int) (ms.map PyData.int) = decide (ns = ms)
  | [], [] => by simp [PyData.eqvAll]
  | [], m :: r => by simp [PyData.eqvAll]
  | n :: r, [] => by simp [PyData.eqvAll]
  | n :: r, m :: q => by
    show (PyData.eqv (.int n) (.int m) && PyData.eqvAll (r.map PyData.int) (q.map PyData.int)) = _
    rw [il_eqvAll r q]
    show ((n == m) && decide (r = q)) = decide (n :: r = m :: q)
    by_cases h1 : n = m <;> by_cases h2 : r = q <;> simp [h1, h2]
theorem il_eqv (ns ms : List Int) : PyData.eqv (.list (ns.map PyData.int)) (.list (ms.map PyData.int)) = decide (ns = ms) := il_eqvAll ns ms
theorem il_all {K : PySem.W.Frag} {H : Hp} : ∀ ns : List Int, DpAll K H (ns.map V.int) (ns.map PyData.int)
  | [] => .nil
  | n :: r => .cons (.int n) (il_all r)
theorem il_dp {K : PySem.W.Frag} {H : Hp} {a : Addr} {ns : List Int} (h : SqL K H a (ns.map V.int)) : Dp K H (.ref a) (.list (ns.map PyData.int)) := .lst h (il_all ns)
section
variable {K : PySem.W.Frag} {σ : L2.St} {H H' : Hp} {ta tb tc te tl : TE} {t u : TT} {x y z v : V} {R : Rel} {ns ms : List Int} {p q : Addr}
theorem rv_eqIL (h1 : SqL K H p (ns.map V.int)) (h2 : SqL K H q (ms.map V.int)) : RV (rEqD K) (.ref p) (.ref q) H (.bl (decide (ns = ms))) := fun H1 e Q k =>
  ⟨_, _, il_dp (ex_l e h1), il_dp (ex_l e h2), il_shaped _, il_shaped _, by rw [il_eqv]; exact k H1 (Ex.refl H1)⟩
theorem rv_neIL (h1 : SqL K H p (ns.map V.int)) (h2 : SqL K H q (ms.map V.int)) : RV (rNeD K) (.ref p) (.ref q) H (.bl (!decide (ns = ms))) := fun H1 e Q k =>
  ⟨_, _, il_dp (ex_l e h1), il_dp (ex_l e h2), il_shaped _, il_shaped _, by rw [il_eqv]; exact k H1 (Ex.refl H1)⟩
/-- two lists that stand | the second one new | both new -/
theorem ev_eqIL (ha : Ev ta σ H (.ref p)) (hb : Ev tb σ H (.ref q)) (h1 : SqL K H p (ns.map V.int)) (h2 : SqL K H q (ms.map V.int)) : Ev (tOp (rEqD K) ta tb) σ H (.bl (decide (ns = ms))) := ev_op ha hb (rv_eqIL h1 h2)
theorem ev_neIL (ha : Ev ta σ H (.ref p)) (hb : Ev tb σ H (.ref q)) (h1 : SqL K H p (ns.map V.int)) (h2 : SqL K H q (ms.map V.int)) : Ev (tOp (rNeD K) ta tb) σ H (.bl (!decide (ns = ms))) := ev_op ha hb (rv_neIL h1 h2)
theorem ev_eqIN (ha : Ev ta σ H (.ref p)) (hb : EvL tb σ H (ms.map V.int)) (h1 : SqL K H p (ns.map V.int)) : Ev (tOp (rEqD K) ta tb) σ H (.bl (decide (ns = ms))) := ev_opL ha hb fun _ _ hq e => rv_eqIL (ex_l e h1) (sq_of hq)
theorem ev_neIN (ha : Ev ta σ H (.ref p)) (hb : EvL tb σ H (ms.map V.int)) (h1 : SqL K H p (ns.map V.int)) : Ev (tOp (rNeD K) ta tb) σ H (.bl (!decide (ns = ms))) := ev_opL ha hb fun _ _ hq e => rv_neIL (ex_l e h1) (sq_of hq)
theorem ev_eqNI (ha : EvL ta σ H (ns.map V.int)) (hb : Ev tb σ H (.ref q)) (h2 : SqL K H q (ms.map V.int)) : Ev (tOp (rEqD K) ta tb) σ H (.bl (decide (ns = ms))) := ev_opL1 ha (fun _ e => hb.mono e) fun _ _ hp e => rv_eqIL (sq_of hp) (ex_l e h2)
theorem ev_neNI (ha : EvL ta σ H (ns.map V.int)) (hb : Ev tb σ H (.ref q)) (h2 : SqL K H q (ms.map V.int)) : Ev (tOp (rNeD K) ta tb) σ H (.bl (!decide (ns = ms))) := ev_opL1 ha (fun _ e => hb.mono e) fun _ _ hp e => rv_neIL (sq_of hp) (ex_l e h2)
theorem ev_eqNN (ha : EvL ta σ H (ns.map V.int)) (hb : EvL tb σ H (ms.map V.int)) : Ev (tOp (rEqD K) ta tb) σ H (.bl (decide (ns = ms))) := ev_opLL ha hb fun _ _ _ hp hq _ => rv_eqIL (sq_of hp) (sq_of hq)
theorem ev_neNN (ha : EvL ta σ H (ns.map V.int)) (hb : EvL tb σ H (ms.map V.int)) : Ev (tOp (rNeD K) ta tb) σ H (.bl (!decide (ns = ms))) := ev_opLL ha hb fun _ _ _ hp hq _ => rv_neIL (sq_of hp) (sq_of hq)

/-! ### comprehensions whose items are values -/
theorem et_yes : EvT tYes σ H true := fun H1 _ _ q => q H1 (Ex.refl H1)
theorem take_snoc {α : Type} {l : List α} {i : Nat} {x : α} (h : l[i]? = some x) : l.take (i + 1) = l.take i ++ [x] := by
  rw [List.take_add_one, h]
  rfl
def CwA {α : Type} (H : Hp) (l : List α) (f : α → Bool) (g : α → V) (Dl : Addr) (i : Nat) (H' : Hp) : Prop := H Dl = none ∧ Ex H H' ∧ H' Dl = some (.lst (((l.take i).filter f).map g))
theorem cwA_turn {α : Type} {l : List α} {f : α → Bool} {g : α → V} {Dl : Addr} {i : Nat} {x : α} {σ2 : L2.St} (p : CwA H l f g Dl i H') (hi : l[i]? = some x) (hz : l.length < 50000) (ht : EvT t σ2 H (f x)) (he : f x = true → Ev te σ2 H (g x)) :
    t σ2 H' fun b H3 => if b = true then te σ2 H3 fun y H4 => ∃ acc, H4 Dl = some (.lst acc) ∧ acc.length < sizeLine ∧ CwA H l f g Dl (i + 1) (upd H4 Dl (.lst (acc ++ [y]))) else CwA H l f g Dl (i + 1) H3 := by
  obtain ⟨p1, p2, p3⟩ := p
  have hlt : i < l.length := (List.getElem?_eq_some_iff.mp hi).1
  have hlen : (((l.take i).filter f).map g).length ≤ l.length := by
    rw [List.length_map]
    refine Nat.le_trans (List.length_filter_le _ _) ?_
    rw [List.length_take]
    omega
  refine ht H' p2 _ fun H3 e3 => ?_
  cases hf : f x with
  | true =>
    show te σ2 H3 fun y H4 => ∃ acc, H4 Dl = some (.lst acc) ∧ acc.length < sizeLine ∧ CwA H l f g Dl (i + 1) (upd H4 Dl (.lst (acc ++ [y])))
    refine he hf H3 (p2.trans e3) _ fun H4 e4 => ⟨_, e4 Dl _ (e3 Dl _ p3), sz_lt (by omega), p1, Ex.mut ((p2.trans e3).trans e4) p1, ?_⟩
    rw [upd_same, take_snoc hi, List.filter_append, List.map_append, List.filter_cons, if_pos hf]
    rfl
  | false =>
    show CwA H l f g Dl (i + 1) H3
    refine ⟨p1, p2.trans e3, ?_⟩
    rw [take_snoc hi, List.filter_append, List.map_append, List.filter_cons, if_neg (by rw [hf]; decide)]
    show H3 Dl = some (.lst (_ ++ []))
    rw [List.append_nil]
    exact e3 Dl _ p3
/-- over a list of enc of l's items -/
theorem el_lcA {α : Type} {a : Addr} {j : Nat} {vs : List Nat} (l : List α) (enc : α → V) (f : α → Bool) (g : α → V) (h : Ev tl σ H (.ref a)) (hx : SqL K H a (l.map enc)) (hz : l.length < 50000) (hw : ∀ x, wipe ((wipe σ vs).set j (some x)) vs = wipe σ vs)
    (ht : ∀ x ∈ l, ∀ H1, Ex H H1 → EvT t ((wipe σ vs).set j (some (enc x))) H1 (f x)) (he : ∀ x ∈ l, f x = true → ∀ H1, Ex H H1 → Ev te ((wipe σ vs).set j (some (enc x))) H1 (g x)) :
    EvL (tLc (iList K tl) (gName j) t te vs) σ H ((l.filter f).map g) := fun H0 e Q q => h H0 e _ fun H1 e1 => ⟨a, rfl, ⟨_, ex_l (e.trans e1) hx⟩, fun Dl hD =>
  lc_list (xs := l.map enc) (CwA H1 l f g Dl) ⟨hD, Ex.new hD, upd_same⟩ (fun i H' _ p => ex_l ((e.trans e1).trans p.2.1) hx) (fun i x H' hi p => by
    rw [List.getElem?_map] at hi
    cases hq : l[i]? with
    | none =>
      rw [hq] at hi
      cases hi
    | some b =>
      rw [hq] at hi
      have ex : enc b = x := Option.some.inj hi
      subst ex
      have hm : b ∈ l := List.mem_of_getElem? hq
      exact ⟨hw _, cwA_turn p hq hz (ht b hm H1 (e.trans e1)) (fun hf => he b hm hf H1 (e.trans e1))⟩)
    (fun H' p => by
      have p3 := p.2.2
      rw [List.length_map, List.take_length] at p3
      exact q Dl H' (fresh_back e1 p.1) (e1.trans p.2.1) p3)⟩
/-- over a new list -/
theorem el_lcNA {α : Type} {j : Nat} {vs : List Nat} (l : List α) (enc : α → V) (f : α → Bool) (g : α → V) (h : EvL tl σ H (l.map enc)) (hz : l.length < 50000) (hw : ∀ x, wipe ((wipe σ vs).set j (some x)) vs = wipe σ vs)
    (ht : ∀ x ∈ l, ∀ H1, Ex H H1 → EvT t ((wipe σ vs).set j (some (enc x))) H1 (f x)) (he : ∀ x ∈ l, f x = true → ∀ H1, Ex H H1 → Ev te ((wipe σ vs).set j (some (enc x))) H1 (g x)) :
    EvL (tLc (iList K tl) (gName j) t te vs) σ H ((l.filter f).map g) := fun H0 e Q q => h H0 e _ fun a H1 ha e1 hx => ⟨a, rfl, ⟨_, sq_of hx⟩, fun Dl hD =>
  lc_list (xs := l.map enc) (CwA H1 l f g Dl) ⟨hD, Ex.new hD, upd_same⟩ (fun i H' _ p => sq_of (p.2.1 a _ hx)) (fun i x H' hi p => by
    rw [List.getElem?_map] at hi
    cases hq : l[i]? with
    | none =>
      rw [hq] at hi
      cases hi
    | some b =>
      rw [hq] at hi
      have ex : enc b = x := Option.some.inj hi
      subst ex
      have hm : b ∈ l := List.mem_of_getElem? hq
      exact ⟨hw _, cwA_turn p hq hz (ht b hm H1 (e.trans e1)) (fun hf => he b hm hf H1 (e.trans e1))⟩)
    (fun H' p => by
      have p3 := p.2.2
      rw [List.length_map, List.take_length] at p3
      exact q Dl H' (fresh_back e1 p.1) (e1.trans p.2.1) p3)⟩
/-- over range(n) -/
theorem el_lcR {ta : TA} {j : Nat} {vs : List Nat} {n : Int} (f : Nat → Bool) (g : Nat → V) (h : EvA ta σ H [.int n]) (hn : 0 ≤ n ∧ n < 50000) (hw : ∀ x, wipe ((wipe σ vs).set j (some x)) vs = wipe σ vs)
    (ht : ∀ i : Nat, (i : Int) < n → ∀ H1, Ex H H1 → EvT t ((wipe σ vs).set j (some (.int (i : Int)))) H1 (f i)) (he : ∀ i : Nat, (i : Int) < n → f i = true → ∀ H1, Ex H H1 → Ev te ((wipe σ vs).set j (some (.int (i : Int)))) H1 (g i)) :
    EvL (tLc (iRng1 ta) (gName j) t te vs) σ H (((List.range n.toNat).filter f).map g) := fun H0 e Q q => h H0 e _ fun H1 e1 => ⟨n, rfl, by omega, by omega, fun Dl hD =>
  lc_range (lo := 0) (n := n.toNat) (CwA H1 (List.range n.toNat) f g Dl) ⟨hD, Ex.new hD, upd_same⟩ (fun i H' hi p => by
    have e0 : (0 : Int) + (i : Int) = (i : Int) := Int.zero_add _
    have hq : (List.range n.toNat)[i]? = some i := by rw [List.getElem?_range hi]
    show wipe ((wipe σ vs).set j (some (.int ((0 : Int) + (i : Int))))) vs = wipe σ vs ∧ t ((wipe σ vs).set j (some (.int ((0 : Int) + (i : Int))))) H' fun b H3 => if b = true then te ((wipe σ vs).set j (some (.int ((0 : Int) + (i : Int))))) H3 fun y H4 => ∃ acc, H4 Dl = some (.lst acc) ∧ acc.length < sizeLine ∧ CwA H1 (List.range n.toNat) f g Dl (i + 1) (upd H4 Dl (.lst (acc ++ [y]))) else CwA H1 (List.range n.toNat) f g Dl (i + 1) H3
    rw [e0]
    exact ⟨hw _, cwA_turn p hq (by rw [List.length_range]; omega) (ht i (by omega) H1 (e.trans e1)) (fun hf => he i (by omega) hf H1 (e.trans e1))⟩) (fun H' p => by
      have p3 := p.2.2
      rw [List.take_of_length_le (by rw [List.length_range]; omega)] at p3
      exact q Dl H' (fresh_back e1 p.1) (e1.trans p.2.1) p3)⟩
theorem filter_tt {α : Type} (l : List α) : l.filter (fun _ => true) = l := by
  rw [List.filter_eq_self]
  intro _ _
  rfl

/-! ### for a, b in enumerate(xs), a and b names -/
variable {D : Ends} {tu tz : TS}
theorem s_forE {α : Type} {a : Addr} {ja jb : Nat} (l : List α) (enc : α → V) (h : Ev tl σ H (.ref a)) (hx : SqL K H a (l.map enc)) (Pv : Nat → L2.St → Hp → Prop) (h0 : ∀ H1, Ex H H1 → Pv 0 σ H1) (hl : ∀ i σ' H', i ≤ l.length → Pv i σ' H' → SqL K H' a (l.map enc))
    (hs : ∀ (i : Nat) b σ' H', l[i]? = some b → Pv i σ' H' → ∀ H2, Ex H' H2 → tu { D with nx := Pv (i + 1), ct := Pv (i + 1), bk := D.nx } ((σ'.set ja (some (.int (i : Int)))).set jb (some (enc b))) H2) (hd : ∀ σ' H', Pv l.length σ' H' → D.nx σ' H') :
    tFor (iEnum K (tCons tl tNil)) (gTup K 2 (gCons (gName ja) (gCons (gName jb) gNil))) tu D σ H := h H (Ex.refl H) _ fun H1 e => ⟨a, _, rfl, ex_l e hx, by
  have w := walk_enum (K := K) (a := a) (xs := l.map enc)
  refine for_it w Pv (h0 H1 e) (fun i σ' H' hi p => hl i σ' H' (by rw [List.length_map] at hi; exact hi) p) (fun i x σ' H' H2 hi p y => ?_) (fun σ' H' p => hd σ' H' (by rw [List.length_map] at p; exact p))
  obtain ⟨T, v1, v2, rfl, nT, rfl, e1, e2⟩ := y
  have e1 : V.int (i : Int) = v1 := Option.some.inj e1
  subst e1
  have e2 : (l.map enc)[i]? = some v2 := e2
  rw [List.getElem?_map] at e2
  cases hq : l[i]? with
  | none =>
    rw [hq] at e2
    cases e2
  | some b =>
    rw [hq] at e2
    have ex : enc b = v2 := Option.some.inj e2
    subst ex
    exact ⟨T, [.int (i : Int), enc b], rfl, .inl (.inl upd_same), rfl, _, _, rfl, _, _, rfl, rfl, hs i b σ' H' hq p _ (Ex.new nT)⟩⟩
theorem q_forE {α : Type} {a : Addr} {ja jb : Nat} (l : List α) (enc : α → V) (h : Ev tl σ H (.ref a)) (hx : SqL K H a (l.map enc)) (Pv : Nat → L2.St → Hp → Prop) (h0 : ∀ H1, Ex H H1 → Pv 0 σ H1) (hl : ∀ i σ' H', i ≤ l.length → Pv i σ' H' → SqL K H' a (l.map enc))
    (hs : ∀ (i : Nat) b σ' H', l[i]? = some b → Pv i σ' H' → ∀ H2, Ex H' H2 → tu { D with nx := Pv (i + 1), ct := Pv (i + 1), bk := tz D } ((σ'.set ja (some (.int (i : Int)))).set jb (some (enc b))) H2) (hd : ∀ σ' H', Pv l.length σ' H' → tz D σ' H') :
    tSeq (tFor (iEnum K (tCons tl tNil)) (gTup K 2 (gCons (gName ja) (gCons (gName jb) gNil))) tu) tz D σ H := s_forE (D := { D with nx := tz D }) l enc h hx Pv h0 hl hs hd
/-- list(range(a, b)) -/
theorem el_rg {i j : Int} (ha : Ev ta σ H (.int i)) (hb : Ev tb σ H (.int j)) (h : RgOk i j) : EvL (tLstRg (tRg2 ta tb)) σ H (rgV i j) := fun H1 e Q q =>
  ha H1 e _ fun H2 e2 => hb H2 (e.trans e2) _ fun H3 e3 => ⟨i, j, rfl, rfl, h, fun p hp => q p _ (fresh_back (e2.trans e3) hp) ((e2.trans e3).trans (Ex.new hp)) upd_same⟩
theorem el_rg1 {j : Int} (hb : Ev tb σ H (.int j)) (h : RgOk 0 j) : EvL (tLstRg (tRg1 tb)) σ H (rgV 0 j) := fun H1 e Q q =>
  hb H1 e _ fun H3 e3 => ⟨j, rfl, h, fun p hp => q p _ (fresh_back e3 hp) (e3.trans (Ex.new hp)) upd_same⟩
theorem el_nil : EvL (tLst tNil) σ H [] := el_lst ea_nil (Nat.zero_le _)
end
theorem RetV.mk {v : V} {H H' : Hp} {Q : VK} (k : RetV v H Q) (e : Ex H H') : ∀ H2, Ex H' H2 → Q v H2 := fun H2 e2 => k H2 (e.trans e2)
end Ik

namespace Ik
open PySem PySem.Spec PyProof.Rows L2 Evl
theorem not_t {b : Bool} (h : (!b) = true) : b = false := by
  cases b with
  | false => rfl
  | true => cases h
theorem not_f {b : Bool} (h : (!b) = false) : b = true := by
  cases b with
  | true => rfl
  | false => cases h
/-! ### a def as the top has left it -/
structure Dn (K : PySem.W.Frag) (mg : Str → Option Value) (x : Str) (st : Stmt) (ps : List Str) : Prop where
  ex : ∃ (f : Addr) (fd : FuncData), Fun K x x st f fd ∧ mg x = some (.ref f) ∧ Binds K fd ps []
section
variable {P : Program} {w : World} {K : PySem.W.Frag} {mg : Str → Option Value} {base : Heap}
theorem cal_of {x : Str} {st : Stmt} {N ps : List Str} {k : Nat} {sp : Sp} (D : Dn K mg x st ps) (S : FnScope N ps (defScope st)) (len : ∀ vs H Q E, sp vs H Q E → vs.length = ps.length)
    (hbody : ∀ (f : Addr) (cdv : Value) (A : Around) (outer : List Env) (s : Shared) (H : Hp) (vs : List V) (Q : VK) (E : XK), Room k (A.deeper (envOfC x (defScope st) s.heap.objs.size f cdv)) → sp vs H Q E →
      ∃ t, PSs (cxOf CX0 P w K mg base N x (defScope st) f cdv A outer s H E).nox (defBody st) t ∧ t { nx := fun _ H' => Q .non H', rt := Q } (start N vs) H) : Cal P w K mg base x (k + 1) ps sp := by
  obtain ⟨f, fd, F, g, b⟩ := D.ex
  exact ⟨f, fd, F.ok S len fun cdv A outer s H vs Q E hr h => hbody f cdv A outer s H vs Q E hr h, g, F.kp, b⟩
theorem dn_mk {x : Str} {st : Stmt} {f : Addr} {fd : FuncData} {ps : List Str} (F : Fun K x x st f fd) (g : mg x = some (.ref f)) (b : Binds K fd ps []) : Dn K mg x st ps := ⟨f, fd, F, g, b⟩
end
end Ik

namespace Ik
/-! ### houses: plain lists -/
def okC (c : Int) : Bool := decide (0 ≤ c) && decide (c ≤ 9)
def isHouse (cs : List Int) : Bool := (decide (1 ≤ (cs.length : Int)) && decide ((cs.length : Int) ≤ 6)) && cs.all okC
/-- a house, as it is used -/
structure House (cs : List Int) : Prop where
  pos : 1 ≤ cs.length
  le : cs.length ≤ 6
  ok : ∀ c ∈ cs, 0 ≤ c ∧ c ≤ 9
theorem house_of {cs : List Int} (h : isHouse cs = true) : House cs := by
  unfold isHouse at h
  rw [Bool.and_eq_true, Bool.and_eq_true, decide_eq_true_eq, decide_eq_true_eq, List.all_eq_true] at h
  refine ⟨by omega, by omega, fun c hc => ?_⟩
  have q := h.2 c hc
  unfold okC at q
  rw [Bool.and_eq_true, decide_eq_true_eq, decide_eq_true_eq] at q
  exact q
/-- the kinds of the rooms, from kind k on -/
def kindsF : Nat → List Int → List Int
  | _, [] => []
  | k, c :: r => List.replicate c.toNat (k : Int) ++ kindsF (k + 1) r
def kinds (cs : List Int) : List Int := kindsF 0 cs
theorem kindsF_append : ∀ (k : Nat) (xs ys : List Int), kindsF k (xs ++ ys) = kindsF k xs ++ kindsF (k + xs.length) ys
  | k, [], ys => by simp [kindsF]
  | k, c :: r, ys => by
    show List.replicate c.toNat (k : Int) ++ kindsF (k + 1) (r ++ ys) = (List.replicate c.toNat (k : Int) ++ kindsF (k + 1) r) ++ kindsF (k + (r.length + 1)) ys
    rw [kindsF_append (k + 1) r ys, List.append_assoc, show k + 1 + r.length = k + (r.length + 1) by omega]
theorem kindsF_snoc (k : Nat) (xs : List Int) (c : Int) : kindsF k (xs ++ [c]) = kindsF k xs ++ List.replicate c.toNat ((k + xs.length : Nat) : Int) := by
  rw [kindsF_append]
  show _ ++ (List.replicate c.toNat ((k + xs.length : Nat) : Int) ++ []) = _
  rw [List.append_nil]
theorem kindsF_len : ∀ (k : Nat) (cs : List Int), (∀ c ∈ cs, 0 ≤ c) → ((kindsF k cs).length : Int) = cs.sum
  | _, [], _ => rfl
  | k, c :: r, h => by
    have ih := kindsF_len (k + 1) r fun x hx => h x (List.mem_cons_of_mem _ hx)
    have hc := h c List.mem_cons_self
    show ((List.replicate c.toNat (k : Int) ++ kindsF (k + 1) r).length : Int) = (c :: r).sum
    rw [List.length_append, List.length_replicate, List.sum_cons]
    omega
theorem kindsF_ge : ∀ (k : Nat) (cs : List Int), ∀ x ∈ kindsF k cs, (k : Int) ≤ x ∧ x < ((k + cs.length : Nat) : Int)
  | _, [], x, h => by simp [kindsF] at h
  | k, c :: r, x, h => by
    rcases List.mem_append.mp (show x ∈ List.replicate c.toNat (k : Int) ++ kindsF (k + 1) r from h) with h | h
    · have e := List.eq_of_mem_replicate h
      subst e
      rw [List.length_cons]
      omega
    · have := kindsF_ge (k + 1) r x h
      rw [List.length_cons]
      omega
theorem kinds_lt {cs : List Int} {x : Int} (h : x ∈ kinds cs) : 0 ≤ x ∧ x < (cs.length : Int) := by
  have := kindsF_ge 0 cs x h
  omega
theorem sum_nonneg : ∀ cs : List Int, (∀ c ∈ cs, 0 ≤ c) → 0 ≤ cs.sum
  | [], _ => by simp
  | c :: r, h => by
    rw [List.sum_cons]
    have := sum_nonneg r fun x hx => h x (List.mem_cons_of_mem _ hx)
    have := h c List.mem_cons_self
    omega
theorem sum_le9 : ∀ cs : List Int, (∀ c ∈ cs, c ≤ 9) → cs.sum ≤ 9 * cs.length
  | [], _ => by simp
  | c :: r, h => by
    rw [List.sum_cons, List.length_cons]
    have := sum_le9 r fun x hx => h x (List.mem_cons_of_mem _ hx)
    have := h c List.mem_cons_self
    omega
theorem House.nn {cs : List Int} (h : House cs) : ∀ c ∈ cs, 0 ≤ c := fun c hc => (h.ok c hc).1
theorem kinds_len {cs : List Int} (h : House cs) : ((kinds cs).length : Int) = cs.sum := kindsF_len 0 cs h.nn
theorem kinds_le {cs : List Int} (h : House cs) : (kinds cs).length ≤ 54 := by
  have h1 := kinds_len h
  have h2 := sum_le9 cs fun c hc => (h.ok c hc).2
  have h3 := h.le
  omega
theorem take_sum_le : ∀ (cs : List Int) (k : Nat), (∀ c ∈ cs, 0 ≤ c) → 0 ≤ (cs.take k).sum ∧ (cs.take k).sum ≤ cs.sum
  | [], k, _ => by simp
  | c :: r, 0, h => by
    have := sum_nonneg _ h
    simp at *
    omega
  | c :: r, k + 1, h => by
    have := take_sum_le r k fun x hx => h x (List.mem_cons_of_mem _ hx)
    have := h c List.mem_cons_self
    rw [List.take_succ_cons, List.sum_cons, List.sum_cons]
    omega
/-- kind_of's walk: the rooms behind, the kind, the counts left -/
def kindGo (room : Int) : Int → Nat → List Int → Option Nat
  | _, _, [] => none
  | b, k, c :: r => if room < b + c then some k else kindGo room (b + c) (k + 1) r
theorem kindGo_eq : ∀ (cs : List Int) (k : Nat) (b : Int) (j : Nat), (∀ c ∈ cs, 0 ≤ c) → j < (kindsF k cs).length → ∃ n : Nat, kindGo (b + j) b k cs = some n ∧ (kindsF k cs)[j]? = some (n : Int)
  | [], k, b, j, _, h => by simp [kindsF] at h
  | c :: r, k, b, j, h, hj => by
    have hc := h c List.mem_cons_self
    have hj : j < (List.replicate c.toNat (k : Int) ++ kindsF (k + 1) r).length := hj
    rw [List.length_append, List.length_replicate] at hj
    show ∃ n : Nat, (if b + (j : Int) < b + c then some k else kindGo (b + j) (b + c) (k + 1) r) = some n ∧ (List.replicate c.toNat (k : Int) ++ kindsF (k + 1) r)[j]? = some (n : Int)
    by_cases q : b + (j : Int) < b + c
    · refine ⟨k, by rw [if_pos q], ?_⟩
      rw [List.getElem?_append_left (by rw [List.length_replicate]; omega), List.getElem?_replicate, if_pos (by omega)]
    · rw [if_neg q]
      obtain ⟨n, e1, e2⟩ := kindGo_eq r (k + 1) (b + c) (j - c.toNat) (fun x hx => h x (List.mem_cons_of_mem _ hx)) (by omega)
      refine ⟨n, ?_, ?_⟩
      · rw [← e1]
        congr 1
        omega
      · rw [List.getElem?_append_right (by rw [List.length_replicate]; omega), List.length_replicate]
        exact e2
theorem kindGo_le : ∀ (cs : List Int) (k : Nat) (b room : Int) (n : Nat), kindGo room b k cs = some n → n < k + cs.length
  | [], k, b, room, n, h => by simp [kindGo] at h
  | c :: r, k, b, room, n, h => by
    unfold kindGo at h
    rw [List.length_cons]
    split at h
    · have := Option.some.inj h
      omega
    · have := kindGo_le r (k + 1) (b + c) room n h
      omega
/-- the rooms of a kind -/
def roomsOf (cs : List Int) (kind : Int) : List Int :=
  if 0 ≤ kind ∧ kind < cs.length then (List.range (cs.getD kind.toNat 0).toNat).map fun i : Nat => (cs.take kind.toNat).sum + (i : Int) else []
/-- below, at, above a kind -/
theorem kinds_parts {cs : List Int} {k : Nat} (hk : k < cs.length) : kinds cs = kindsF 0 (cs.take k) ++ (List.replicate cs[k].toNat (k : Int) ++ kindsF (k + 1) (cs.drop (k + 1))) := by
  have e : cs = cs.take k ++ (cs[k] :: cs.drop (k + 1)) := by
    rw [← List.drop_eq_getElem_cons hk, List.take_append_drop]
  have hl : (cs.take k).length = k := by rw [List.length_take]; omega
  unfold kinds
  conv => lhs; rw [e]
  rw [kindsF_append, hl]
  show kindsF 0 (cs.take k) ++ (List.replicate cs[k].toNat ((0 + k : Nat) : Int) ++ kindsF (0 + k + 1) (cs.drop (k + 1))) = _
  rw [Nat.zero_add]
/-- a room is of kind k or better where it is not below k's first -/
theorem room_ge {cs : List Int} (h : House cs) {k : Nat} (hk : k ≤ cs.length) {r : Nat} {x : Int} (hr : (kinds cs)[r]? = some x) : (cs.take k).sum ≤ (r : Int) ↔ (k : Int) ≤ x := by
  have e : cs = cs.take k ++ cs.drop k := (List.take_append_drop k cs).symm
  have hl : (cs.take k).length = k := by rw [List.length_take]; omega
  have hs := kindsF_len 0 (cs.take k) fun c hc => h.nn c (List.mem_of_mem_take hc)
  have ek : kinds cs = kindsF 0 (cs.take k) ++ kindsF k (cs.drop k) := by
    unfold kinds
    conv => lhs; rw [e]
    rw [kindsF_append, hl, Nat.zero_add]
  rw [ek] at hr
  by_cases q : r < (kindsF 0 (cs.take k)).length
  · rw [List.getElem?_append_left q] at hr
    have := kindsF_ge 0 (cs.take k) x (List.mem_of_getElem? hr)
    rw [hl] at this
    omega
  · rw [List.getElem?_append_right (by omega)] at hr
    have := kindsF_ge k (cs.drop k) x (List.mem_of_getElem? hr)
    omega
/-- the rooms whose kind is k, gone through -/
def roomsAt (ks : List Int) (k : Int) : List Nat := (List.range ks.length).filter fun r => decide (ks.getD r 0 = k)
theorem filter_none {α : Type} {p : α → Bool} {l : List α} (h : ∀ x ∈ l, p x = false) : l.filter p = [] := by
  rw [List.filter_eq_nil_iff]
  intro x hx
  rw [h x hx]
  decide
theorem filter_all {α : Type} {p : α → Bool} {l : List α} (h : ∀ x ∈ l, p x = true) : l.filter p = l := by
  rw [List.filter_eq_self]
  exact h
theorem getD_left {l r : List Int} {i : Nat} (h : i < l.length) : (l ++ r).getD i 0 = l.getD i 0 := by
  rw [List.getD_eq_getElem?_getD, List.getD_eq_getElem?_getD, List.getElem?_append_left h]
theorem getD_right {l r : List Int} {i : Nat} (h : l.length ≤ i) : (l ++ r).getD i 0 = r.getD (i - l.length) 0 := by
  rw [List.getD_eq_getElem?_getD, List.getD_eq_getElem?_getD, List.getElem?_append_right h]
theorem getD_mem {l : List Int} {i : Nat} (h : i < l.length) : l.getD i 0 ∈ l := by
  rw [List.getD_eq_getElem?_getD, List.getElem?_eq_getElem h]
  exact List.getElem_mem h
theorem roomsAt_parts (A : List Int) (c : Nat) (B : List Int) (k : Int) (hA : ∀ x ∈ A, x < k) (hB : ∀ x ∈ B, k < x) : roomsAt (A ++ (List.replicate c k ++ B)) k = (List.range c).map (A.length + ·) := by
  unfold roomsAt
  have e : (A ++ (List.replicate c k ++ B)).length = A.length + (c + B.length) := by
    rw [List.length_append, List.length_append, List.length_replicate]
  rw [e, List.range_add, List.filter_append, List.range_add, List.map_append, List.filter_append]
  rw [filter_none (l := List.range A.length), List.nil_append, filter_all, filter_none, List.append_nil]
  · intro x hx
    obtain ⟨y, hy, rfl⟩ := List.mem_map.mp hx
    obtain ⟨z, hz, rfl⟩ := List.mem_map.mp hy
    have hz := List.mem_range.mp hz
    rw [getD_right (by omega), getD_right (by rw [List.length_replicate]; omega), List.length_replicate]
    have := hB _ (getD_mem (l := B) (i := A.length + (c + z) - A.length - c) (by omega))
    rw [decide_eq_false_iff_not]
    omega
  · intro x hx
    obtain ⟨y, hy, rfl⟩ := List.mem_map.mp hx
    have hy := List.mem_range.mp hy
    rw [getD_right (by omega), getD_left (by rw [List.length_replicate]; omega)]
    have hm := getD_mem (l := List.replicate c k) (i := A.length + y - A.length) (by rw [List.length_replicate]; omega)
    rw [decide_eq_true_eq]
    exact List.eq_of_mem_replicate hm
  · intro x hx
    have hx := List.mem_range.mp hx
    rw [getD_left hx]
    have := hA _ (getD_mem hx)
    rw [decide_eq_false_iff_not]
    omega
theorem roomsAt_eq {cs : List Int} (h : House cs) {k : Nat} (hk : k < cs.length) : (roomsAt (kinds cs) (k : Int)).map (fun r : Nat => (r : Int)) = roomsOf cs (k : Int) := by
  rw [kinds_parts hk, roomsAt_parts]
  · unfold roomsOf
    rw [if_pos (by omega), List.map_map]
    have hs := kindsF_len 0 (cs.take k) fun c hc => h.nn c (List.mem_of_mem_take hc)
    rw [Int.toNat_natCast, List.getD_eq_getElem?_getD, List.getElem?_eq_getElem hk]
    show List.map _ (List.range cs[k].toNat) = List.map _ (List.range cs[k].toNat)
    refine List.map_congr_left fun i _ => ?_
    show ((((kindsF 0 (cs.take k)).length + i : Nat)) : Int) = (cs.take k).sum + (i : Int)
    omega
  · intro x hx
    have := kindsF_ge 0 (cs.take k) x hx
    rw [List.length_take] at this
    omega
  · intro x hx
    have := kindsF_ge (k + 1) _ x hx
    omega
theorem roomsAt_lt {ks : List Int} {k : Int} : ∀ r ∈ roomsAt ks k, r < ks.length := fun r hr => List.mem_range.mp (List.mem_filter.mp hr).1
end Ik

namespace Ik
open PySem PySem.Spec PyProof.Rows L2 Evl
theorem rep_one (v : V) : ∀ n : Nat, (List.replicate n [v]).flatten = List.replicate n v
  | 0 => rfl
  | n + 1 => by
    rw [List.replicate_succ, List.flatten_cons, rep_one v n]
    rfl
theorem map_rep (n : Nat) (x : Int) : (List.replicate n x).map V.int = List.replicate n (V.int x) := List.map_replicate
theorem kinds_step {cs : List Int} {i : Nat} (hi : i < cs.length) : kindsF 0 (cs.take (i + 1)) = kindsF 0 (cs.take i) ++ List.replicate cs[i].toNat (i : Int) := by
  rw [take_snoc (List.getElem?_eq_getElem hi), kindsF_snoc, List.length_take, show 0 + min i cs.length = i by omega]
theorem kinds_take_le {cs : List Int} (h : House cs) (i : Nat) : (kindsF 0 (cs.take i)).length ≤ 54 := by
  have h1 := kindsF_len 0 (cs.take i) fun c hc => h.nn c (List.mem_of_mem_take hc)
  have h2 := take_sum_le cs i h.nn
  have h3 := sum_le9 cs fun c hc => (h.ok c hc).2
  have h4 := h.le
  omega
end Ik

namespace Ik
open PySem PySem.Spec PyProof.Rows L2 Evl
def top (i : Nat) : Stmt := PySem.Challenge.pw_innkinds_k01_houses.main.body.getD i (.Pass ⟨0, 0, 0, 0⟩)
abbrev s_is_house : Stmt := top 3
theorem sc_is_house : FnScope ["counts", "count"] ["counts"] (defScope s_is_house) := ⟨rfl, rfl, rfl, by decide +kernel, rfl, by decide +kernel, by decide +kernel⟩
abbrev s_room_count : Stmt := top 4
theorem sc_room_count : FnScope ["counts"] ["counts"] (defScope s_room_count) := ⟨rfl, rfl, rfl, by decide +kernel, rfl, by decide +kernel, by decide +kernel⟩
abbrev s_first_room : Stmt := top 5
theorem sc_first_room : FnScope ["counts", "kind"] ["counts", "kind"] (defScope s_first_room) := ⟨rfl, rfl, rfl, by decide +kernel, rfl, by decide +kernel, by decide +kernel⟩
abbrev s_kind_of : Stmt := top 6
theorem sc_kind_of : FnScope ["counts", "room", "behind", "kind", "count"] ["counts", "room"] (defScope s_kind_of) := ⟨rfl, rfl, rfl, by decide +kernel, rfl, by decide +kernel, by decide +kernel⟩
abbrev s_rooms_of : Stmt := top 7
theorem sc_rooms_of : FnScope ["counts", "kind", "start"] ["counts", "kind"] (defScope s_rooms_of) := ⟨rfl, rfl, rfl, by decide +kernel, rfl, by decide +kernel, by decide +kernel⟩
abbrev s_law_cell : Stmt := top 9
theorem sc_law_cell : FnScope ["_law_script", "_law_k", "_law_more"] ["_law_script", "_law_k"] (defScope s_law_cell) := ⟨rfl, rfl, rfl, by decide +kernel, rfl, by decide +kernel, by decide +kernel⟩
abbrev s_law_whole : Stmt := top 10
theorem sc_law_whole : FnScope ["_law_found"] ["_law_found"] (defScope s_law_whole) := ⟨rfl, rfl, rfl, by decide +kernel, rfl, by decide +kernel, by decide +kernel⟩
abbrev s_law_wholes : Stmt := top 11
theorem sc_law_wholes : FnScope ["_law_found", "_law_one"] ["_law_found"] (defScope s_law_wholes) := ⟨rfl, rfl, rfl, by decide +kernel, rfl, by decide +kernel, by decide +kernel⟩
abbrev s_law_counts_by : Stmt := top 12
theorem sc_law_counts_by : FnScope ["_law_script", "_law_counts", "_law_far", "_law_most", "_law_k", "_law_one"] ["_law_script"] (defScope s_law_counts_by) := ⟨rfl, rfl, rfl, by decide +kernel, rfl, by decide +kernel, by decide +kernel⟩
abbrev s_law_all_rooms : Stmt := top 13
theorem sc_law_all_rooms : FnScope ["_law_counts", "_law_kinds", "_law_kind", "_law_room", "_law_found", "_law_due"] ["_law_counts"] (defScope s_law_all_rooms) := ⟨rfl, rfl, rfl, by decide +kernel, rfl, by decide +kernel, by decide +kernel⟩
abbrev s_law : Stmt := top 14
theorem sc_law : FnScope ["_law_script", "_law_counts", "_law_handed", "_law_good", "_law_found", "_law_one"] ["_law_script"] (defScope s_law) := ⟨rfl, rfl, rfl, by decide +kernel, rfl, by decide +kernel, by decide +kernel⟩
structure Tp (mg : Str → Option Value) : Prop where
  z_all : mg "all" = none
  z_len : mg "len" = none
  z_sum : mg "sum" = none
  z_max : mg "max" = none
  z_enumerate : mg "enumerate" = none
  z_list : mg "list" = none
  z_range : mg "range" = none
  z_isinstance : mg "isinstance" = none
  z_int : mg "int" = none
  z_bool : mg "bool" = none
  z_abs : mg "abs" = none
  g_MOST_KINDS : ∃ t, mg "MOST_KINDS" = some (.int 6 t)
  g_MOST_OF_A_KIND : ∃ t, mg "MOST_OF_A_KIND" = some (.int 9 t)
/-! ### the program's houses -/
def sp_is_house (K : PySem.W.Frag) : Sp := fun vs H Q _ => ∃ (a : Addr) (cs : List Int), vs = [.ref a] ∧ SqL K H a (cs.map V.int) ∧ cs.length ≤ 1000 ∧ RetV (.bl (isHouse cs)) H Q
def sp_room_count (K : PySem.W.Frag) : Sp := fun vs H Q _ => ∃ (a : Addr) (cs : List Int), vs = [.ref a] ∧ SqL K H a (cs.map V.int) ∧ RetV (.int cs.sum) H Q
def sp_first_room (K : PySem.W.Frag) : Sp := fun vs H Q _ => ∃ (a : Addr) (cs : List Int) (k : Nat), vs = [.ref a, .int (k : Int)] ∧ SqL K H a (cs.map V.int) ∧ RetV (.int (cs.take k).sum) H Q
def onV : Option Nat → V
  | none => .non
  | some k => .int (k : Int)
def sp_kind_of (K : PySem.W.Frag) : Sp := fun vs H Q _ => ∃ (a : Addr) (cs : List Int) (r : Int), vs = [.ref a, .int r] ∧ SqL K H a (cs.map V.int) ∧ RetV (onV (kindGo r 0 0 cs)) H Q
def sp_rooms_of (K : PySem.W.Frag) : Sp := fun vs H Q _ => ∃ (a : Addr) (cs : List Int) (k : Int), vs = [.ref a, .int k] ∧ SqL K H a (cs.map V.int) ∧ House cs ∧ RetL ((roomsOf cs k).map V.int) H Q
theorem cutV_take (xs : List V) (k : Nat) : cutV xs none (some (k : Int)) = xs.take k := by
  unfold cutV
  rw [HT.sIx_none, HT.sIx_nat, Nat.sub_zero, List.drop_zero]
  by_cases h : k ≤ xs.length
  · rw [Nat.min_eq_left h]
  · rw [Nat.min_eq_right (by omega), List.take_of_length_le (Nat.le_refl _), List.take_of_length_le (by omega)]
section
variable {K : PySem.W.Frag} {H : Hp} {a : Addr} {cs : List Int}
theorem v_is_house (h : SqL K H a (cs.map V.int)) (hl : cs.length ≤ 1000) : SpV (sp_is_house K) [.ref a] H (.bl (isHouse cs)) := fun _ e _ q _ => ⟨a, cs, rfl, ex_l e h, hl, q⟩
theorem v_room_count (h : SqL K H a (cs.map V.int)) : SpV (sp_room_count K) [.ref a] H (.int cs.sum) := fun _ e _ q _ => ⟨a, cs, rfl, ex_l e h, q⟩
theorem v_first_room (h : SqL K H a (cs.map V.int)) (k : Nat) : SpV (sp_first_room K) [.ref a, .int (k : Int)] H (.int (cs.take k).sum) := fun _ e _ q _ => ⟨a, cs, k, rfl, ex_l e h, q⟩
theorem v_kind_of (h : SqL K H a (cs.map V.int)) (r : Int) : SpV (sp_kind_of K) [.ref a, .int r] H (onV (kindGo r 0 0 cs)) := fun _ e _ q _ => ⟨a, cs, r, rfl, ex_l e h, q⟩
theorem l_rooms_of (h : SqL K H a (cs.map V.int)) (hh : House cs) (k : Int) : SpL (sp_rooms_of K) [.ref a, .int k] H ((roomsOf cs k).map V.int) := fun _ e _ q _ => ⟨a, cs, k, rfl, ex_l e h, hh, q⟩
end
section
variable {P : Program} {w : World} {K : PySem.W.Frag} {mg : Str → Option Value} {base : Heap}
theorem cal_is_house (D : Dn K mg "is_house" s_is_house ["counts"]) (T : Tp mg) : Cal P w K mg base "is_house" 1 ["counts"] (sp_is_house K) := by
  refine cal_of D sc_is_house (fun vs H Q E h => ?_) (fun f cdv A outer s H vs Q E hr h => ?_)
  · obtain ⟨a, cs, rfl, _⟩ := h
    rfl
  · obtain ⟨a, cs, rfl, hS, hl, k⟩ := h
    refine ⟨_, (pss_cons (ps_if (pt_not (pt_chain op_le op_le pe_int (pe_callB (r := rLenS K) call_len_seq (by rfl) T.z_len (by decide +kernel) (pa_cons (pv 0) pa_nil)) (pe_glob (v := .int 6) rfl T.g_MOST_KINDS.choose_spec ⟨_, rfl⟩))) (pss_one (ps_ret pe_bl)) pss_nil) (pss_one (ps_ret (pe_callB (r := rAll K) (cr_all rfl) (by rfl) T.z_all (by decide +kernel) (pa_cons (pe_lc (own := [("count", 1)]) (g := gName 1) (by rfl) sc_is_house.nd (pi_list (pv 0)) (blkOk_by (own := [("count", 1)]) (N := ["counts", "count"]) (sc := defScope s_is_house) (by decide +kernel)) (fun _ _ _ _ _ => pg_name (i := 1) sc_is_house.nd rfl (Or.inl rfl)) (fun _ _ _ _ _ => pts_nil) (fun _ _ _ _ _ => (pe_chain op_le op_le pe_int (pv 1) (pe_glob (v := .int 9) rfl T.g_MOST_OF_A_KIND.choose_spec ⟨_, rfl⟩)))) pa_nil))))), ?_⟩
    refine q_when (et_not (et_test (ev_chainI ev_c (ev_len' (ev_var rfl) hS) ev_c))) (fun hb H1 e1 => ?_) (fun hb H1 e1 => ?_)
    · refine s_ret ev_c fun H2 e2 => ?_
      have e : isHouse cs = false := by
        unfold isHouse
        rw [List.length_map] at hb
        rw [Bool.and_eq_false_iff]
        exact .inl (not_t hb)
      rw [e] at k
      exact k H2 (e1.trans e2)
    · refine s_ret (ev_all (bs := cs.map okC) (el_is (el_lcA cs V.int (fun _ => true) (fun c => .bl (okC c)) (ev_var rfl) (ex_l e1 hS) (by omega) (fun _ => rfl) (fun x _ H2 _ => et_yes) (fun x _ _ H2 _ => ev_chainI ev_c (ev_var rfl) ev_c)) ?_)) fun H2 e2 => ?_
      · rw [filter_tt, List.map_map]
        rfl
      · have e : isHouse cs = (cs.map okC).all id := by
          unfold isHouse
          rw [List.length_map] at hb
          have q : (decide (1 ≤ (cs.length : Int)) && decide ((cs.length : Int) ≤ 6)) = true := not_f hb
          rw [q, List.all_map]
          rfl
        rw [e] at k
        exact k H2 (e1.trans e2)
theorem cal_room_count (D : Dn K mg "room_count" s_room_count ["counts"]) (T : Tp mg) : Cal P w K mg base "room_count" 1 ["counts"] (sp_room_count K) := by
  refine cal_of D sc_room_count (fun vs H Q E h => ?_) (fun f cdv A outer s H vs Q E hr h => ?_)
  · obtain ⟨a, cs, rfl, _⟩ := h
    rfl
  · obtain ⟨a, cs, rfl, hS, k⟩ := h
    refine ⟨_, (pss_one (ps_ret (pe_callB (r := rSum K) (cr_sum rfl) (by rfl) T.z_sum (by decide +kernel) (pa_cons (pv 0) pa_nil)))), ?_⟩
    exact s_ret (ev_sum (ev_var rfl) hS) k
theorem cal_first_room (D : Dn K mg "first_room" s_first_room ["counts", "kind"]) (T : Tp mg) : Cal P w K mg base "first_room" 1 ["counts", "kind"] (sp_first_room K) := by
  refine cal_of D sc_first_room (fun vs H Q E h => ?_) (fun f cdv A outer s H vs Q E hr h => ?_)
  · obtain ⟨a, cs, n, rfl, _⟩ := h
    rfl
  · obtain ⟨a, cs, n, rfl, hS, k⟩ := h
    refine ⟨_, (pss_one (ps_ret (pe_callB (r := rSum K) (cr_sum rfl) (by rfl) T.z_sum (by decide +kernel) (pa_cons (pe_slice (r := rSlL K) sl_list (pv 0) po_none (po_some (pe_callB (call_max2 rfl) (by rfl) T.z_max (by decide +kernel) (pa_cons pe_int (pa_cons (pv 1) pa_nil))))) pa_nil)))), ?_⟩
    have hm : (if (n : Int) > 0 then (n : Int) else 0) = (n : Int) := by split <;> omega
    refine s_ret (ev_sumN (el_is (el_sl (ev_var rfl) eo_none (eo_some (ev_of (ev_max2 ev_c (ev_var rfl)) (congrArg V.int hm))) hS) ?_)) k
    rw [cutV_take, List.map_take]
theorem cal_kind_of (D : Dn K mg "kind_of" s_kind_of ["counts", "room"]) (T : Tp mg) : Cal P w K mg base "kind_of" 1 ["counts", "room"] (sp_kind_of K) := by
  refine cal_of D sc_kind_of (fun vs H Q E h => ?_) (fun f cdv A outer s H vs Q E hr h => ?_)
  · obtain ⟨a, cs, n, rfl, _⟩ := h
    rfl
  · obtain ⟨a, cs, r, rfl, hS, k⟩ := h
    refine ⟨_, (pss_cons (ps_set (i := 2) sc_kind_of.nd rfl (.inl rfl) pe_int) (pss_cons (ps_for PassesOwn.never rfl (pi_enum (by rfl) T.z_enumerate (pa_cons (pv 0) pa_nil)) (pg_tup rfl (pgs_cons (pg_name (i := 3) sc_kind_of.nd rfl (.inl rfl)) (pgs_cons (pg_name (i := 4) sc_kind_of.nd rfl (.inl rfl)) pgs_nil))) (pss_cons (ps_aug (i := 2) sc_kind_of.nd rfl (.inl rfl) (pv 4) ip_add) (pss_one (ps_if (pt_cmpR op_lt (pv 1) (pv 2) (nomark _)) (pss_one (ps_ret (pv 3))) pss_nil)))) (pss_one (ps_ret pe_non)))), ?_⟩
    refine q_asg ev_c fun H1 e1 => ?_
    refine q_forE cs V.int (ev_var rfl) (ex_l e1 hS) (fun i σ' H' => ∃ y3 y4, σ' = [some (.ref a), some (.int r), some (.int (cs.take i).sum), y3, y4] ∧ Ex H H' ∧ kindGo r 0 0 cs = kindGo r (cs.take i).sum i (cs.drop i))
      (fun H2 e2 => ⟨none, none, rfl, e1.trans e2, rfl⟩) (fun i σ' H' _ ⟨_, _, _, e, _⟩ => ex_l e hS) ?_ ?_
    · rintro i b σ' H' hb ⟨y3, y4, rfl, e, hk⟩ H2 e2
      have hlt : i < cs.length := (List.getElem?_eq_some_iff.mp hb).1
      have hbi : cs[i] = b := (List.getElem?_eq_some_iff.mp hb).2
      have hs : (cs.take (i + 1)).sum = (cs.take i).sum + b := sum_take hb
      rw [List.drop_eq_getElem_cons hlt, hbi] at hk
      have hk : kindGo r 0 0 cs = if r < (cs.take i).sum + b then some i else kindGo r ((cs.take i).sum + b) (i + 1) (cs.drop (i + 1)) := hk
      refine q_aug rfl (ev_var rfl) fun H3 e3 => ?_
      refine s_when (et_test (ev_cmp (ev_var rfl) (ev_var rfl))) (fun hc H4 e4 => ?_) (fun hc H4 e4 => ?_)
      · refine s_ret (ev_var rfl) fun H5 e5 => ?_
        rw [if_pos (of_decide_eq_true hc)] at hk
        rw [hk] at k
        exact k H5 ((((e.trans e2).trans e3).trans e4).trans e5)
      · rw [if_neg (of_decide_eq_false hc), ← hs] at hk
        exact ⟨_, _, by rw [hs]; rfl, ((e.trans e2).trans e3).trans e4, hk⟩
    · rintro σ' H' ⟨y3, y4, rfl, e, hk⟩
      rw [List.drop_length] at hk
      have hk : kindGo r 0 0 cs = none := hk
      rw [hk] at k
      exact s_ret ev_c fun H5 e5 => k H5 (e.trans e5)
theorem cal_rooms_of (D : Dn K mg "rooms_of" s_rooms_of ["counts", "kind"]) (T : Tp mg) (C_first_room : Cal P w K mg base "first_room" 1 ["counts", "kind"] (sp_first_room K)) : Cal P w K mg base "rooms_of" 2 ["counts", "kind"] (sp_rooms_of K) := by
  refine cal_of D sc_rooms_of (fun vs H Q E h => ?_) (fun f cdv A outer s H vs Q E hr h => ?_)
  · obtain ⟨a, cs, n, rfl, _⟩ := h
    rfl
  · obtain ⟨a, cs, n, rfl, hS, hh, k⟩ := h
    refine ⟨_, (pss_cons (ps_if (pt_not (pt_chain op_le op_lt pe_int (pv 1) (pe_callB (r := rLenS K) call_len_seq (by rfl) T.z_len (by decide +kernel) (pa_cons (pv 0) pa_nil)))) (pss_one (ps_ret (pe_lst pa_nil))) pss_nil) (pss_cons (ps_set (i := 2) sc_rooms_of.nd rfl (.inl rfl) (pe_cal C_first_room (hr.mono (by decide)) (by rfl) (pa_cons (pv 0) (pa_cons (pv 1) pa_nil)))) (pss_one (ps_ret (pe_listRg rfl (by rfl) T.z_list (prg_2 (by rfl) T.z_range (pv 2) (pe_op op_add (pv 2) (pe_ix (r := rIxL K) ix_list (pv 0) (pv 1) (fun _ _ => rfl))))))))), ?_⟩
    refine q_when (et_not (et_test (ev_chainI ev_c (ev_var rfl) (ev_len' (ev_var rfl) hS)))) (fun hb H1 e1 => ?_) (fun hb H1 e1 => ?_)
    · refine s_retL el_nil fun p H2 hp e2 h2 => ?_
      rw [List.length_map] at hb
      have hb : ¬ (0 ≤ n ∧ n < cs.length) := by
        intro ⟨z1, z2⟩
        rw [decide_eq_true z1, decide_eq_true z2] at hb
        exact absurd hb (by decide)
      have er : roomsOf cs n = [] := if_neg hb
      rw [er] at k
      exact k.go e1 hp e2 h2
    · rw [List.length_map] at hb
      have hb : 0 ≤ n ∧ n < cs.length := by simpa using not_f hb
      obtain ⟨j, rfl⟩ : ∃ j : Nat, n = (j : Int) := ⟨n.toNat, by omega⟩
      have hj : j < cs.length := by omega
      refine q_asg (ev_call0 (ea_2 (ev_var rfl) (ev_var rfl)) (v_first_room (ex_l e1 hS) j)) fun H2 e2 => ?_
      have hi : atI (cs.map V.int) (j : Int) = some (.int cs[j]) := atI_nat (by rw [List.getElem?_map, List.getElem?_eq_getElem hj]; rfl)
      have hcj := hh.ok cs[j] (List.getElem_mem hj)
      have h1 := take_sum_le cs j hh.nn
      have h2 := sum_le9 cs fun c hc => (hh.ok c hc).2
      have h3 := hh.le
      refine s_retL (el_is (ys := (roomsOf cs (j : Int)).map V.int) (el_rg (ev_var rfl) (ev_add (ev_var rfl) (ev_ixL (ev_var rfl) (ev_var rfl) (ex_l (e1.trans e2) hS) hi)) (.of_le (by omega) (by omega) (by omega) (by omega))) ?_) fun p H3 hp e3 h3 => ?_
      · unfold rgV roomsOf
        rw [if_pos hb, List.map_map, Int.toNat_natCast, List.getD_eq_getElem?_getD, List.getElem?_eq_getElem hj]
        show List.map _ (List.range ((cs.take j).sum + cs[j] - (cs.take j).sum).toNat) = List.map _ (List.range cs[j].toNat)
        rw [show (cs.take j).sum + cs[j] - (cs.take j).sum = cs[j] by omega]
        rfl
      · exact k.go (e1.trans e2) hp e3 h3
end

/-! ### the law's helpers: cells, whole numbers -/
def cellM (ns : List Int) (k : Int) : Int := if ns = [] then k * 7919 else (k * 7919 + k / (ns.length : Int) * 104729 + ns.getD (k % (ns.length : Int)).toNat 0 * 48271) % 1000003
def cell (ns : List Int) (k : Int) : Int := (cellM ns k * cellM ns k / 11 + 13 * cellM ns k) % 1000003
theorem cell_bd (ns : List Int) (k : Int) : 0 ≤ cell ns k ∧ cell ns k < 1000003 := ⟨Int.emod_nonneg _ (by decide), Int.emod_lt_of_pos _ (by decide)⟩
def sp_cell (K : PySem.W.Frag) : Sp := fun vs H Q _ => ∃ (a : Addr) (ns : List Int) (k : Int), vs = [.ref a, .int k] ∧ SqL K H a (ns.map V.int) ∧ ns.length ≤ 63 ∧ 0 ≤ k ∧ k < 10000 ∧ RetV (.int (cell ns k)) H Q
def sp_whole (K : PySem.W.Frag) : Sp := fun vs H Q _ => ∃ (x : V), vs = [x] ∧ (((∃ n, x = .int n) ∧ RetV (.bl true) H Q) ∨ (x = .non ∧ RetV (.bl false) H Q))
def sp_wholes (K : PySem.W.Frag) : Sp := fun vs H Q _ => ∃ (a : Addr) (ns : List Int), vs = [.ref a] ∧ H a = some (.lst (ns.map V.int)) ∧ ns.length ≤ 1000 ∧ RetV (.bl true) H Q
section
variable {K : PySem.W.Frag} {H : Hp} {a : Addr} {ns : List Int}
theorem v_cell (h : SqL K H a (ns.map V.int)) (hl : ns.length ≤ 63) {k : Int} (h0 : 0 ≤ k) (h1 : k < 10000) : SpV (sp_cell K) [.ref a, .int k] H (.int (cell ns k)) := fun _ e _ q _ => ⟨a, ns, k, rfl, ex_l e h, hl, h0, h1, q⟩
theorem v_whole {n : Int} : SpV (sp_whole K) [.int n] H (.bl true) := fun _ e _ q _ => ⟨_, rfl, .inl ⟨⟨n, rfl⟩, q⟩⟩
theorem v_wholes (h : H a = some (.lst (ns.map V.int))) (hl : ns.length ≤ 1000) : SpV (sp_wholes K) [.ref a] H (.bl true) := fun _ e _ q _ => ⟨a, ns, rfl, e _ _ h, hl, q⟩
end
section
variable {K : PySem.W.Frag} {σ : L2.St} {H : Hp} {a : Addr} {ns : List Int} {tk : TE}
theorem ev_cell {k : Int} {i : Nat} (hS : SqL K H a (ns.map V.int)) (hl : ns.length ≤ 63) (hv : σ[i]? = some (some (.ref a))) (hk : Ev tk σ H (.int k)) (h0 : 0 ≤ k) (h1 : k < 10000) :
    Ev (tCall (sp_cell K) [] E0 (tCons (tVar i) (tCons tk tNil))) σ H (.int (cell ns k)) := ev_call0 (ea_2 (ev_var hv) hk) (v_cell hS hl h0 h1)
theorem mod_bd (z : Int) {m : Int} (h : 0 < m) : 0 ≤ z % m ∧ z % m < m := ⟨Int.emod_nonneg _ (Int.ne_of_gt h), Int.emod_lt_of_pos _ h⟩
theorem atI_in {xs : List V} {z : Int} (h0 : 0 ≤ z) (h1 : z < (xs.length : Int)) : ∃ v, v ∈ xs ∧ atI xs z = some v := by
  have hlt : z.toNat < xs.length := by omega
  refine ⟨xs[z.toNat], List.getElem_mem hlt, ?_⟩
  have e : z = ((z.toNat : Nat) : Int) := by omega
  conv => lhs; rw [e]
  exact atI_nat (List.getElem?_eq_getElem hlt)
theorem atI_ints {ns : List Int} {z : Int} (h0 : 0 ≤ z) (h1 : z < (ns.length : Int)) : ∃ n, n ∈ ns ∧ atI (ns.map V.int) z = some (.int n) := by
  obtain ⟨v, hv, e⟩ := atI_in (xs := ns.map V.int) h0 (by rw [List.length_map]; exact h1)
  obtain ⟨n, hn, rfl⟩ := List.mem_map.mp hv
  exact ⟨n, hn, e⟩
end
section
variable {P : Program} {w : World} {K : PySem.W.Frag} {mg : Str → Option Value} {base : Heap}
theorem cal_cell (D : Dn K mg "_law_cell" s_law_cell ["_law_script", "_law_k"]) (T : Tp mg) : Cal P w K mg base "_law_cell" 1 ["_law_script", "_law_k"] (sp_cell K) := by
  refine cal_of D sc_law_cell (fun vs H Q E h => ?_) (fun f cdv A outer s H vs Q E hr h => ?_)
  · obtain ⟨a, ns, n, rfl, _⟩ := h
    rfl
  · obtain ⟨a, ns, n, rfl, hS, hl, h0, h1, k⟩ := h
    refine ⟨_, (pss_cons (ps_set (i := 2) sc_law_cell.nd rfl (.inl rfl) (pe_op op_mul (pv 1) pe_int)) (pss_cons (ps_if (pt_cmpR (r := rNeD K) (op_neD hr.units) (pv 0) (pe_lst pa_nil) (nomark _)) (pss_cons (ps_set (i := 2) sc_law_cell.nd rfl (.inl rfl) (pe_op op_add (pv 2) (pe_op op_mul (pe_op op_fdiv (pv 1) (pe_callB (r := rLenS K) call_len_seq (by rfl) T.z_len (by decide +kernel) (pa_cons (pv 0) pa_nil))) pe_int))) (pss_one (ps_set (i := 2) sc_law_cell.nd rfl (.inl rfl) (pe_op op_mod (pe_op op_add (pv 2) (pe_op op_mul (pe_ix (r := rIxL K) ix_list (pv 0) (pe_op op_mod (pv 1) (pe_callB (r := rLenS K) call_len_seq (by rfl) T.z_len (by decide +kernel) (pa_cons (pv 0) pa_nil))) (fun _ _ => rfl)) pe_int)) pe_int)))) pss_nil) (pss_one (ps_ret (pe_op op_mod (pe_op op_add (pe_op op_fdiv (pe_op op_mul (pv 2) (pv 2)) pe_int) (pe_op op_mul pe_int (pv 2))) pe_int))))), ?_⟩
    refine q_asg (ev_mulR (ev_var rfl) ev_c ⟨by decide, by decide⟩) fun H1 e1 => ?_
    refine q_when (et_test (ev_neIN (ms := []) (ev_var rfl) el_nil (ex_l e1 hS))) (fun hb H2 e2 => ?_) (fun hb H2 e2 => ?_)
    · have hne : ns ≠ [] := of_decide_eq_false (not_t hb)
      have hp : 0 < (ns.length : Int) := by
        have := List.length_pos_iff.mpr hne
        omega
      have hm0 := Int.emod_nonneg n (Int.ne_of_gt hp)
      have hm1 := Int.emod_lt_of_pos n hp
      have hi : atI (ns.map V.int) (n % (ns.length : Int)) = some (.int (ns.getD (n % (ns.length : Int)).toNat 0)) := by
        have e : n % (ns.length : Int) = (((n % (ns.length : Int)).toNat : Nat) : Int) := by omega
        rw [e]
        refine atI_nat ?_
        have hlt : (n % (ns.length : Int)).toNat < ns.length := by omega
        rw [List.getElem?_map, Int.toNat_natCast, List.getD_eq_getElem?_getD, List.getElem?_eq_getElem hlt]
        rfl
      have hS2 := ex_l (e1.trans e2) hS
      have lenE : ∀ {σ : L2.St} {H' : Hp}, Ex H2 H' → σ[0]? = some (some (.ref a)) → Ev (tCB (rLenS K) (tCons (tVar 0) tNil)) σ H' (.int (ns.length : Int)) := fun e hv => ev_of (ev_len' (ev_var hv) (ex_l e hS2)) (by rw [List.length_map])
      refine q_asg (ev_add (ev_var rfl) (ev_mulR (ev_fdiv (ev_var rfl) (lenE (Ex.refl _) rfl) ⟨hp, by omega⟩) ev_c ⟨by decide, by decide⟩)) fun H3 e3 => ?_
      refine s_asg (ev_mod (ev_add (ev_var rfl) (ev_mulR (ev_ixL (ev_var rfl) (ev_mod (ev_var rfl) (lenE e3 rfl) hp) (ex_l e3 hS2) hi) ev_c ⟨by decide, by decide⟩)) ev_c (by decide)) fun H4 e4 => ?_
      have b0 : ∀ z : Int, 0 ≤ z % 1000003 ∧ z % 1000003 < 1000003 := fun z => ⟨Int.emod_nonneg _ (by decide), Int.emod_lt_of_pos _ (by decide)⟩
      have b1 := b0 (n * 7919 + n / (ns.length : Int) * 104729 + ns.getD (n % (ns.length : Int)).toNat 0 * 48271)
      refine s_ret (ev_mod (ev_add (ev_fdiv (ev_mulL (ev_var rfl) (ev_var rfl) ⟨by omega, by omega⟩) ev_c ⟨by decide, by decide⟩) (ev_mulL ev_c (ev_var rfl) ⟨by decide, by decide⟩)) ev_c (by decide)) fun H5 e5 => ?_
      unfold cell cellM at k
      rw [if_neg hne] at k
      exact k H5 ((((e1.trans e2).trans e3).trans e4).trans e5)
    · have hne : ns = [] := of_decide_eq_true (not_f hb)
      refine s_ret (ev_mod (ev_add (ev_fdiv (ev_mulL (ev_var rfl) (ev_var rfl) ⟨by omega, by omega⟩) ev_c ⟨by decide, by decide⟩) (ev_mulL ev_c (ev_var rfl) ⟨by decide, by decide⟩)) ev_c (by decide)) fun H5 e5 => ?_
      unfold cell cellM at k
      rw [if_pos hne] at k
      exact k H5 ((e1.trans e2).trans e5)
theorem cal_whole (D : Dn K mg "_law_whole" s_law_whole ["_law_found"]) (T : Tp mg) : Cal P w K mg base "_law_whole" 1 ["_law_found"] (sp_whole K) := by
  refine cal_of D sc_law_whole (fun vs H Q E h => ?_) (fun f cdv A outer s H vs Q E hr h => ?_)
  · obtain ⟨x, rfl, _⟩ := h
    rfl
  · obtain ⟨x, rfl, h⟩ := h
    refine ⟨_, (pss_one (ps_ret (pe_and (pe_callB (r := rIsi K) call_isi (by rfl) T.z_isinstance (by decide +kernel) (pa_cons (pv 0) (pa_cons (pe_bltn (v := .ty "int") (by rfl) T.z_int (by decide +kernel) rfl) pa_nil))) (pe_one (pe_not (pe_callB (r := rIsi K) call_isi (by rfl) T.z_isinstance (by decide +kernel) (pa_cons (pv 0) (pa_cons (pe_bltn (v := .ty "bool") (by rfl) T.z_bool (by decide +kernel) rfl) pa_nil)))))))), ?_⟩
    rcases h with ⟨⟨n, rfl⟩, k⟩ | ⟨rfl, k⟩
    · exact s_ret (ev_andV (a := true) (b := true) (ev_isi (a := "int") (ev_var rfl) (fun _ _ => .base (.int n)) (by decide +kernel)) fun _ => ev_notV (a := false) (ev_isi (a := "int") (ev_var rfl) (fun _ _ => .base (.int n)) (by decide +kernel))) k
    · exact s_ret (ev_andV (a := false) (b := true) (ev_isi (a := "NoneType") (ev_var rfl) (fun _ _ => .base .non) (by decide +kernel)) fun z => nomatch z) k
theorem cal_wholes (D : Dn K mg "_law_wholes" s_law_wholes ["_law_found"]) (T : Tp mg) (C_law_whole : Cal P w K mg base "_law_whole" 1 ["_law_found"] (sp_whole K)) : Cal P w K mg base "_law_wholes" 2 ["_law_found"] (sp_wholes K) := by
  refine cal_of D sc_law_wholes (fun vs H Q E h => ?_) (fun f cdv A outer s H vs Q E hr h => ?_)
  · obtain ⟨a, ns, rfl, _⟩ := h
    rfl
  · obtain ⟨a, ns, rfl, hH, hl, k⟩ := h
    refine ⟨_, (pss_one (ps_ret (pe_and (pe_callB (r := rIsi K) call_isi (by rfl) T.z_isinstance (by decide +kernel) (pa_cons (pv 0) (pa_cons (pe_bltn (v := .ty "list") (by rfl) T.z_list (by decide +kernel) rfl) pa_nil))) (pe_one (pe_callB (r := rAll K) (cr_all rfl) (by rfl) T.z_all (by decide +kernel) (pa_cons (pe_lc (own := [("_law_one", 1)]) (g := gName 1) (by rfl) sc_law_wholes.nd (pi_list (pv 0)) (blkOk_by (own := [("_law_one", 1)]) (N := ["_law_found", "_law_one"]) (sc := defScope s_law_wholes) (by decide +kernel)) (fun _ _ _ _ _ => pg_name (i := 1) sc_law_wholes.nd rfl (Or.inl rfl)) (fun _ _ _ _ _ => pts_nil) (fun _ _ _ _ _ => (pe_cal C_law_whole (hr.mono (by decide)) (by rfl) (pa_cons (pv 1) pa_nil)))) pa_nil)))))), ?_⟩
    refine s_ret (ev_andV (a := true) (b := true) (ev_isi (a := "list") (ev_var rfl) (fun _ e => .base (.lst (e _ _ hH))) (by decide +kernel)) fun _ => ?_) k
    refine ev_of (ev_all (bs := ns.map fun _ => true) (el_is (el_lcA ns V.int (fun _ => true) (fun _ => .bl true) (ev_var rfl) (sq_of hH) (by omega) (fun _ => rfl) (fun x _ H2 _ => et_yes) (fun x _ _ H2 _ => ev_call0 (ea_1 (ev_var rfl)) v_whole)) ?_)) ?_
    · rw [filter_tt, List.map_map]
      rfl
    · rw [List.all_map]
      exact congrArg V.bl (List.all_eq_true.mpr fun _ _ => rfl)
end

/-! ### the law's counts -/
def sp_counts_by (K : PySem.W.Frag) : Sp := fun vs H Q _ => ∃ (a : Addr) (ns : List Int), vs = [.ref a] ∧ SqL K H a (ns.map V.int) ∧ ns.length ≤ 63 ∧ ∀ p H' (cs : List Int), cs.length ≤ 1000 → H p = none → Ex H H' → H' p = some (.lst (cs.map V.int)) → Q (.ref p) H'
theorem rep_ints (ns : List Int) : ∀ n : Nat, (List.replicate n (ns.map V.int)).flatten = ((List.replicate n ns).flatten).map V.int
  | 0 => rfl
  | n + 1 => by
    rw [List.replicate_succ, List.replicate_succ, List.flatten_cons, List.flatten_cons, List.map_append, rep_ints ns n]
theorem rep_len (ns : List Int) : ∀ n : Nat, ((List.replicate n ns).flatten).length = n * ns.length
  | 0 => by simp
  | n + 1 => by
    rw [List.replicate_succ, List.flatten_cons, List.length_append, rep_len ns n, Nat.succ_mul]
    omega
section
variable {P : Program} {w : World} {K : PySem.W.Frag} {mg : Str → Option Value} {base : Heap}
theorem cal_counts_by (D : Dn K mg "_law_counts_by" s_law_counts_by ["_law_script"]) (T : Tp mg) (C_law_cell : Cal P w K mg base "_law_cell" 1 ["_law_script", "_law_k"] (sp_cell K)) : Cal P w K mg base "_law_counts_by" 2 ["_law_script"] (sp_counts_by K) := by
  refine cal_of D sc_law_counts_by (fun vs H Q E h => ?_) (fun f cdv A outer s H vs Q E hr h => ?_)
  · obtain ⟨a, ns, rfl, _⟩ := h
    rfl
  · obtain ⟨a, ns, rfl, hS, hl, k⟩ := h
    refine ⟨_, (pss_cons (ps_if (pt_cmpR op_eq (pe_op op_mod (pe_cal C_law_cell (hr.mono (by decide)) (by rfl) (pa_cons (pv 0) (pa_cons pe_int pa_nil))) pe_int) pe_int (nomark _)) (pss_cons (ps_setLc (i := 1) (own := [("_law_k", 4)]) (g := gName 4) (by rfl) sc_law_counts_by.nd rfl rfl (sw_true rfl rfl rfl (by decide +kernel)) (pi_range1 (by rfl) T.z_range (pa_cons (pe_op op_mod (pe_cal C_law_cell (hr.mono (by decide)) (by rfl) (pa_cons (pv 0) (pa_cons pe_int pa_nil))) pe_int) pa_nil)) (blkOk_by (own := [("_law_k", 4)]) (N := ["_law_script", "_law_counts", "_law_far", "_law_most", "_law_k", "_law_one"]) (sc := defScope s_law_counts_by) (by decide +kernel)) (fun _ _ _ _ _ => pg_name (i := 4) sc_law_counts_by.nd rfl (Or.inl rfl)) (fun _ _ _ _ _ => pts_nil) (fun _ _ _ _ _ => (pe_op op_sub (pe_op op_mod (pe_cal C_law_cell (hr.mono (by decide)) (by rfl) (pa_cons (pv 0) (pa_cons (pe_op op_add pe_int (pv 4)) pa_nil))) pe_int) pe_int))) (pss_cut (ps_if (pt_cmpR op_eq (pe_op op_mod (pe_cal C_law_cell (hr.mono (by decide)) (by rfl) (pa_cons (pv 0) (pa_cons pe_int pa_nil))) pe_int) pe_int (nomark _)) (pss_cons (ps_set (i := 1) sc_law_counts_by.nd rfl (.inl rfl) (pe_op op_rep (pe_lc (own := [("_law_one", 5)]) (g := gName 5) (by rfl) sc_law_counts_by.nd (pi_list (pe_op op_cat (pv 1) (pe_lst (pa_cons pe_int pa_nil)))) (blkOk_by (own := [("_law_one", 5)]) (N := ["_law_script", "_law_counts", "_law_far", "_law_most", "_law_k", "_law_one"]) (sc := defScope s_law_counts_by) (by decide +kernel)) (fun _ _ _ _ _ => pg_name (i := 5) sc_law_counts_by.nd rfl (Or.inl rfl)) (fun _ _ _ _ _ => pts_nil) (fun _ _ _ _ _ => (pe_op op_mod (pe_callB call_abs (by rfl) T.z_abs (by decide +kernel) (pa_cons (pv 5) pa_nil)) pe_int))) (pe_op op_add pe_int (pe_op op_mod (pe_op op_fdiv (pe_cal C_law_cell (hr.mono (by decide)) (by rfl) (pa_cons (pv 0) (pa_cons pe_int pa_nil))) pe_int) pe_int)))) (pss_one (ps_set (i := 1) sc_law_counts_by.nd rfl (.inl rfl) (pe_slice (r := rSlL K) sl_list (pv 1) po_none (po_some (pe_ix (r := rIxL K) ix_list (pe_lst (pa_cons pe_int (pa_cons pe_int (pa_cons pe_int (pa_cons pe_int pa_nil))))) (pe_op op_mod (pe_cal C_law_cell (hr.mono (by decide)) (by rfl) (pa_cons (pv 0) (pa_cons pe_int pa_nil))) pe_int) (fun _ _ => rfl))))))) pss_nil) (pss_cut (ps_if (PW.pt (pw_and (pt_cmpR op_eq (pe_op op_mod (pe_cal C_law_cell (hr.mono (by decide)) (by rfl) (pa_cons (pv 0) (pa_cons pe_int pa_nil))) pe_int) pe_int (nomark _)) (pw_and1 (pt_cmpR (r := rNeD K) (op_neD hr.units) (pv 1) (pe_lst pa_nil) (nomark _))))) (pss_cons (ps_set (i := 2) sc_law_counts_by.nd rfl (.inl rfl) (pe_ix (r := rIxL K) ix_list (pe_lst (pa_cons (pe_op op_pow pe_int pe_int) (pa_cons (pe_un un_neg pe_int) (pa_cons (pe_un un_neg (pe_op op_pow pe_int pe_int)) (pa_cons pe_int pa_nil))))) (pe_op op_mod (pe_op op_fdiv (pe_cal C_law_cell (hr.mono (by decide)) (by rfl) (pa_cons (pv 0) (pa_cons pe_int pa_nil))) pe_int) pe_int) (fun _ _ => rfl))) (pss_one (ps_asg (pv 2) (pg_sub (pv 1) (pe_op op_mod (pe_op op_fdiv (pe_cal C_law_cell (hr.mono (by decide)) (by rfl) (pa_cons (pv 0) (pa_cons pe_int pa_nil))) pe_int) (pe_callB (r := rLenS K) call_len_seq (by rfl) T.z_len (by decide +kernel) (pa_cons (pv 1) pa_nil))) set_list)))) pss_nil) (pss_one (ps_ret (pv 1)))))) pss_nil) (pss_cons (ps_set (i := 3) sc_law_counts_by.nd rfl (.inr rfl) (pe_ix (r := rIxL K) ix_list (pe_lst (pa_cons pe_int (pa_cons pe_int (pa_cons pe_int pa_nil)))) (pe_op op_mod (pe_op op_fdiv (pe_cal C_law_cell (hr.mono (by decide)) (by rfl) (pa_cons (pv 0) (pa_cons pe_int pa_nil))) pe_int) pe_int) (fun _ _ => rfl))) (pss_one (ps_ret (pe_lc (own := [("_law_k", 4)]) (g := gName 4) (by rfl) sc_law_counts_by.nd (pi_range1 (by rfl) T.z_range (pa_cons (pe_op op_add pe_int (pe_op op_mod (pe_cal C_law_cell (hr.mono (by decide)) (by rfl) (pa_cons (pv 0) (pa_cons pe_int pa_nil))) pe_int)) pa_nil)) (blkOk_by (own := [("_law_k", 4)]) (N := ["_law_script", "_law_counts", "_law_far", "_law_most", "_law_k", "_law_one"]) (sc := defScope s_law_counts_by) (by decide +kernel)) (fun _ _ _ _ _ => pg_name (i := 4) sc_law_counts_by.nd rfl (Or.inl rfl)) (fun _ _ _ _ _ => pts_nil) (fun _ _ _ _ _ => (pe_op op_mod (pe_cal C_law_cell (hr.mono (by decide)) (by rfl) (pa_cons (pv 0) (pa_cons (pe_op op_add pe_int (pv 4)) pa_nil))) (pv 3)))))))), ?_⟩
    refine q_when (et_test (ev_eqI (ev_mod (ev_cell hS hl rfl ev_c (by decide) (by decide)) ev_c (by decide)) ev_c)) (fun hb H1 e1 => ?_) (fun hb H1 e1 => ?_)
    · have m9 := mod_bd (cell ns 1) (m := 9) (by decide)
      refine q_asgL (el_is (ys := ((List.range (cell ns 1 % 9).toNat).map fun i : Nat => cell ns (2 + (i : Int)) % 14 - 2).map V.int) (el_lcR (n := cell ns 1 % 9) (fun _ => true) (fun i => .int (cell ns (2 + (i : Int)) % 14 - 2)) (ea_1 (ev_mod (ev_cell (ex_l e1 hS) hl rfl ev_c (by decide) (by decide)) ev_c (by decide))) ⟨m9.1, by omega⟩ (fun _ => rfl) (fun i _ _ _ => et_yes)
        (fun i hi _ H2 e2 => ev_sub (ev_mod (ev_cell (ex_l (e1.trans e2) hS) hl rfl (ev_add ev_c (ev_var rfl)) (by omega) (by omega)) ev_c (by decide)) ev_c)) ?_) fun p H2 hp e2 h2 => ?_
      · rw [filter_tt, List.map_map]
        rfl
      generalize hcs : ((List.range (cell ns 1 % 9).toNat).map fun i : Nat => cell ns (2 + (i : Int)) % 14 - 2) = cs at h2
      have hlen : cs.length ≤ 8 := by
        rw [← hcs, List.length_map, List.length_range]
        omega
      clear hcs
      have hp0 := fresh_back e1 hp
      have e02 := e1.trans e2
      refine q_cut (M := fun σ' H' => ∃ (p : Addr) (cs : List Int) (y4 y5 : Option V), σ' = [some (.ref a), some (.ref p), none, none, y4, y5] ∧ Ex H H' ∧ H p = none ∧ H' p = some (.lst (cs.map V.int)) ∧ cs.length ≤ 180) ?_ ?_
      · refine s_when (et_test (ev_eqI (ev_mod (ev_cell (ex_l e02 hS) hl rfl ev_c (by decide) (by decide)) ev_c (by decide)) ev_c)) (fun hb H3 e3 => ?_) (fun hb H3 e3 => ?_)
        · have e03 := e02.trans e3
          have h3 := e3 _ _ h2
          have m20 := mod_bd (cell ns 1 / 27) (m := 20) (by decide)
          refine q_asgL (el_is (ys := ((List.replicate (1 + cell ns 1 / 27 % 20).toNat ((cs ++ [2]).map fun z => (if z < 0 then -z else z) % 10)).flatten).map V.int) (el_repN (n := 1 + cell ns 1 / 27 % 20) (el_is (ys := ((cs ++ [2]).map fun z => (if z < 0 then -z else z) % 10).map V.int) (el_lcNA (cs ++ [2]) V.int (fun _ => true) (fun z => .int ((if z < 0 then -z else z) % 10))
            (el_is (el_catN (ys := [.int 2]) (ev_var rfl) (el_lst (ea_1 ev_c) (by decide)) h3 (sz_of (by rw [List.length_map, List.length_singleton]; omega))) (by rw [List.map_append]; rfl)) (by rw [List.length_append, List.length_singleton]; omega) (fun _ => rfl) (fun x _ _ _ => et_yes) (fun x _ _ H4 e4 => ev_mod (ev_abs (ev_var rfl)) ev_c (by decide))) ?_)
            (ev_add ev_c (ev_mod (ev_fdiv (ev_cell (ex_l e03 hS) hl rfl ev_c (by decide) (by decide)) ev_c ⟨by decide, by decide⟩) ev_c (by decide))) ⟨by omega, by omega⟩ (sz_of ?_)) ?_) fun q H4 hq e4 h4 => ?_
          · rw [filter_tt, List.map_map]
            rfl
          · rw [List.length_map, List.length_map, List.length_append, List.length_singleton]
            have : (cs.length + 1) * (1 + cell ns 1 / 27 % 20).toNat ≤ 9 * 20 := Nat.mul_le_mul (by omega) (by omega)
            omega
          · exact rep_ints _ _
          · have hln : ((List.replicate (1 + cell ns 1 / 27 % 20).toNat ((cs ++ [2]).map fun z => (if z < 0 then -z else z) % 10)).flatten).length ≤ 180 := by
              rw [rep_len, List.length_map, List.length_append, List.length_singleton]
              have : (1 + cell ns 1 / 27 % 20).toNat * (cs.length + 1) ≤ 20 * 9 := Nat.mul_le_mul (by omega) (by omega)
              omega
            generalize ((List.replicate (1 + cell ns 1 / 27 % 20).toNat ((cs ++ [2]).map fun z => (if z < 0 then -z else z) % 10)).flatten) = ds at h4 hln
            have e04 := e03.trans e4
            have m4 := mod_bd (cell ns 9) (m := 4) (by decide)
            obtain ⟨z, hz, ez⟩ := atI_ints (ns := [200, 7, 7, 6]) (z := cell ns 9 % 4) m4.1 m4.2
            have hz0 : 0 ≤ z := by
              simp only [List.mem_cons, List.not_mem_nil, or_false] at hz
              omega
            obtain ⟨zn, rfl⟩ : ∃ zn : Nat, z = (zn : Int) := ⟨z.toNat, by omega⟩
            refine s_asgL (el_is (ys := (ds.take zn).map V.int) (el_sl (ev_var rfl) eo_none (eo_some (ev_ixN (el_lst (ea_cons ev_c (ea_3 ev_c ev_c ev_c)) (by decide)) (ev_mod (ev_cell (ex_l e04 hS) hl rfl ev_c (by decide) (by decide)) ev_c (by decide)) ez)) (sq_of h4)) ?_) fun q2 H5 hq2 e5 h5 => ?_
            · rw [cutV_take, List.map_take]
            · refine ⟨q2, ds.take zn, _, _, rfl, e04.trans e5, fresh_back e04 hq2, h5, ?_⟩
              rw [List.length_take]
              omega
        · exact ⟨p, cs, _, _, rfl, e02.trans e3, hp0, e3 _ _ h2, by omega⟩
      · clear h2 hlen hp0 hp e02
        rintro σ' H3 ⟨p, cs, y4, y5, rfl, e03, hp0, h3, hlen⟩
        refine q_cut (M := fun σ' H' => ∃ (p : Addr) (cs : List Int) (y2 y4 y5 : Option V), σ' = [some (.ref a), some (.ref p), y2, none, y4, y5] ∧ Ex H H' ∧ H p = none ∧ H' p = some (.lst (cs.map V.int)) ∧ cs.length ≤ 180) ?_ ?_
        · refine s_when (et_and (et_test (ev_eqI (ev_mod (ev_cell (ex_l e03 hS) hl rfl ev_c (by decide) (by decide)) ev_c (by decide)) ev_c)) (fun _ => et_test (ev_neIN (ms := []) (ev_var rfl) el_nil (sq_of h3)))) (fun hb H4 e4 => ?_) (fun hb H4 e4 => ?_)
          · have hne : cs ≠ [] := of_decide_eq_false (not_t (Bool.and_eq_true_iff.mp hb).2)
            have e04 := e03.trans e4
            have h4 := e4 _ _ h3
            have hpos := List.length_pos_iff.mpr hne
            have m4 := mod_bd (cell ns 1 / 243) (m := 4) (by decide)
            obtain ⟨z, hz, ez⟩ := atI_ints (ns := [10 ^ (9 : Int).toNat, -1, -(10 ^ (20 : Int).toNat), 10]) (z := cell ns 1 / 243 % 4) m4.1 m4.2
            refine q_asg (ev_ixN (el_lst (ea_cons (ev_pow ev_c ev_c ⟨by decide, by decide, by decide⟩) (ea_3 (ev_neg ev_c) (ev_neg (ev_pow ev_c ev_c ⟨by decide, by decide, by decide⟩)) ev_c)) (by decide)) (ev_mod (ev_fdiv (ev_cell (ex_l e04 hS) hl rfl ev_c (by decide) (by decide)) ev_c ⟨by decide, by decide⟩) ev_c (by decide)) ez) fun H5 e5 => ?_
            have e05 := e04.trans e5
            have h5 := e5 _ _ h4
            have mL := mod_bd (cell ns 1 / 27) (m := (cs.length : Int)) (by omega)
            refine s_setL (j := (cell ns 1 / 27 % (cs.length : Int)).toNat) h5 (ev_var rfl) (ev_var rfl) (ev_of (ev_mod (ev_fdiv (ev_cell (ex_l e05 hS) hl rfl ev_c (by decide) (by decide)) ev_c ⟨by decide, by decide⟩) (ev_of (ev_len' (ev_var rfl) (sq_of h5)) (by rw [List.length_map])) (by omega)) ?_) ?_ fun H6 e6 => ?_
            · exact congrArg V.int (by omega)
            · rw [List.length_map]
              omega
            · refine ⟨p, cs.set (cell ns 1 / 27 % (cs.length : Int)).toNat z, _, _, _, rfl, (e05.trans e6).mut hp0, hp0, ?_, by rw [List.length_set]; exact hlen⟩
              rw [upd_same, List.map_set]
          · exact ⟨p, cs, _, _, _, rfl, e03.trans e4, hp0, e4 _ _ h3, hlen⟩
        · clear h3 hlen hp0 e03
          rintro σ' H4 ⟨p, cs, y2, y4, y5, rfl, e04, hp0, h4, hlen⟩
          exact s_ret (ev_var rfl) fun H5 e5 => k p H5 cs (by omega) hp0 (e04.trans e5) (e5 _ _ h4)
    · have m3 := mod_bd (cell ns 0 / 2) (m := 3) (by decide)
      have m6 := mod_bd (cell ns 1) (m := 6) (by decide)
      obtain ⟨z, hz, ez⟩ := atI_ints (ns := [10, 10, 4]) (z := cell ns 0 / 2 % 3) m3.1 m3.2
      have hz0 : 0 < z := by
        simp only [List.mem_cons, List.not_mem_nil, or_false] at hz
        omega
      refine q_asg (ev_ixN (el_lst (ea_3 ev_c ev_c ev_c) (by decide)) (ev_mod (ev_fdiv (ev_cell (ex_l e1 hS) hl rfl ev_c (by decide) (by decide)) ev_c ⟨by decide, by decide⟩) ev_c (by decide)) ez) fun H2 e2 => ?_
      have e02 := e1.trans e2
      refine s_retL (el_is (ys := ((List.range (1 + cell ns 1 % 6).toNat).map fun i : Nat => cell ns (2 + (i : Int)) % z).map V.int) (el_lcR (n := 1 + cell ns 1 % 6) (fun _ => true) (fun i => .int (cell ns (2 + (i : Int)) % z)) (ea_1 (ev_add ev_c (ev_mod (ev_cell (ex_l e02 hS) hl rfl ev_c (by decide) (by decide)) ev_c (by decide)))) ⟨by omega, by omega⟩ (fun _ => rfl) (fun i _ _ _ => et_yes)
        (fun i hi _ H2 e2 => ev_mod (ev_cell (ex_l (e02.trans e2) hS) hl rfl (ev_add ev_c (ev_var rfl)) (by omega) (by omega)) (ev_var rfl) hz0)) ?_) fun p H3 hp e3 h3 => ?_
      · rw [filter_tt, List.map_map]
        rfl
      · exact k p H3 _ (by rw [List.length_map, List.length_range]; omega) (fresh_back e02 hp) (e02.trans e3) h3
end

theorem kindGo0 {cs : List Int} (h : House cs) {j : Nat} (hj : j < (kinds cs).length) : ∃ n : Nat, kindGo (j : Int) 0 0 cs = some n ∧ (kinds cs)[j]? = some (n : Int) := by
  have := kindGo_eq cs 0 0 j h.nn hj
  rw [Int.zero_add] at this
  exact this
def sp_all_rooms (K : PySem.W.Frag) : Sp := fun vs H Q _ => ∃ (a : Addr) (cs : List Int), vs = [.ref a] ∧ H a = some (.lst (cs.map V.int)) ∧ House cs ∧ RetV (.bl true) H Q
section
variable {P : Program} {w : World} {K : PySem.W.Frag} {mg : Str → Option Value} {base : Heap}
theorem cal_all_rooms (D : Dn K mg "_law_all_rooms" s_law_all_rooms ["_law_counts"]) (T : Tp mg) (C_law_whole : Cal P w K mg base "_law_whole" 1 ["_law_found"] (sp_whole K)) (C_law_wholes : Cal P w K mg base "_law_wholes" 2 ["_law_found"] (sp_wholes K))
    (C_kind_of : Cal P w K mg base "kind_of" 1 ["counts", "room"] (sp_kind_of K)) (C_rooms_of : Cal P w K mg base "rooms_of" 2 ["counts", "kind"] (sp_rooms_of K)) (C_room_count : Cal P w K mg base "room_count" 1 ["counts"] (sp_room_count K)) :
    Cal P w K mg base "_law_all_rooms" 3 ["_law_counts"] (sp_all_rooms K) := by
  refine cal_of D sc_law_all_rooms (fun vs H Q E h => ?_) (fun f cdv A outer s H vs Q E hr h => ?_)
  · obtain ⟨a, cs, rfl, _⟩ := h
    rfl
  · obtain ⟨a, cs, rfl, hH, hh, k⟩ := h
    have hS := sq_of (K := K) hH
    have hle := hh.le
    have hkl := kinds_le hh
    refine ⟨_, (pss_cons (ps_set (i := 1) sc_law_all_rooms.nd rfl (.inr rfl) (pe_lst pa_nil)) (pss_cons (ps_for PassesOwn.never rfl (pi_range1 (by rfl) T.z_range (pa_cons (pe_callB (r := rLenS K) call_len_seq (by rfl) T.z_len (by decide +kernel) (pa_cons (pv 0) pa_nil)) pa_nil)) (pg_name (i := 2) sc_law_all_rooms.nd rfl (.inr rfl)) (pss_one (ps_set (i := 1) sc_law_all_rooms.nd rfl (.inr rfl) (pe_op op_cat (pv 1) (pe_op op_rep (pe_lst (pa_cons (pv 2) pa_nil)) (pe_ix (r := rIxL K) ix_list (pv 0) (pv 2) (fun _ _ => rfl))))))) (pss_cons (ps_for PassesOwn.never rfl (pi_range1 (by rfl) T.z_range (pa_cons (pe_callB (r := rLenS K) call_len_seq (by rfl) T.z_len (by decide +kernel) (pa_cons (pv 1) pa_nil)) pa_nil)) (pg_name (i := 3) sc_law_all_rooms.nd rfl (.inl rfl)) (pss_cons (ps_set (i := 4) sc_law_all_rooms.nd rfl (.inl rfl) (pe_cal C_kind_of (hr.mono (by decide)) (by rfl) (pa_cons (pv 0) (pa_cons (pv 3) pa_nil)))) (pss_one (ps_if (PW.pt (pw_or (pt_not (pt_val (pe_cal C_law_whole (hr.mono (by decide)) (by rfl) (pa_cons (pv 4) pa_nil)))) (pw_or1 (pt_cmpR op_ne (pv 4) (pe_ix (r := rIxL K) ix_list (pv 1) (pv 3) (fun _ _ => rfl)) (nomark _))))) (pss_one (ps_ret pe_bl)) pss_nil)))) (pss_cons (ps_for PassesOwn.never rfl (pi_range1 (by rfl) T.z_range (pa_cons (pe_callB (r := rLenS K) call_len_seq (by rfl) T.z_len (by decide +kernel) (pa_cons (pv 0) pa_nil)) pa_nil)) (pg_name (i := 2) sc_law_all_rooms.nd rfl (.inr rfl)) (pss_cons (ps_set (i := 4) sc_law_all_rooms.nd rfl (.inl rfl) (pe_cal C_rooms_of (hr.mono (by decide)) (by rfl) (pa_cons (pv 0) (pa_cons (pv 2) pa_nil)))) (pss_cons (ps_setLc (i := 5) (own := [("_law_room", 3)]) (g := gName 3) (by rfl) sc_law_all_rooms.nd rfl rfl (sw_true rfl rfl rfl (by decide +kernel)) (pi_range1 (by rfl) T.z_range (pa_cons (pe_callB (r := rLenS K) call_len_seq (by rfl) T.z_len (by decide +kernel) (pa_cons (pv 1) pa_nil)) pa_nil)) (blkOk_by (own := [("_law_room", 3)]) (N := ["_law_counts", "_law_kinds", "_law_kind", "_law_room", "_law_found", "_law_due"]) (sc := defScope s_law_all_rooms) (by decide +kernel)) (fun _ _ _ _ _ => pg_name (i := 3) sc_law_all_rooms.nd rfl (Or.inl rfl)) (fun _ _ _ _ _ => (pts_one (pt_cmpR op_eq (pe_ix (r := rIxL K) ix_list (pv 1) (pv 3) (fun _ _ => rfl)) (pv 2) (nomark _)))) (fun _ _ _ _ _ => (pv 3))) (pss_cons (ps_if (PW.pt (pw_or (pt_not (pt_val (pe_cal C_law_wholes (hr.mono (by decide)) (by rfl) (pa_cons (pv 4) pa_nil)))) (pw_or1 (pt_cmpR (r := rNeD K) (op_neD hr.units) (pv 4) (pv 5) (nomark _))))) (pss_one (ps_ret pe_bl)) pss_nil) (pss_cons (ps_expr (pe_bm PySem.F.plainAttrs_list PySem.F.slot_list_append PySem.F.type_list_append mt_append (pv 4) (pa_cons pe_int pa_nil))) (pss_one (ps_if (PW.pt (pw_or (pt_cmpR (r := rNeD K) (op_neD hr.units) (pe_cal C_rooms_of (hr.mono (by decide)) (by rfl) (pa_cons (pv 0) (pa_cons (pv 2) pa_nil))) (pv 5) (nomark _)) (pw_or1 (pt_cmpR (r := rNeD K) (op_neD hr.units) (pv 4) (pe_op op_cat (pv 5) (pe_lst (pa_cons pe_int pa_nil))) (nomark _))))) (pss_one (ps_ret pe_bl)) pss_nil))))))) (pss_cons (ps_set (i := 4) sc_law_all_rooms.nd rfl (.inl rfl) (pe_cal C_room_count (hr.mono (by decide)) (by rfl) (pa_cons (pv 0) pa_nil))) (pss_one (ps_ret (pe_and (pe_cal C_law_whole (hr.mono (by decide)) (by rfl) (pa_cons (pv 4) pa_nil)) (pe_one (pe_cmpR op_eq (pv 4) (pe_callB (r := rLenS K) call_len_seq (by rfl) T.z_len (by decide +kernel) (pa_cons (pv 1) pa_nil)) (nomark _))))))))))), ?_⟩
    refine q_asgL el_nil fun p0 H1 hp0 e1 h1 => ?_
    -- the kinds
    refine q_forR1 (n := (cs.length : Int)) (ea_1 (ev_of (ev_len' (ev_var rfl) (ex_l e1 hS)) (by rw [List.length_map]))) ⟨by omega, by omega⟩
      (fun i σ' H' => ∃ p y2, σ' = [some (.ref a), some (.ref p), y2, none, none, none] ∧ Ex H H' ∧ H' p = some (.lst ((kindsF 0 (cs.take i)).map V.int))) (fun H2 e2 => ⟨p0, none, rfl, e1.trans e2, e2 _ _ h1⟩) ?_ ?_
    · rintro i σ' H2 hi ⟨p, y2, rfl, e2, h2⟩
      have hi : i < cs.length := by omega
      have hc := hh.ok cs[i] (List.getElem_mem hi)
      have hl := kinds_take_le hh i
      have hx : atI (cs.map V.int) (i : Int) = some (.int cs[i]) := atI_nat (by rw [List.getElem?_map, List.getElem?_eq_getElem hi]; rfl)
      refine s_asgL (el_catN (ev_var rfl) (el_repN (n := cs[i]) (el_lst (ea_1 (ev_var rfl)) (by show 1 ≤ 100000; decide)) (ev_ixL (ev_var rfl) (ev_var rfl) (ex_l e2 hS) hx) ⟨by omega, by omega⟩ (sz_of (by rw [List.length_singleton]; omega))) h2 (sz_of ?_)) fun q H3 hq e3 h3 => ⟨q, _, rfl, e2.trans e3, ?_⟩
      · rw [List.length_map, rep_one, List.length_replicate]
        omega
      · rw [h3, rep_one, kinds_step hi, List.map_append, map_rep]
    rintro σ' H2 ⟨p, y2, rfl, e2, h2⟩
    rw [Int.toNat_natCast, List.take_length] at h2
    have h2 : H2 p = some (.lst ((kinds cs).map V.int)) := h2
    have lenK : ∀ {σ : L2.St} {H' : Hp}, Ex H2 H' → σ[1]? = some (some (.ref p)) → Ev (tCB (rLenS K) (tCons (tVar 1) tNil)) σ H' (.int ((kinds cs).length : Int)) := fun e hv => ev_of (ev_len' (ev_var hv) (sq_of (e _ _ h2))) (by rw [List.length_map])
    have kAt : ∀ {j : Nat}, j < (kinds cs).length → atI ((kinds cs).map V.int) (j : Int) = some (.int ((kinds cs).getD j 0)) := fun {j} hj => atI_nat (by rw [List.getElem?_map, List.getD_eq_getElem?_getD, List.getElem?_eq_getElem hj]; rfl)
    -- the kind of each room
    refine q_forR1 (n := ((kinds cs).length : Int)) (ea_1 (lenK (Ex.refl _) rfl)) ⟨by omega, by omega⟩ (fun i σ' H' => ∃ y3 y4, σ' = [some (.ref a), some (.ref p), y2, y3, y4, none] ∧ Ex H2 H') (fun H3 e3 => ⟨none, none, rfl, e3⟩) ?_ ?_
    · rintro i σ' H3 hi ⟨y3, y4, rfl, e3⟩
      have hi : i < (kinds cs).length := by omega
      have e03 := e2.trans e3
      obtain ⟨n, en, ek⟩ := kindGo0 hh hi
      refine q_asg (ev_of (ev_call0 (ea_2 (ev_var rfl) (ev_var rfl)) (v_kind_of (ex_l e03 hS) (i : Int))) (show onV (kindGo (i : Int) 0 0 cs) = .int (n : Int) by rw [en]; rfl)) fun H4 e4 => ?_
      have hd : (kinds cs).getD i 0 = (n : Int) := by rw [List.getD_eq_getElem?_getD, ek]; rfl
      refine s_when (b := false) (et_is (et_or (et_not (et_B (ev_call0 (ea_1 (ev_var rfl)) v_whole))) (fun _ => et_test (ev_neI (ev_var rfl) (ev_ixL (ev_var rfl) (ev_var rfl) (sq_of ((e3.trans e4) _ _ h2)) (kAt hi))))) ?_) (fun z => nomatch z) (fun _ H5 e5 => ⟨_, _, rfl, (e3.trans e4).trans e5⟩)
      rw [hd, decide_eq_true rfl]
      rfl
    rintro σ' H3 ⟨y3, y4, rfl, e3⟩
    -- the rooms of each kind
    refine q_forR1 (n := (cs.length : Int)) (ea_1 (ev_of (ev_len' (ev_var rfl) (ex_l (e2.trans e3) hS)) (by rw [List.length_map]))) ⟨by omega, by omega⟩ (fun i σ' H' => ∃ y2 y4 y5, σ' = [some (.ref a), some (.ref p), y2, y3, y4, y5] ∧ Ex H2 H') (fun H4 e4 => ⟨_, _, _, rfl, e3.trans e4⟩) ?_ ?_
    · rintro i σ' H4 hi ⟨z2, z4, z5, rfl, e4⟩
      have hi : i < cs.length := by omega
      have e04 := e2.trans e4
      have hrl : (roomsOf cs (i : Int)).length ≤ 54 := by
        rw [← roomsAt_eq hh hi, List.length_map]
        refine Nat.le_trans (List.length_filter_le _ _) ?_
        rw [List.length_range]
        exact hkl
      refine q_asgL (el_call0 (ea_2 (ev_var rfl) (ev_var rfl)) (l_rooms_of (ex_l e04 hS) hh (i : Int))) fun q H5 hq e5 h5 => ?_
      have e25 := e4.trans e5
      refine q_asgL (el_is (ys := (roomsOf cs (i : Int)).map V.int) (el_lcR (n := ((kinds cs).length : Int)) (fun r => decide ((kinds cs).getD r 0 = (i : Int))) (fun r => .int (r : Int)) (ea_1 (lenK e25 rfl)) ⟨by omega, by omega⟩ (fun _ => rfl)
        (fun r hr H6 e6 => et_test (ev_eqI (ev_ixL (ev_var rfl) (ev_var rfl) (sq_of ((e25.trans e6) _ _ h2)) (kAt (by omega))) (ev_var rfl))) (fun r hr _ H6 e6 => ev_var rfl)) ?_) fun q2 H6 hq2 e6 h6 => ?_
      · rw [← roomsAt_eq hh hi, List.map_map, Int.toNat_natCast]
        rfl
      have h5' := e6 _ _ h5
      refine q_when (b := false) (et_is (et_or (et_not (et_B (ev_call0 (ea_1 (ev_var rfl)) (v_wholes h5' (by omega))))) (fun _ => et_test (ev_neIL (ev_var rfl) (ev_var rfl) (sq_of h5') (sq_of h6)))) ?_) (fun z => nomatch z) (fun _ H7 e7 => ?_)
      · rw [decide_eq_true rfl]
        rfl
      refine q_app (e7 _ _ h5') (ev_var rfl) ev_c (by rw [List.length_map]; omega) fun H8 e8 => ?_
      have nq : H4 q = none := hq
      have e68 := (e6.trans e7).trans e8
      have hne : q2 ≠ q := fun z => by
        rw [z, h5] at hq2
        cases hq2
      have e48 : Ex H4 (upd H8 q (.lst ((roomsOf cs (i : Int)).map V.int ++ [.int 7]))) := Ex.mut (e5.trans e68) nq
      have h9 : (upd H8 q (.lst ((roomsOf cs (i : Int)).map V.int ++ [.int 7]))) q = some (.lst (((roomsOf cs (i : Int)) ++ [7]).map V.int)) := by
        rw [upd_same, List.map_append]
        rfl
      have h9' : (upd H8 q (.lst ((roomsOf cs (i : Int)).map V.int ++ [.int 7]))) q2 = some (.lst ((roomsOf cs (i : Int)).map V.int)) := by
        rw [upd_ne hne]
        exact (e7.trans e8) _ _ h6
      refine s_when (b := false) (et_is (et_or (et_test (ev_neNI (el_call0 (ea_2 (ev_var rfl) (ev_var rfl)) (l_rooms_of (ex_l (e04.trans e48) hS) hh (i : Int))) (ev_var rfl) (sq_of h9'))) (fun _ => et_test (ev_neIN (ms := roomsOf cs (i : Int) ++ [7]) (ev_var rfl) (el_is (el_catN (ys := [.int 7]) (ev_var rfl) (el_lst (ea_1 ev_c) (by decide)) h9' (sz_of (by rw [List.length_map, List.length_singleton]; omega))) (by rw [List.map_append]; rfl)) (sq_of h9)))) ?_) (fun z => nomatch z) (fun _ H10 e10 => ⟨_, _, _, rfl, (e4.trans e48).trans e10⟩)
      rw [decide_eq_true rfl, decide_eq_true rfl]
      rfl
    rintro σ' H4 ⟨z2, z4, z5, rfl, e4⟩
    have e04 := e2.trans e4
    refine q_asg (ev_call0 (ea_1 (ev_var rfl)) (v_room_count (ex_l e04 hS))) fun H5 e5 => ?_
    refine s_ret (ev_of (ev_andV (a := true) (ev_call0 (ea_1 (ev_var rfl)) v_whole) fun _ => ev_eqI (ev_var rfl) (lenK (e4.trans e5) rfl)) ?_) fun H6 e6 => k H6 ((e04.trans e5).trans e6)
    rw [kinds_len hh, decide_eq_true rfl]
    rfl
end
def spLaw (K : PySem.W.Frag) : Sp := fun vs H Q _ => ∃ (a : Addr) (ns : List Int), vs = [.ref a] ∧ SqL K H a (ns.map V.int) ∧ ns.length ≤ 63 ∧ ∀ H', Q (.bl true) H'
def outC (x : Int) : Bool := decide (x < 0) || decide (9 < x)
theorem good_eq : ∀ cs : List Int, (decide ((0 : Int) < (cs.length : Int)) && decide ((cs.length : Int) < 7) && decide (cs.filter outC = [])) = isHouse cs := by
  intro cs
  have e : decide (cs.filter outC = []) = cs.all okC := by
    induction cs with
    | nil => rfl
    | cons c r ih =>
      rw [List.filter_cons, List.all_cons, ← ih]
      have q : okC c = !outC c := by
        unfold okC outC
        by_cases h1 : c < 0 <;> by_cases h2 : 9 < c <;> simp [h1, h2] <;> omega
      rw [q]
      cases outC c <;> simp
  unfold isHouse
  rw [e]
  rw [show decide ((0 : Int) < (cs.length : Int)) = decide (1 ≤ (cs.length : Int)) from decide_eq_decide.mpr ⟨fun _ => by omega, fun _ => by omega⟩, show decide ((cs.length : Int) < 7) = decide ((cs.length : Int) ≤ 6) from decide_eq_decide.mpr ⟨fun _ => by omega, fun _ => by omega⟩]
section
variable {P : Program} {w : World} {K : PySem.W.Frag} {mg : Str → Option Value} {base : Heap}
theorem ok_law {f : Addr} {fd : FuncData} (F : Fun K "law" "law" s_law f fd) (T : Tp mg) (C_law_counts_by : Cal P w K mg base "_law_counts_by" 2 ["_law_script"] (sp_counts_by K)) (C_is_house : Cal P w K mg base "is_house" 1 ["counts"] (sp_is_house K)) (C_law_all_rooms : Cal P w K mg base "_law_all_rooms" 3 ["_law_counts"] (sp_all_rooms K)) :
    FnOk P w K mg base CX0 4 f fd ["_law_script"] (spLaw K) := by
  refine F.ok sc_law (fun vs H Q E h => ?_) (fun cdv A outer s H vs Q E hr h => ?_)
  · obtain ⟨a, ns, rfl, _⟩ := h
    rfl
  · obtain ⟨a, ns, rfl, hS, hl, k⟩ := h
    refine ⟨_, (pss_cons (ps_set (i := 1) sc_law.nd rfl (.inl rfl) (pe_cal C_law_counts_by (hr.mono (by decide)) (by rfl) (pa_cons (pv 0) pa_nil))) (pss_cons (ps_set (i := 2) sc_law.nd rfl (.inl rfl) (pe_callTy call_list_of (by rfl) T.z_list (by decide +kernel) (pa_cons (pv 1) pa_nil))) (pss_cons (ps_set (i := 3) sc_law.nd rfl (.inl rfl) (pe_and (pe_chain op_lt op_lt pe_int (pe_callB (r := rLenS K) call_len_seq (by rfl) T.z_len (by decide +kernel) (pa_cons (pv 1) pa_nil)) pe_int) (pe_one (pe_cmpR (r := rEqD K) (op_eqD hr.units) (pe_lc (own := [("_law_one", 5)]) (g := gName 5) (by rfl) sc_law.nd (pi_list (pv 1)) (blkOk_by (own := [("_law_one", 5)]) (N := ["_law_script", "_law_counts", "_law_handed", "_law_good", "_law_found", "_law_one"]) (sc := defScope s_law) (by decide +kernel)) (fun _ _ _ _ _ => pg_name (i := 5) sc_law.nd rfl (Or.inl rfl)) (fun _ _ _ _ _ => (pts_one (PW.pt (pw_or (pt_cmpR op_lt (pv 5) pe_int (nomark _)) (pw_or1 (pt_cmpR op_gt (pv 5) pe_int (nomark _))))))) (fun _ _ _ _ _ => (pv 5))) (pe_lst pa_nil) (nomark _))))) (pss_cons (ps_set (i := 4) sc_law.nd rfl (.inl rfl) (pe_cal C_is_house (hr.mono (by decide)) (by rfl) (pa_cons (pv 2) pa_nil))) (pss_cons (ps_if (PW.pt (pw_or (pt_not (pt_val (pe_callB (r := rIsi K) call_isi (by rfl) T.z_isinstance (by decide +kernel) (pa_cons (pv 4) (pa_cons (pe_bltn (v := .ty "bool") (by rfl) T.z_bool (by decide +kernel) rfl) pa_nil))))) (pw_or1 (pt_cmpR op_ne (pv 4) (pv 3) (nomark _))))) (pss_one (ps_ret pe_bl)) pss_nil) (pss_one (ps_ret (pe_and (pe_cmpR (r := rEqD K) (op_eqD hr.units) (pv 2) (pv 1) (nomark _)) (pe_one (pe_or (pe_not (pv 3)) (pe_one (pe_and (pe_cal C_law_all_rooms (hr.mono (by decide)) (by rfl) (pa_cons (pv 2) pa_nil)) (pe_one (pe_cmpR (r := rEqD K) (op_eqD hr.units) (pv 2) (pv 1) (nomark _))))))))))))))), ?_⟩
    refine ⟨_, rfl, a, ns, rfl, hS, hl, fun p H1 cs hcl hp e1 h1 => ?_⟩
    refine q_asgL (el_list (ev_var rfl) (sq_of h1)) fun q H2 hq e2 h2 => ?_
    have h12 := e2 _ _ h1
    refine q_asg (ev_of (ev_andV (ev_chainI ev_c (ev_of (ev_len' (ev_var rfl) (sq_of h12)) (by rw [List.length_map])) ev_c) fun _ => ev_eqNN (ns := cs.filter outC) (ms := []) (el_lcA cs V.int outC V.int (ev_var rfl) (sq_of h12) (by omega) (fun _ => rfl)
      (fun x _ H3 e3 => et_or (et_test (ev_cmp (ev_var rfl) ev_c)) fun _ => et_test (ev_cmp (ev_var rfl) ev_c)) (fun x _ _ H3 e3 => ev_var rfl)) el_nil) (congrArg V.bl (good_eq cs))) fun H3 e3 => ?_
    refine q_asg (ev_call0 (ea_1 (ev_var rfl)) (v_is_house (sq_of (e3 _ _ h2)) hcl)) fun H4 e4 => ?_
    refine q_when (b := false) (et_is (et_or (et_not (et_B (b := true) (ev_isi (a := "bool") (ev_var rfl) (fun _ _ => .base (.bl _)) (by decide +kernel)))) (fun _ => et_test (ev_op (ev_var rfl) (ev_var rfl) (rv_ne rfl)))) ?_) (fun z => nomatch z) (fun _ H5 e5 => ?_)
    · rw [decide_eq_true rfl]
      rfl
    have e25 := (e3.trans e4).trans e5
    have h5 := e25 _ _ h12
    have h5' := e25 _ _ h2
    refine s_ret (ev_of (ev_andV (ev_eqIL (ns := cs) (ms := cs) (ev_var rfl) (ev_var rfl) (sq_of h5') (sq_of h5)) fun _ => ev_orV (ev_notV (ev_var rfl)) fun hg => ev_andV (a := true) (ev_call0 (ea_1 (ev_var rfl)) ?_) fun _ => ev_eqIL (ns := cs) (ms := cs) (ev_var rfl) (ev_var rfl) (sq_of h5') (sq_of h5)) ?_) fun H6 e6 => k H6
    · exact fun H6 e6 Q' q' E' => ⟨q, cs, rfl, e6 _ _ h5', house_of (not_f hg), q'⟩
    · rw [decide_eq_true rfl]
      cases isHouse cs <;> rfl
end

theorem all_mk {l : PySem.W.OpenLaw} {w : World} {K : PySem.W.Frag} {h : Heap} {mg : Str → Option Value} {fa f0 f1 f2 f3 f4 f5 f6 f7 f8 f9 f10 : Addr} (X : K.In h) (G : h.Ns mainGlobals mg) (hfa : mg "law" = some (.ref fa))
    {od0 an0 od1 an1 od2 an2 od3 an3 od4 an4 od5 an5 od6 an6 od7 an7 od8 an8 od9 an9 od10 an10 : Option Addr} {sl0 sl1 sl2 sl3 sl4 sl5 sl6 sl7 sl8 sl9 sl10 : Array (Option Value)} {oc0 kV0 dc0 pm0 cd0 ct0 oc1 kV1 dc1 pm1 cd1 ct1 oc2 kV2 dc2 pm2 cd2 ct2 oc3 kV3 dc3 pm3 cd3 ct3 oc4 kV4 dc4 pm4 cd4 ct4 oc5 kV5 dc5 pm5 cd5 ct5 oc6 kV6 dc6 pm6 cd6 ct6 oc7 kV7 dc7 pm7 cd7 ct7 oc8 kV8 dc8 pm8 cd8 ct8 oc9 kV9 dc9 pm9 cd9 ct9 oc10 kV10 dc10 pm10 cd10 ct10 : Value}

    (a0 : PySem.W.nsIn K mainGlobals "is_house" = some (some (.ref f0))) (l0 : K.lookup f0 = some ⟨oc0, od0, .func (PySem.W.fnOf "is_house" "is_house" (defArgs s_is_house) (defBody s_is_house) (defScope s_is_house) .none kV0 dc0 pm0 an0 cd0 ct0), sl0⟩) (c0 : PySem.W.codeIn K cd0 "is_house" = true) (k0 : PySem.W.keepIn K (.ref f0) = true)
    (a1 : PySem.W.nsIn K mainGlobals "room_count" = some (some (.ref f1))) (l1 : K.lookup f1 = some ⟨oc1, od1, .func (PySem.W.fnOf "room_count" "room_count" (defArgs s_room_count) (defBody s_room_count) (defScope s_room_count) .none kV1 dc1 pm1 an1 cd1 ct1), sl1⟩) (c1 : PySem.W.codeIn K cd1 "room_count" = true) (k1 : PySem.W.keepIn K (.ref f1) = true)
    (a2 : PySem.W.nsIn K mainGlobals "first_room" = some (some (.ref f2))) (l2 : K.lookup f2 = some ⟨oc2, od2, .func (PySem.W.fnOf "first_room" "first_room" (defArgs s_first_room) (defBody s_first_room) (defScope s_first_room) .none kV2 dc2 pm2 an2 cd2 ct2), sl2⟩) (c2 : PySem.W.codeIn K cd2 "first_room" = true) (k2 : PySem.W.keepIn K (.ref f2) = true)
    (a3 : PySem.W.nsIn K mainGlobals "kind_of" = some (some (.ref f3))) (l3 : K.lookup f3 = some ⟨oc3, od3, .func (PySem.W.fnOf "kind_of" "kind_of" (defArgs s_kind_of) (defBody s_kind_of) (defScope s_kind_of) .none kV3 dc3 pm3 an3 cd3 ct3), sl3⟩) (c3 : PySem.W.codeIn K cd3 "kind_of" = true) (k3 : PySem.W.keepIn K (.ref f3) = true)
    (a4 : PySem.W.nsIn K mainGlobals "rooms_of" = some (some (.ref f4))) (l4 : K.lookup f4 = some ⟨oc4, od4, .func (PySem.W.fnOf "rooms_of" "rooms_of" (defArgs s_rooms_of) (defBody s_rooms_of) (defScope s_rooms_of) .none kV4 dc4 pm4 an4 cd4 ct4), sl4⟩) (c4 : PySem.W.codeIn K cd4 "rooms_of" = true) (k4 : PySem.W.keepIn K (.ref f4) = true)
    (a5 : PySem.W.nsIn K mainGlobals "_law_cell" = some (some (.ref f5))) (l5 : K.lookup f5 = some ⟨oc5, od5, .func (PySem.W.fnOf "_law_cell" "_law_cell" (defArgs s_law_cell) (defBody s_law_cell) (defScope s_law_cell) .none kV5 dc5 pm5 an5 cd5 ct5), sl5⟩) (c5 : PySem.W.codeIn K cd5 "_law_cell" = true) (k5 : PySem.W.keepIn K (.ref f5) = true)
    (a6 : PySem.W.nsIn K mainGlobals "_law_whole" = some (some (.ref f6))) (l6 : K.lookup f6 = some ⟨oc6, od6, .func (PySem.W.fnOf "_law_whole" "_law_whole" (defArgs s_law_whole) (defBody s_law_whole) (defScope s_law_whole) .none kV6 dc6 pm6 an6 cd6 ct6), sl6⟩) (c6 : PySem.W.codeIn K cd6 "_law_whole" = true) (k6 : PySem.W.keepIn K (.ref f6) = true)
    (a7 : PySem.W.nsIn K mainGlobals "_law_wholes" = some (some (.ref f7))) (l7 : K.lookup f7 = some ⟨oc7, od7, .func (PySem.W.fnOf "_law_wholes" "_law_wholes" (defArgs s_law_wholes) (defBody s_law_wholes) (defScope s_law_wholes) .none kV7 dc7 pm7 an7 cd7 ct7), sl7⟩) (c7 : PySem.W.codeIn K cd7 "_law_wholes" = true) (k7 : PySem.W.keepIn K (.ref f7) = true)
    (a8 : PySem.W.nsIn K mainGlobals "_law_counts_by" = some (some (.ref f8))) (l8 : K.lookup f8 = some ⟨oc8, od8, .func (PySem.W.fnOf "_law_counts_by" "_law_counts_by" (defArgs s_law_counts_by) (defBody s_law_counts_by) (defScope s_law_counts_by) .none kV8 dc8 pm8 an8 cd8 ct8), sl8⟩) (c8 : PySem.W.codeIn K cd8 "_law_counts_by" = true) (k8 : PySem.W.keepIn K (.ref f8) = true)
    (a9 : PySem.W.nsIn K mainGlobals "_law_all_rooms" = some (some (.ref f9))) (l9 : K.lookup f9 = some ⟨oc9, od9, .func (PySem.W.fnOf "_law_all_rooms" "_law_all_rooms" (defArgs s_law_all_rooms) (defBody s_law_all_rooms) (defScope s_law_all_rooms) .none kV9 dc9 pm9 an9 cd9 ct9), sl9⟩) (c9 : PySem.W.codeIn K cd9 "_law_all_rooms" = true) (k9 : PySem.W.keepIn K (.ref f9) = true)
    (a10 : PySem.W.nsIn K mainGlobals "law" = some (some (.ref f10))) (l10 : K.lookup f10 = some ⟨oc10, od10, .func (PySem.W.fnOf "law" "law" (defArgs s_law) (defBody s_law) (defScope s_law) .none kV10 dc10 pm10 an10 cd10 ct10), sl10⟩) (c10 : PySem.W.codeIn K cd10 "law" = true) (k10 : PySem.W.keepIn K (.ref f10) = true)
    (z_all : PySem.W.nsIn K mainGlobals "all" = some none)
    (z_len : PySem.W.nsIn K mainGlobals "len" = some none)
    (z_sum : PySem.W.nsIn K mainGlobals "sum" = some none)
    (z_max : PySem.W.nsIn K mainGlobals "max" = some none)
    (z_enumerate : PySem.W.nsIn K mainGlobals "enumerate" = some none)
    (z_list : PySem.W.nsIn K mainGlobals "list" = some none)
    (z_range : PySem.W.nsIn K mainGlobals "range" = some none)
    (z_isinstance : PySem.W.nsIn K mainGlobals "isinstance" = some none)
    (z_int : PySem.W.nsIn K mainGlobals "int" = some none)
    (z_bool : PySem.W.nsIn K mainGlobals "bool" = some none)
    (z_abs : PySem.W.nsIn K mainGlobals "abs" = some none)
    (g_MOST_KINDS : ∃ t, PySem.W.nsIn K mainGlobals "MOST_KINDS" = some (some (.int 6 t)))
    (g_MOST_OF_A_KIND : ∃ t, PySem.W.nsIn K mainGlobals "MOST_OF_A_KIND" = some (some (.int 9 t)))
    : ∃ fd : FuncData, (∀ (s : Shared) (v : Value), BindsTo s fd ⟨[v], []⟩ [("_law_script", v)]) ∧ ∀ base : Heap, K.In base → base.Ns mainGlobals mg → FnOk l.prog w K mg base CX0 4 fa fd ["_law_script"] (spLaw K) := by
  have e := hfa.symm.trans (PySem.W.mg_of X G a10)
  cases e
  have T : Tp mg := ⟨PySem.W.mg_none_of X G z_all, PySem.W.mg_none_of X G z_len, PySem.W.mg_none_of X G z_sum, PySem.W.mg_none_of X G z_max, PySem.W.mg_none_of X G z_enumerate, PySem.W.mg_none_of X G z_list, PySem.W.mg_none_of X G z_range, PySem.W.mg_none_of X G z_isinstance, PySem.W.mg_none_of X G z_int, PySem.W.mg_none_of X G z_bool, PySem.W.mg_none_of X G z_abs, g_MOST_KINDS.imp fun _ z => PySem.W.mg_of X G z, g_MOST_OF_A_KIND.imp fun _ z => PySem.W.mg_of X G z⟩
  have F_is_house := fun_mk (st := s_is_house) l0 c0 k0
  have D_is_house := dn_mk F_is_house (PySem.W.mg_of X G a0) (F_is_house.binds (ps := ["counts"]) fun _ _ _ _ _ _ us hl => match us, hl with | [_], _ => rfl)
  have F_room_count := fun_mk (st := s_room_count) l1 c1 k1
  have D_room_count := dn_mk F_room_count (PySem.W.mg_of X G a1) (F_room_count.binds (ps := ["counts"]) fun _ _ _ _ _ _ us hl => match us, hl with | [_], _ => rfl)
  have F_first_room := fun_mk (st := s_first_room) l2 c2 k2
  have D_first_room := dn_mk F_first_room (PySem.W.mg_of X G a2) (F_first_room.binds (ps := ["counts", "kind"]) fun _ _ _ _ _ _ us hl => match us, hl with | [_, _], _ => rfl)
  have F_kind_of := fun_mk (st := s_kind_of) l3 c3 k3
  have D_kind_of := dn_mk F_kind_of (PySem.W.mg_of X G a3) (F_kind_of.binds (ps := ["counts", "room"]) fun _ _ _ _ _ _ us hl => match us, hl with | [_, _], _ => rfl)
  have F_rooms_of := fun_mk (st := s_rooms_of) l4 c4 k4
  have D_rooms_of := dn_mk F_rooms_of (PySem.W.mg_of X G a4) (F_rooms_of.binds (ps := ["counts", "kind"]) fun _ _ _ _ _ _ us hl => match us, hl with | [_, _], _ => rfl)
  have F_law_cell := fun_mk (st := s_law_cell) l5 c5 k5
  have D_law_cell := dn_mk F_law_cell (PySem.W.mg_of X G a5) (F_law_cell.binds (ps := ["_law_script", "_law_k"]) fun _ _ _ _ _ _ us hl => match us, hl with | [_, _], _ => rfl)
  have F_law_whole := fun_mk (st := s_law_whole) l6 c6 k6
  have D_law_whole := dn_mk F_law_whole (PySem.W.mg_of X G a6) (F_law_whole.binds (ps := ["_law_found"]) fun _ _ _ _ _ _ us hl => match us, hl with | [_], _ => rfl)
  have F_law_wholes := fun_mk (st := s_law_wholes) l7 c7 k7
  have D_law_wholes := dn_mk F_law_wholes (PySem.W.mg_of X G a7) (F_law_wholes.binds (ps := ["_law_found"]) fun _ _ _ _ _ _ us hl => match us, hl with | [_], _ => rfl)
  have F_law_counts_by := fun_mk (st := s_law_counts_by) l8 c8 k8
  have D_law_counts_by := dn_mk F_law_counts_by (PySem.W.mg_of X G a8) (F_law_counts_by.binds (ps := ["_law_script"]) fun _ _ _ _ _ _ us hl => match us, hl with | [_], _ => rfl)
  have F_law_all_rooms := fun_mk (st := s_law_all_rooms) l9 c9 k9
  have D_law_all_rooms := dn_mk F_law_all_rooms (PySem.W.mg_of X G a9) (F_law_all_rooms.binds (ps := ["_law_counts"]) fun _ _ _ _ _ _ us hl => match us, hl with | [_], _ => rfl)
  have F_law := fun_mk (st := s_law) l10 c10 k10
  refine ⟨PySem.W.fnOf "law" "law" (defArgs s_law) (defBody s_law) (defScope s_law) .none kV10 dc10 pm10 an10 cd10 ct10, fun s v => .of_eq rfl, fun base _ _ => ?_⟩
  have C_is_house := cal_is_house (P := l.prog) (w := w) (base := base) D_is_house T
  have C_room_count := cal_room_count (P := l.prog) (w := w) (base := base) D_room_count T
  have C_first_room := cal_first_room (P := l.prog) (w := w) (base := base) D_first_room T
  have C_kind_of := cal_kind_of (P := l.prog) (w := w) (base := base) D_kind_of T
  have C_rooms_of := cal_rooms_of (P := l.prog) (w := w) (base := base) D_rooms_of T C_first_room
  have C_law_cell := cal_cell (P := l.prog) (w := w) (base := base) D_law_cell T
  have C_law_whole := cal_whole (P := l.prog) (w := w) (base := base) D_law_whole T
  have C_law_wholes := cal_wholes (P := l.prog) (w := w) (base := base) D_law_wholes T C_law_whole
  have C_law_counts_by := cal_counts_by (P := l.prog) (w := w) (base := base) D_law_counts_by T C_law_cell
  have C_law_all_rooms := cal_all_rooms (P := l.prog) (w := w) (base := base) D_law_all_rooms T C_law_whole C_law_wholes C_kind_of C_rooms_of C_room_count
  exact ok_law F_law T C_law_counts_by C_is_house C_law_all_rooms
end Ik
open PySem PySem.W PyProof.Rows
set_option maxRecDepth 100000 in
set_option maxHeartbeats 0 in
theorem PySem.Challenge.cw_innkinds_k01_houses_holds : PySem.Challenge.rw_innkinds_k01_houses.Holds := by
  w_on; o_law; k_head; (case hw => w_witness2)
  k_fill
  refine L2.walk_of (l := PySem.Challenge.rw_innkinds_k01_houses) (n := 63) (k := 4) (x := "_law_script") (CX := fun _ => L2.CX0) (sp := fun w => Ik.spLaw _) rfl (by decide) rfl ⟨rfl, by decide, by decide⟩ (fun w h Y => PySem.W.kIn_of Y) ?F (fun _ _ a ns hl _ hS => ⟨a, ns, rfl, hS, hl, fun _ => rfl⟩) (fun _ _ _ _ _ h => h)
  case F =>
    intro w mg fa h KX G hmg
    refine' Ik.all_mk KX G hmg ?a0 ?l0 ?c0 ?k0 ?a1 ?l1 ?c1 ?k1 ?a2 ?l2 ?c2 ?k2 ?a3 ?l3 ?c3 ?k3 ?a4 ?l4 ?c4 ?k4 ?a5 ?l5 ?c5 ?k5 ?a6 ?l6 ?c6 ?k6 ?a7 ?l7 ?c7 ?k7 ?a8 ?l8 ?c8 ?k8 ?a9 ?l9 ?c9 ?k9 ?a10 ?l10 ?c10 ?k10 ?z_all ?z_len ?z_sum ?z_max ?z_enumerate ?z_list ?z_range ?z_isinstance ?z_int ?z_bool ?z_abs ?g_MOST_KINDS ?g_MOST_OF_A_KIND
    (case a0 => k_is)
    (case l0 => k_is)
    (case c0 => k_is)
    (case k0 => k_is)
    (case a1 => k_is)
    (case l1 => k_is)
    (case c1 => k_is)
    (case k1 => k_is)
    (case a2 => k_is)
    (case l2 => k_is)
    (case c2 => k_is)
    (case k2 => k_is)
    (case a3 => k_is)
    (case l3 => k_is)
    (case c3 => k_is)
    (case k3 => k_is)
    (case a4 => k_is)
    (case l4 => k_is)
    (case c4 => k_is)
    (case k4 => k_is)
    (case a5 => k_is)
    (case l5 => k_is)
    (case c5 => k_is)
    (case k5 => k_is)
    (case a6 => k_is)
    (case l6 => k_is)
    (case c6 => k_is)
    (case k6 => k_is)
    (case a7 => k_is)
    (case l7 => k_is)
    (case c7 => k_is)
    (case k7 => k_is)
    (case a8 => k_is)
    (case l8 => k_is)
    (case c8 => k_is)
    (case k8 => k_is)
    (case a9 => k_is)
    (case l9 => k_is)
    (case c9 => k_is)
    (case k9 => k_is)
    (case a10 => k_is)
    (case l10 => k_is)
    (case c10 => k_is)
    (case k10 => k_is)
    (case z_all => k_is)
    (case z_len => k_is)
    (case z_sum => k_is)
    (case z_max => k_is)
    (case z_enumerate => k_is)
    (case z_list => k_is)
    (case z_range => k_is)
    (case z_isinstance => k_is)
    (case z_int => k_is)
    (case z_bool => k_is)
    (case z_abs => k_is)
    (case g_MOST_KINDS => exact ⟨_, by k_is⟩)
    (case g_MOST_OF_A_KIND => exact ⟨_, by k_is⟩)
