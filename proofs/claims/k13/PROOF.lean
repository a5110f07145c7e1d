import PyProof.Rows.All
import Wide.All
import OpenK.AllK
import Wide.FinOn
import HandS.ForMost
import HandS.Evl
import HandS.Steps
import HandS.IsInst
import HandS.Walk
import HandS.Conv
import HandS.SortInts
import KE.KEqNest
import HandS.SortKw
import HandS.SetFor
import HandS.DeepEq
import HandS.DictComp
import KE.KDictList
import KE.KLam
import KE.KMinKey
import KE.SortKeyHeap
import KE.SortData
import HandS.Lambda
import HandS.EndTab
import HandS.Strs
import HandS.Star
import HandS.Finally
import KE.DataMinMax
import KE.KExcSuper
import KE.KSuper
import HandS.ExcOwn
import HandS.ExcCtx
import HandS.HotCalls
import KE.KExcIs
import HandS.ExcInit
import HandS.ExcIs
import HandS.ExcField
import HandS.WordsExc
import PyProof.FString2
import HandS.FStr
import PySem.Challenge.RW_innkinds_k13_refused_and_made_good
set_option Elab.async false
set_option linter.all false
set_option maxRecDepth 100000
set_option maxHeartbeats 4000000

/-! ### Full: its own __init__ says super().__init__(text), then two fields -/
namespace PySem
namespace FullX
open PySem.W PySem.Calls PyProof.Rows PySem.HandSPX
def iA (p1 p2 p3 : Pos) : Arguments := { posonlyargs := [], args := [{ arg := "self", annotation := none, pos := p1 }, { arg := "night", annotation := none, pos := p2 }, { arg := "kind", annotation := none, pos := p3 }], vararg := none, kwonlyargs := [], kw_defaults := [], kwarg := none, defaults := [] }
structure Ps where
  (a b c d e f g h i j k l m n o p q r s t u : Pos)
def iB (P : Ps) : List Stmt := [
  .Expr (.Call (.Attribute (.Call (.Name "super" P.a) [] [] P.b) "__init__" P.c) [.JoinedStr [.Constant (.str "kind ") 0 P.d, .FormattedValue (.Name "kind" P.e) (-1) none P.f, .Constant (.str " is short (night: ") 0 P.g, .FormattedValue (.Name "night" P.h) (-1) none P.i, .Constant (.str ")") 0 P.j] P.k] [] P.l) P.m,
  .Assign [.Attribute (.Name "self" P.n) "night" P.o] (.Name "night" P.p) P.q,
  .Assign [.Attribute (.Name "self" P.r) "kind" P.s] (.Name "kind" P.t) P.u]
def iS : Scope := { kind := .function, names := [(PySem.Str.ofString "self", .local), (PySem.Str.ofString "night", .local), (PySem.Str.ofString "kind", .local), (PySem.Str.ofString "__class__", .free), (PySem.Str.ofString "super", .globalImplicit)], isGenerator := false, isCoroutine := false, more := [] }
abbrev bmF (I : Addr) : List Value := [.ref I, .type "ValueError", .type "Exception", .type "BaseException", .type "object"]
/-- what the written part says of Full, at C, and of its __init__, at fI -/
structure FullTxt (prog : Program) (K : Frag) (mg : Str → Option Value) (C fI : Addr) : Prop where
  gC : mg "Full" = some (.ref C)
  cls : ∃ nm q N bs I sn sub ab col dd k0 k1 k2 k3 k5, K.lookup C = some (excClassObj nm q C N bs (bmF I) true sn sub ab col dd k0 k1 k2 k3 k5 "ValueError.__new__") ∧
    alongIn K "__init__" (bmF I) = some (some (.builtin "ValueError.__init__"))
  sa : findIn K (.ref C) "__setattr__" = some (some (.builtin "object.__setattr__"))
  ga : findIn K (.ref C) "__getattribute__" = some (some (.builtin "BaseException.__getattribute__"))
  gg : findIn K (.ref C) "__getattr__" = some none
  noN : findIn K (.ref C) "night" = some none
  noK : findIn K (.ref C) "kind" = some none
  iC : findIn K (.ref C) "__init__" = some (some (.ref fI))
  tC : typeIn K (.ref fI) = some (.type "function")
  kC : keepIn K (.ref C) = true
  exC : subIn K (.ref C) (.type "BaseException") = some true
  veC : subIn K (.ref C) (.type "ValueError") = some true
  tyC : typeIn K (.ref C) = some (.type "type")
  hdC : hasDictIn K C = true
  opq : nsIn K cStatics "thirdparty.any" = some none
  sup : mg "super" = none
  top : (prog.main.scope.names.lookup ("super" : Str)).isSome = false
  fn : ∃ (oc : Value) (od : Option Addr) (doc pm : Value) (an : Option Addr) (cda : Addr) (ct : Value) (osl : Array (Option Value)) (p1 p2 p3 : Pos) (B : Ps) (cc : Addr) (ccl cl : Value) (cdd cld : Option Addr) (vs : Array Value) (ccs csl : Array (Option Value)) (file : Str) (tf : Tok),
    K.lookup fI = some ⟨oc, od, .func (ksFn "__init__" "Full.__init__" (iA p1 p2 p3) (iB B) iS .none .none doc pm an (.ref cda) ct cc), osl⟩ ∧ codeIn K (.ref cda) "Full.__init__" = true ∧
    K.lookup cda = some ⟨ccl, cdd, .fields vs, ccs⟩ ∧ vs[2]? = some (.str file tf) ∧ ((prog.main.file : Str) == file) = true ∧ K.lookup cc = some ⟨cl, cld, .cell (some (.ref C)), csl⟩ ∧ (B.c.endLine == B.l.line) = true
/-- None or a small number -/
def Shown (v : Value) : Prop := v = .none ∨ ∃ (a : Nat) (t : Tok), v = .int (a : Int) t ∧ a < 100
theorem small_log {a : Nat} (h : a < 100) : (a : Int).natAbs.log2 < 1920 := by
  have : ∀ b : _root_.Fin 100, (b.val : Int).natAbs.log2 < 1920 := by decide +kernel
  exact this ⟨a, h⟩
theorem small_len {a : Nat} (h : a < 100) : (Str.ofString (toString (a : Int))).length ≤ 10 := by
  have : ∀ b : _root_.Fin 100, (Str.ofString (toString (b.val : Int))).length ≤ 10 := by decide +kernel
  exact this ⟨a, h⟩
section
variable {prog : Program} {w : World} {A : Around} {E : Value → Shared → Prop} {s : Shared}
theorem field_shown {v : Value} {Q : Value → Shared → Prop} (hv : Shown v) (h : ∀ (y : Str) (t tk : Tok), y.length ≤ 10 → Q (.str y t) { s with toks := tk }) : wpAny (model prog w) A (formatField v Str.empty) Q E s := by
  rcases hv with rfl | ⟨a, t, rfl, ha⟩
  · exact wpAny_formatField_none (h _ _ _ (by decide))
  · exact formatField_int_small (small_log ha) (h _ _ _ (small_len ha))
theorem part_more {out : Str} {x : Sem Value} {rest : List (Sem Value)} {n : Nat} {Q : Value → Shared → Prop} (ho : out.length ≤ n) (hn : n ≤ 1000)
    (h : wpAny (model prog w) A x (fun v s₁ => ∃ (y : Str) (t : Tok), v = .str y t ∧ y.length ≤ 20 ∧ ∀ out' : Str, out'.length ≤ n + 20 → wpAny (model prog w) A (joinParts out' rest) Q E s₁) E s) : wpAny (model prog w) A (joinParts out (x :: rest)) Q E s := by
  refine joinParts_cons (wpAny_mono h (fun v s₁ h₁ => ?_) fun _ _ e => e)
  obtain ⟨y, t, rfl, hy, q⟩ := h₁
  have e : (out ++ y).length ≤ n + 20 := by
    rw [strLen_append]
    omega
  refine ⟨?_, q _ e⟩
  rw [sizeLine_eq]
  omega
theorem ldK {name : Str} {scope : Scope} {L a : Addr} {cd : Value} {cc : Addr} {m : Str → Option Value} {x : Str} {pos : Pos} {v : Value} {Q : Value → Shared → Prop} {M : Model} (hn : s.heap.Ns L m) (hv : m x = some v) (h : Q v s)
    (hk : scope.kind = .function := by rfl) (hl : (ksEnv name scope L a cd cc).kindOf x = some .local := by rfl) (hd : (x == ("__debug__" : Str)) = false := by decide) :
    wpAny M A (eval (.Name x pos) (ksEnv name scope L a cd cc)) Q E s := wpAny_Name (wpAny_loadName_local hk hl hn hv h) hd
/-- the text -/
theorem text_ok {name : Str} {L a : Addr} {cd : Value} {cc : Addr} {m : Str → Option Value} {vn vk : Value} {p1 p2 p3 p4 p5 p6 p7 p8 : Pos} {Q : Value → Shared → Prop} (hn : s.heap.Ns L m) (en : m "night" = some vn) (ek : m "kind" = some vk) (sn : Shown vn) (sk : Shown vk)
    (h : ∀ (y : Str) (t tk : Tok), Q (.str y t) { s with toks := tk }) :
    wpAny (model prog w) A (eval (.JoinedStr [.Constant (.str "kind ") 0 p1, .FormattedValue (.Name "kind" p2) (-1) none p3, .Constant (.str " is short (night: ") 0 p4, .FormattedValue (.Name "night" p5) (-1) none p6, .Constant (.str ")") 0 p7] p8) (ksEnv name iS L a cd cc)) Q E s := by
  obtain ⟨hp, g, d, t, os⟩ := s
  refine JoinedStr_many (part_more (n := 0) (by decide) (by decide) (wpAny_Constant_str ⟨_, _, rfl, by decide, fun o1 h1 => ?_⟩))
  refine part_more h1 (by decide) (FormattedValue_plain (ldK hn ek (field_shown sk fun y t' tk hy => ⟨y, t', rfl, by omega, fun o2 h2 => ?_⟩)))
  refine part_more h2 (by decide) (wpAny_Constant_str ⟨_, _, rfl, by decide, fun o3 h3 => ?_⟩)
  refine part_more h3 (by decide) (FormattedValue_plain (ldK hn en (field_shown sn fun y t' tk hy => ⟨y, t', rfl, by omega, fun o4 h4 => ?_⟩)))
  refine part_more h4 (by decide) (wpAny_Constant_str ⟨_, _, rfl, by decide, fun o5 h5 => ?_⟩)
  exact joinParts_nil (h _ _ _) (by rw [sizeLine_eq]; omega)
end
section
variable {prog : Program} {w : World} {A : Around} {E : Value → Shared → Prop} {h : Heap} {g : Array GenState} {d : Drawn} {t : Nat} {os : OsState}
variable {nm q : Str} {C N : Addr} {bs bm : List Value} {hdct : Bool} {sn : List Str} {sub : List Value} {ab : Bool} {col : Option Bool} {dd : Option Addr} {k0 k1 k2 k3 k5 : Option Value}
/-- the bound ValueError.__init__ is called -/
theorem call_bound {u e t0 : Addr} {rest : List Value} {Q : Value → Shared → Prop}
    (hC : h.get? C = some (excClassObj nm q C N bs bm hdct sn sub ab col dd k0 k1 k2 k3 k5 "ValueError.__new__")) (he : h.get? e = some (excO C t0)) (hu : h.get? u = some (kxs_mw "ValueError.__init__" e)) (hrest : rest.length ≤ sizeLine)
    (hq : ∀ h' t1, (∀ b o, b ≠ e → h.get? b = some o → h'.get? b = some o) → h'.get? e = some (excO C t1) → Q .none ⟨h', g, d, t, os⟩) :
    wpAny (model prog w) A (call (.ref u) rest) Q E ⟨h, g, d, t, os⟩ := by
  refine wpAny_call (codeAny_of_tree ?_)
  show wpAny _ A.in1 (callAny (.ref u) ⟨rest, []⟩) _ _ _
  simp only [callAny]
  refine wpAny_bind (wpAny_load hu ?_)
  simp only [kxs_mw, show (Value.type "method-wrapper" == Value.type "method" || Value.type "method-wrapper" == Value.type "builtin_function_or_method" || Value.type "method-wrapper" == Value.type "method-wrapper") = true by decide, if_true]
  refine KFB.if_so (by decide) ?_
  refine wpAny_bind (check_bound_init F.excBase_ValueError.toExcCallFacts hC he rfl ?_)
  refine wpAny_bind (wpAny_pure (wpAny_pure ?_))
  refine ⟨plainId_quiet F.excBase_ValueError.init.plain _, codeAny_builtin F.excBase_ValueError.initEntry ?_⟩
  exact exc_init_tree (cls := .ref C) (t0 := t0) (dv := none) (c2 := .none) (c3 := .none) (b4 := .bool false) he hrest fun h' k e' _ => hq h' _ k e'
end
theorem call_line {o : Expr} {name : Str} {apos pos : Pos} {e : Expr} {env : Env} (hl : (apos.endLine == pos.line) = true) (he : starEach [e] env = [(false, eval e env)]) : eval (.Call (.Attribute o name apos) [e] [] pos) env = (do
    let ov ← attributeBase o name env (eval o env)
    standAt apos.atName
    let (f, first) ← holding [ov] (getMethod ov name (do return (← importBound o env).getD true))
    callWith pos f first (backTo pos (starEach [e] env)) []) := by
  have hpos : methodCallPos true o env apos pos = pure pos := by
    unfold methodCallPos
    simp only [hl, Bool.not_true, Bool.or_true, if_true]
  have e1 : methodCallForm ([e].length + ([] : List Keyword).length) (backTo pos (starEach [e] env)) (backToKw pos (keywordEach [] env)) = true := by
    rw [he]
    rfl
  rw [arm_eval_Call]
  unfold methodCall
  simp only [e1, hpos, pure_bind]
  rfl
/-- what __init__ leaves of a fresh Full at x -/
structure InitEnd (h h' : Heap) (x C dx t1 : Addr) (vn vk : Value) : Prop where
  keep : ∀ b o, b ≠ x → h.get? b = some o → h'.get? b = some o
  obj : h'.get? x = some { cls := .ref C, dict := some dx, data := .fields #[.ref t1, .none, .none, .none, .bool false, .none] }
  dbig : h.objs.size ≤ dx
  dne : dx ≠ x
  ns : h'.Ns1 dx (fun y => if y = "kind" then some vk else if y = "night" then some vn else none)
section
variable {prog : Program} {w : World} {A : Around} {E : Value → Shared → Prop} {R : Result → Shared → Prop} {s : Shared} {K : Frag} {mg mb : Str → Option Value} {C fI : Addr}
theorem full_init (T : FullTxt prog K mg C fI) {x t0 : Addr} {vn vk : Value} (sn : Shown vn) (sk : Shown vk) (X : K.In s.heap) (hg : s.heap.Ns mainGlobals mg) (hb : s.heap.Ns builtinsNs mb) (hsu : mb "super" = some (.type "super"))
    (hlim : s.heap.NoLimit) (hx : s.heap.get? x = some (excO C t0)) (hnx : K.lookup x = none) (hroom : A.depth < recursionLimit)
    (hq : ∀ h' tk dx t1, InitEnd s.heap h' x C dx t1 vn vk → R (.ok (.ret .none)) { s with heap := h', toks := tk }) :
    codeAny (model prog w) A (.call (.ref fI) ⟨[.ref x, vn, vk], []⟩) R s := by
  obtain ⟨oc, od, doc, pm, an, cda, ct, osl, p1, p2, p3, B, cc, ccl, cl, cdd, cld, vs, ccs, csl, file, tf, ho, hcd, hcode, hvs, hfile, hcell, hline⟩ := T.fn
  obtain ⟨nm, q, N, bs, I, sn', sub, ab, col, dd, k0, k1, k2, k3, k5, hC, hal⟩ := T.cls
  have hbm : refsVE (bmF I) = true := by rfl
  have hcl : clsIn K C = some { name := nm, bases := bs, mro := .ref C :: bmF I, ns := N, qualname := q, hasDict := true, slotNames := sn', subclasses := sub, abstract := ab, collection := col, hasDel := false } := by unfold clsIn; rw [hC] <;> rfl
  have hxC : x ≠ C := fun z => by rw [z, hC] at hnx; cases hnx
  refine ks_codeAny_call_defAt (fd := ksFn "__init__" "Full.__init__" (iA p1 p2 p3) (iB B) iS .none .none doc pm an (.ref cda) ct cc) (body := iB B) (binds := [("self", .ref x), ("night", vn), ("kind", vk)]) hroom (X _ _ ho) rfl hlim (codeRec_of X hcd) rfl
    (BindsTo.of_eq (by first | rfl | with_unfolding_all rfl)) (by show ∀ x ∈ iS.names, x.2 ≠ .cell; decide) (locs rfl) (fun h₁ hn hk => ?_) rfl rfl rfl
  obtain ⟨hp, g, d, tk, os⟩ := s
  have X₁ : K.In h₁ := X.keeps hk
  have hx₁ := hk _ _ hx
  have hC₁ := X₁ _ _ hC
  have zL : hp.objs.size < h₁.objs.size := by
    obtain ⟨oL, es, ep, hL, _⟩ := hn
    exact Heap.lt_size hL
  show _root_.PySem.wpAt _ (A.deeper (ksEnv "Full.__init__" iS hp.objs.size fI (.ref cda) cc)) (.func (iB B) (ksEnv "Full.__init__" iS hp.objs.size fI (.ref cda) cc)) (execs (iB B) (ksEnv "Full.__init__" iS hp.objs.size fI (.ref cda) cc)) _ _ _
  refine ks_wpAt_execs_cons (ks_wpAt_Expr_any ?_)
  refine ks_wpAt_MethodCall ?_ (call_line hline rfl)
  refine ks_wpAt_super_base (by rfl) (by rfl) rfl rfl (X₁ _ _ ho) rfl rfl rfl (X₁ _ _ hcode) rfl hvs hfile T.top ?_
  refine ks_loadName_global rfl (by rfl) (loadGlobal_builtin (hg.keeps hk) T.sup (hb.keeps hk) hsu ⟨rfl, ?_⟩)
  refine wpAny_loadName_free rfl (by rfl) (by rfl) ⟨_, X₁ _ _ hcell, rfl⟩ ?_
  refine wpAny_loadName_local rfl (by rfl) hn (by first | rfl | with_unfolding_all rfl | kernel_rfl) ?_
  refine ks_wpAny_isType_cls hC₁ rfl ⟨rfl, ?_⟩
  refine ks_wpAny_call_super hC₁ rfl hx₁ rfl (fun c e => nomatch e) (looks_mroIn X₁ (by
    unfold mroIn
    rw [hcl]
    show some ((Value.ref C :: bmF I).contains (.ref C)) = some true
    simp)) (fun h₂ e₂ k₂ => ?_)
  have X₂ : K.In h₂ := X₁.keeps k₂
  have hx₂ := k₂ _ _ hx₁
  have I₂ : InstAt h₂ x (excO C t0) C none := ⟨hx₂, rfl, rfl, trivial⟩
  refine kxs_getMethod kxs_ValueError e₂ (looks_opaque X₂ T.opq) (l₀ := .ref C :: bmF I) (l := bmF I) ((looks_clsIn X₂ hcl).andThen .now) ?_ X₂ hal (I₂.type.andThen (looks_subIn X₂ T.veC)) hxC (by decide) ?_
  · show List.drop 1 (List.dropWhile (fun z => z != Value.ref C) (Value.ref C :: bmF I)) = bmF I
    rw [List.dropWhile_cons]
    simp
  have k₃ : ∀ b o, h₂.get? b = some o → (h₂.push (kxs_mw "ValueError.__init__" x)).get? b = some o := fun b o e => Heap.get?_push_of_some _ e
  have hu : (h₂.push (kxs_mw "ValueError.__init__" x)).get? h₂.objs.size = some (kxs_mw "ValueError.__init__" x) := Heap.get?_push_at rfl rfl
  refine kxs_callWith (i := "ValueError.__init__") (x := x) rfl (evalArgs_plain ?_)
  have hn₃ : (h₂.push (kxs_mw "ValueError.__init__" x)).Ns hp.objs.size _ := (hn.keeps k₂).keeps k₃
  refine Calls.spliced_cons (text_ok (p8 := B.k) hn₃ (by first | rfl | with_unfolding_all rfl | kernel_rfl) (by first | rfl | with_unfolding_all rfl | kernel_rfl) sn sk fun y t₄ tk₄ => Calls.spliced_nil ?_)
  refine ⟨hu, ?_⟩
  refine call_bound (k₃ _ _ (k₂ _ _ hC₁)) (k₃ _ _ hx₂) hu (by rw [sizeLine_eq]; show 1 ≤ 16777216; decide) fun h₅ t1 k₅ hx₅ => ?_
  have hLx : hp.objs.size ≠ x := Nat.ne_of_gt (Heap.lt_size hx)
  have hxh : x < hp.objs.size := Heap.lt_size hx
  have X₅ : K.In h₅ := fun a o e => k₅ a o (fun z => by rw [z, hnx] at e; cases e) (k₃ _ _ (X₂ _ _ e))
  have hn₅ : h₅.Ns hp.objs.size (fun x_1 => List.lookup x_1 [(Str.ofString "self", Value.ref x), (Str.ofString "night", vn), (Str.ofString "kind", vk)].reverse) := by
    obtain ⟨oL, es, ep, hL, r⟩ := hn₃
    exact ⟨oL, es, ep, k₅ _ _ hLx hL, r⟩
  refine wpAt_of_wpAny (wpAny_execs_cons (plainObj_wpAny_Assign_Attribute ?_))
  refine ldK hn₅ (by first | rfl | with_unfolding_all rfl | kernel_rfl) (ldK (v := .ref x) hn₅ (by first | rfl | with_unfolding_all rfl | kernel_rfl) ?_)
  refine set_plain X₅ (ox := excO C t1) (od := none) ⟨hx₅, rfl, rfl, trivial⟩ T.sa ?_
  refine exc_osa X₅ hx₅ hcl hbm rfl T.noN (fun h₆ tk₆ dx k₆ dn dne hx₆ hn₆ => ?_)
  have X₆ : K.In h₆ := fun a o e => k₆ a o (fun z => by rw [z, hnx] at e; cases e) (X₅ _ _ e)
  have hn₆' : h₆.Ns hp.objs.size (fun x_1 => List.lookup x_1 [(Str.ofString "self", Value.ref x), (Str.ofString "night", vn), (Str.ofString "kind", vk)].reverse) := by
    obtain ⟨oL, es, ep, hL, r⟩ := hn₅
    exact ⟨oL, es, ep, k₆ _ _ hLx hL, r⟩
  refine wpAny_execs_cons (plainObj_wpAny_Assign_Attribute ?_)
  refine ldK hn₆' (by first | rfl | with_unfolding_all rfl | kernel_rfl) (ldK (v := .ref x) hn₆' (by first | rfl | with_unfolding_all rfl | kernel_rfl) ?_)
  have hw : Within (fun y : Str => if y = "night" then some vn else none) ["night"] := fun y hy => by
    by_cases z : y = "night"
    · rw [z]
      exact List.mem_cons_self ..
    · exact absurd (if_neg z) hy
  obtain ⟨oD, _, _, hoD, _, _⟩ := hn₆.count hw
  refine set_plain X₆ (ox := { cls := .ref C, dict := some dx, data := .fields #[.ref t1, .none, .none, .none, .bool false, .none] }) (od := some oD) ⟨hx₆, rfl, rfl, hoD⟩ T.sa ?_
  refine PySem.OEX.osa_old X₆ hx₆ hn₆ hw (by decide) hcl hbm rfl T.noK (fun h₇ tk₇ k₇ hn₇ => ?_)
  have dbig : hp.objs.size ≤ dx := by
    have z5 : hp.objs.size < h₅.objs.size := by
      obtain ⟨oL, es, ep, hL, _⟩ := hn₅
      exact Heap.lt_size hL
    have dn' : h₅.objs.size ≤ dx := dn
    exact Nat.le_trans (Nat.le_of_lt z5) dn'
  refine wpAny_execs_nil (hq h₇ tk₇ dx t1 ⟨fun b o hb e => ?_, ?_, dbig, dne, hn₇⟩)
  · refine k₇ b o (fun z => ?_) (k₆ b o hb (k₅ b o hb (k₃ _ _ (k₂ _ _ (hk b o e)))))
    have z2 : b < hp.objs.size := Heap.lt_size (show hp.get? b = some o from e)
    rw [z] at z2
    exact absurd (Nat.lt_of_lt_of_le z2 dbig) (Nat.lt_irrefl _)
  · exact k₇ _ _ (Ne.symm dne) hx₆
/-- a made Full -/
structure OwnMade (h h' : Heap) (e C d : Addr) (vn vk : Value) : Prop where
  keep : ∀ b o, h.get? b = some o → h'.get? b = some o
  new : h.objs.size ≤ e
  obj : ∃ oe vs, h'.get? e = some oe ∧ oe.cls = .ref C ∧ oe.dict = some d ∧ oe.data = .fields vs ∧ vs[1]? = some .none ∧ vs[2]? = some .none
  dbig : h.objs.size ≤ d
  dne : d ≠ e
  ns : h'.Ns1 d (fun y => if y = "kind" then some vk else if y = "night" then some vn else none)
theorem two_size (a b : Value) : [a, b].length ≤ sizeLine := by
  rw [sizeLine_eq]
  exact (by decide : 2 ≤ 16777216)
theorem full_made (T : FullTxt prog K mg C fI) {vn vk : Value} (sn : Shown vn) (sk : Shown vk) (X : K.In s.heap) (hg : s.heap.Ns mainGlobals mg) (hb : s.heap.Ns builtinsNs mb) (hsu : mb "super" = some (.type "super")) (hlim : s.heap.NoLimit) (hroom : A.depth + 1 < recursionLimit)
    (hq : ∀ h' tk e d, OwnMade s.heap h' e C d vn vk → R (.ok (.ret (.ref e))) { s with heap := h', toks := tk }) :
    codeAny (model prog w) A (.call (.ref C) ⟨[vn, vk], []⟩) R s := by
  obtain ⟨nm, q, N, bs, I, sn', sub, ab, col, dd, k0, k1, k2, k3, k5, hC, hal⟩ := T.cls
  have hbm : refsVE (bmF I) = true := by rfl
  obtain ⟨hp, g, dr, tk, os⟩ := s
  have k : ∀ b o, hp.get? b = some o → ((hp.push (kdv_tup [vn, vk])).push (excO C hp.objs.size)).get? b = some o := fun b o e => Heap.get?_push_of_some _ (Heap.get?_push_of_some _ e)
  have hget : ((hp.push (kdv_tup [vn, vk])).push (excO C hp.objs.size)).get? (hp.objs.size + 1) = some (excO C hp.objs.size) := by heap_get
  have hnx : K.lookup (hp.objs.size + 1) = none := by
    cases e : K.lookup (hp.objs.size + 1) with
    | none => rfl
    | some o =>
      have z : hp.get? (hp.objs.size + 1) = some o := X _ _ e
      exact absurd (Nat.lt_of_succ_lt (Heap.lt_size z)) (Nat.lt_irrefl _)
  refine call_own F.excBase_ValueError (fun X => refsVE_contains X (bmF I) hbm) (X _ _ hC) (looks_findIn X T.iC) (fun self => bind_fn X self T.tC) (two_size vn vk) ?_
  refine full_init (s := ⟨(hp.push (kdv_tup [vn, vk])).push (excO C hp.objs.size), g, dr, tk, os⟩) T sn sk (X.keeps k) (hg.keeps k) (hb.keeps k) hsu (hlim.keeps k) hget hnx ?_ fun h' tk' dx t1 ⟨k', hx, dn, dne, hns⟩ => ?_
  · show A.depth + 1 < recursionLimit
    exact hroom
  · have old : ∀ b o, hp.get? b = some o → h'.get? b = some o := fun b o e => k' b o (Nat.ne_of_lt (Nat.lt_succ_of_lt (Heap.lt_size e))) (k b o e)
    have z : hp.objs.size + 1 + 1 ≤ dx := by
      first
        | (simpa only [Heap.size_push] using dn)
        | exact dn
        | (have q := dn; rw [Heap.size_push, Heap.size_push] at q; exact q)
    exact ⟨rfl, hq h' tk' (hp.objs.size + 1) dx ⟨old, Nat.le_succ _, ⟨_, _, hx, rfl, rfl, rfl, rfl, rfl⟩, Nat.le_trans (Nat.le_trans (Nat.le_succ _) (Nat.le_succ _)) z, dne, hns⟩⟩
end
end FullX
end PySem
namespace L2
open PySem PySem.Spec PyProof.Rows
def ShownV (v : V) : Prop := v = .non ∨ ∃ a : Nat, v = .int (a : Int) ∧ a < 100
theorem shown_of {v : V} {u : Value} (r : RelV v u) (h : ShownV v) : PySem.FullX.Shown u := by
  rcases h with rfl | ⟨a, rfl, ha⟩
  · exact .inl r
  · obtain ⟨t, rfl⟩ := r
    exact .inr ⟨a, t, rfl, ha⟩
def fullD (vn vk : V) : List (Str × V) := [("kind", vk), ("night", vn)]
theorem relO_full {vn vk : V} {un uk : Value} (rn : RelV vn un) (rk : RelV vk uk) (f : Str) : RelO ((fullD vn vk).lookup f) (if f = "kind" then some uk else if f = "night" then some un else none) := by
  unfold fullD
  rw [lookup_put, lookup_put]
  by_cases hk : f = "kind"
  · rw [if_pos hk, if_pos hk]
    exact rk
  · rw [if_neg hk, if_neg hk]
    by_cases hn : f = "night"
    · rw [if_pos hn, if_pos hn]
      exact rn
    · rw [if_neg hn, if_neg hn]
      trivial
section
variable {X : Cx} {C fI : Addr}
/-- Full(night, kind) -/
def tMkFull (C : Addr) (ta : TA) : St → Hp → XK → Prop := fun σ H Q => ta σ H fun vs H1 => ∃ vn vk, vs = [vn, vk] ∧ ShownV vn ∧ ShownV vk ∧ ∀ d, H1 d = none → Q (.ref C) (some d) (upd H1 d (.xd (fullD vn vk)))
theorem pmk_full {a b : Expr} {ta : TA} {p pos : Pos} {k : Nat} (T : PySem.FullX.FullTxt X.prog X.K X.mg C fI) (hr : Room k X.A) (ha : PA X [a, b] ta) (hg : Gl X "Full" := by rfl)
    (he : starEach (a :: [b]) X.env = (false, eval a X.env) :: starEach [b] X.env := by rfl) (hpl : (backTo pos (starEach [b] X.env)).any (·.1) = false := by rfl) :
    L2N.PMk X (.Call (.Name "Full" p) [a, b] [] pos) (tMkFull C ta) := by
  intro pins s σ H Q I h
  refine wpAny_Call_Name_kw (ld_glob I hg T.gC ?_)
  refine PySem.W.callWith_K (h₀ := X.base) I.ok.mod.kin T.kC (thn (ha.run pos pins s σ H _ I h) fun us s1 hh => ?_) he hpl
  obtain ⟨vs, H1, I1, r1, vn, vk, ev, sn, sk, q1⟩ := hh
  subst ev
  refine ⟨I1.kIn, ?_⟩
  cases r1 with
  | cons rv rn =>
    rename_i un us'
    cases rn with
    | cons rk rn =>
      rename_i uk us2
      cases rn
      show wpAny _ _ (call (.ref C) [un, uk]) _ _ _
      have hlim := I1.nolimit
      have keep : ∀ b o, X.base.get? b = some o → s1.heap.get? b = some o := fun b o e => (I1.bs b o e).1
      have hgl := I1.ok.mod.glob.keeps keep
      obtain ⟨mb, hb0, hmb⟩ := I1.ok.mod.blt
      have hbl := hb0.keeps keep
      have hsu : mb "super" = some (.type "super") := (hmb _ (by decide)).trans (by first | boot_by_name | rfl | kernel_rfl)
      have kIn := I1.kIn
      obtain ⟨hp, g, dr, tk, os⟩ := s1
      refine wpAny_call (PySem.FullX.full_made T (shown_of rv sn) (shown_of rk sk) kIn hgl hbl hsu hlim (by have := hr.dp; omega) fun h' tk' e d M => ?_)
      show L2N.MkP X pins σ Q (.ref e) ⟨h', g, dr, tk', os⟩
      obtain ⟨oe, fv, hoe, hc, hd, hdat, h1, h2⟩ := M.obj
      have hns := M.ns
      obtain ⟨G', g1, g2⟩ := restrict h' fun b => decide (b ≠ e)
      have gk : ∀ b, b ≠ e → G'.get? b = h'.get? b := fun b hb => g1 b (decide_eq_true hb)
      have ge : G'.get? e = none := g2 e (by simp)
      have old : ∀ b o, hp.get? b = some o → G'.get? b = some o := fun b o q => (gk b (Nat.ne_of_lt (Nat.lt_of_lt_of_le (Heap.lt_size q) M.new))).trans (M.keep b o q)
      have ob : ObjOk X.prog X.w (upd H1 d (.xd (fullD vn vk))) G' d (.xd (fullD vn vk)) :=
        ⟨_, hns.at (fun o q => (gk d M.dne).trans q), fun f => relO_full rv rk f⟩
      have J : Inv X pins σ (upd H1 d (.xd (fullD vn vk))) ⟨G', g, dr, tk', os⟩ := I1.laid (t' := tk') old M.dbig ob
      refine ⟨e, oe, fv, ⟨G', g, dr, tk', os⟩, _, .ref C, some d, rfl, J, fun b o q => ?_, ge, hoe, ⟨hc, hd, fun vs e => by rw [hdat] at e; cases e; exact h2⟩, hdat, h1, ?_, rfl, I1.bare, raises_own T.exC T.tyC, q1 d (I1.hok.fresh M.dbig)⟩
      · by_cases hb : b = e
        · have q' : G'.get? b = some o := q
          rw [hb, ge] at q'
          cases q'
        · exact (gk b hb).symm.trans q
      · rw [upd_ne (Ne.symm M.dne)]
        exact I1.hok.fresh M.new
end
end L2

namespace L2
open PySem PySem.Spec PyProof.Rows
/-- what a class of exceptions must say for isinstance -/
structure ExcI (K : PySem.W.Frag) (C : Addr) : Prop where
  hcl : (PySem.W.clsIn K C).isSome = true
  hga : PySem.W.findIn K (.ref C) "__getattribute__" = some (some (.builtin "BaseException.__getattribute__"))
  hgt : PySem.W.findIn K (.ref C) "__getattr__" = some none
  hsub : PySem.W.subIn K (.ref C) (.type "BaseException") = some true
  ha : PySem.W.findIn K (.ref C) "__class__" = some (some (.builtin "object.__class__"))
  hn : PySem.W.specialIn K (.builtin "object.__class__") "__get__" = some (some (.builtin "getset_descriptor.__get__"))
  htk : PySem.W.takesIn K (.builtin "object.__class__") = some true
  hm : PySem.W.mroIn K C (.type "object") = some true
/-- isinstance(e, c), e the exception that the suite holds at a -/
def rIsP (K : PySem.W.Frag) (a : Addr) (cls : Value) (d : Option Addr) : List V → Hp → VK → Prop := fun xs H Q => ∃ (C : Addr) (c : V) (u : Value) (b : Bool), xs = [.ref a, c] ∧ ClsV c u ∧ ExcI K C ∧ cls = .ref C ∧ (∀ dd, d = some dd → ∃ fs, H dd = some (.xd fs)) ∧ PySem.W.kitOne K (.ref C) u = some b ∧ Q (.bl b) H
theorem call_isP {X : Cx} {a : Addr} {oe : Obj} {cls : Value} {d : Option Addr} (hp : (a, oe) ∈ X.pn) (hz : Zc cls d oe) (hf : ∃ fs, oe.data = .fields fs) : CallR X (.builtin "isinstance") (rIsP X.K a cls d) := by
  intro pins s σ H xs us Q I r h
  obtain ⟨C, c, u, b, rfl, k, T, ec, hdd, e, q⟩ := h
  obtain ⟨u1, u2, rfl, r1, r2⟩ := vals2 r
  have e2 := k.eq r2
  subst e2
  cases (show u1 = Value.ref a from r1)
  obtain ⟨hget, _⟩ := I.pin (a, oe) (List.mem_append_left _ hp)
  obtain ⟨vs, hd⟩ := hf
  have hc : oe.cls = .ref C := hz.1.trans ec
  obtain ⟨od, J⟩ : ∃ od, PySem.W.InstAt s.heap a oe C od := by
    cases hy : oe.dict with
    | none => exact ⟨none, hget, hc, by unfold PySem.W.notCls; rw [hd] <;> rfl, by rw [hy]; trivial⟩
    | some dd =>
      obtain ⟨fs, hx⟩ := hdd dd (hz.2.symm.trans hy)
      have y : ObjOk X.prog X.w H s.heap dd (.xd fs) := I.hok dd _ hx
      obtain ⟨mA, ⟨o, _, _, ho, _⟩, _⟩ := y
      exact ⟨some o, hget, hc, by unfold PySem.W.notCls; rw [hd] <;> rfl, by rw [hy]; exact ho⟩
  exact PySem.W.kia_one (PySem.W.kitx_exc T.hcl T.hga T.hgt T.hsub T.ha T.hn T.htk T.hm) I.kIn J e (fun z => nomatch z) fun tk => ⟨.bl b, H, I.kept (t' := tk) fun _ _ z => z, rfl, q⟩
end L2

namespace Ik
open PySem PySem.Spec PyProof.Rows L2 Evl

/-! ### calls of own defs -/
structure Cal (P : Program) (w : World) (K : PySem.W.Frag) (mg : Str → Option Value) (base : Heap) (x : Str) (k : Nat) (ps : List Str) (sp : Sp) : Prop where
  ex : ∃ (f : Addr) (fd : FuncData), FnOk P w K mg base CX0 k f fd ps sp ∧ mg x = some (.ref f) ∧ PySem.W.keepIn K (.ref f) = true ∧ Binds K fd ps []
theorem pe_cal {X : Cx} {x : Str} {k : Nat} {ps : List Str} {sp : Sp} {e : Expr} {es : List Expr} {t : TA} {p pos : Pos} (C : Cal X.prog X.w X.K X.mg X.base x k ps sp) (hr : Room k X.A) (hg : Gl X x) (ha : PA X (e :: es) t)
    (hdb : (x == ("__debug__" : Str)) = false := by decide) (he : starEach (e :: es) X.env = (false, eval e X.env) :: starEach es X.env := by rfl) (hpl : (backTo pos (starEach es X.env)).any (·.1) = false := by rfl) :
    PE X (.Call (.Name x p) (e :: es) [] pos) (tCall sp [] E0 t) := by
  obtain ⟨f, fd, F, hm, hk, hb⟩ := C.ex
  exact pe_call F hr hg hm hk hb .nil pass0 ha hdb he hpl

/-! ### what evaluates to something of which R tells: the value, the heap ahead, the heap behind -/
abbrev Rel := V → Hp → Hp → Prop
def EvR (te : TE) (σ : L2.St) (H : Hp) (R : Rel) : Prop := ∀ H1, Ex H H1 → ∀ Q : VK, (∀ v H2, Ex H1 H2 → R v H1 H2 → Q v H2) → te σ H1 Q
def SpR (sp : Sp) (vs : List V) (H : Hp) (R : Rel) : Prop := ∀ H1, Ex H H1 → ∀ Q : VK, (∀ v H2, Ex H1 H2 → R v H1 H2 → Q v H2) → ∀ E : XK, sp vs H1 Q E
section
variable {K : PySem.W.Frag} {σ : L2.St} {H H' : Hp} {ta tb tc te tx : TE} {t u : TT} {x y z v : V} {r r' : R2} {R : Rel}
theorem EvR.mono (e : Ex H H') (h : EvR te σ H R) : EvR te σ H' R := fun H1 a Q q => h H1 (e.trans a) Q q
theorem er_call {sp : Sp} {dvs vs : List V} {E : XK} {ta : TA} (h : EvA ta σ H vs) (hs : SpR sp (vs ++ dvs) H (fun v _ H2 => R v H H2)) : EvR (tCall sp dvs E ta) σ H (fun v _ H2 => R v H H2) := fun H1 e Q q =>
  h H1 e _ fun H2 e2 => hs H2 (e.trans e2) Q (fun v H3 e3 r => q v H3 (e2.trans e3) r) E
theorem ev_call0 {sp : Sp} {vs : List V} {E : XK} {ta : TA} (h : EvA ta σ H vs) (hs : SpV sp vs H z) : Ev (tCall sp [] E ta) σ H z := ev_call h (by rw [List.append_nil]; exact hs)
theorem el_call0 {sp : Sp} {vs xs : List V} {E : XK} {ta : TA} (h : EvA ta σ H vs) (hs : SpL sp vs H xs) : EvL (tCall sp [] E ta) σ H xs := el_call h (by rw [List.append_nil]; exact hs)
theorem ea_1 (h : Ev ta σ H x) : EvA (tCons ta tNil) σ H [x] := ea_cons h ea_nil
theorem ea_2 (h : Ev ta σ H x) (h2 : Ev tb σ H y) : EvA (tCons ta (tCons tb tNil)) σ H [x, y] := ea_cons h (ea_1 h2)
theorem ea_3 (h : Ev ta σ H x) (h2 : Ev tb σ H y) (h3 : Ev tc σ H z) : EvA (tCons ta (tCons tb (tCons tc tNil))) σ H [x, y, z] := ea_cons h (ea_2 h2 h3)

/-! operators -/
theorem ev_add {i j : Int} (ha : Ev ta σ H (.int i)) (hb : Ev tb σ H (.int j)) : Ev (tOp (rI0 fun i j => .int (i + j)) ta tb) σ H (.int (i + j)) := ev_op ha hb (rv_I0 (g := fun i j => .int (i + j)))
theorem ev_sub {i j : Int} (ha : Ev ta σ H (.int i)) (hb : Ev tb σ H (.int j)) : Ev (tOp (rI0 fun i j => .int (i - j)) ta tb) σ H (.int (i - j)) := ev_op ha hb (rv_I0 (g := fun i j => .int (i - j)))
theorem ev_mulR {i j : Int} (ha : Ev ta σ H (.int i)) (hb : Ev tb σ H (.int j)) (h : -(2 ^ 64) < j ∧ j < 2 ^ 64) : Ev (tOp (rI CMul fun i j => .int (i * j)) ta tb) σ H (.int (i * j)) := ev_op ha hb (rv_I (g := fun i j => .int (i * j)) (.inr h))
theorem ev_mulL {i j : Int} (ha : Ev ta σ H (.int i)) (hb : Ev tb σ H (.int j)) (h : -(2 ^ 64) < i ∧ i < 2 ^ 64) : Ev (tOp (rI CMul fun i j => .int (i * j)) ta tb) σ H (.int (i * j)) := ev_op ha hb (rv_I (g := fun i j => .int (i * j)) (.inl h))
theorem ev_fdiv {i j : Int} (ha : Ev ta σ H (.int i)) (hb : Ev tb σ H (.int j)) (h : CDiv i j) : Ev (tOp (rI CDiv fun i j => .int (i / j)) ta tb) σ H (.int (i / j)) := ev_op ha hb (rv_I (g := fun i j => .int (i / j)) h)
theorem ev_mod {i j : Int} (ha : Ev ta σ H (.int i)) (hb : Ev tb σ H (.int j)) (h : 0 < j) : Ev (tOp (rI (fun _ j => 0 < j) fun i j => .int (i % j)) ta tb) σ H (.int (i % j)) := ev_op ha hb (rv_I (g := fun i j => .int (i % j)) h)
theorem ev_cmp {g : Int → Int → Bool} {i j : Int} (ha : Ev ta σ H (.int i)) (hb : Ev tb σ H (.int j)) : Ev (tOp (rI0 fun i j => .bl (g i j)) ta tb) σ H (.bl (g i j)) := ev_op ha hb (rv_I0 (g := fun i j => .bl (g i j)))
theorem ev_eqI {i j : Int} (ha : Ev ta σ H (.int i)) (hb : Ev tb σ H (.int j)) : Ev (tOp rEq ta tb) σ H (.bl (decide (i = j))) := by
  have h := ev_op ha hb (rv_eq (H := H) (x := .int i) (y := .int j) rfl)
  have e : decide (V.int i = V.int j) = decide (i = j) := by simp
  rw [e] at h
  exact h
theorem ev_neI {i j : Int} (ha : Ev ta σ H (.int i)) (hb : Ev tb σ H (.int j)) : Ev (tOp rNe ta tb) σ H (.bl (!decide (i = j))) := by
  have h := ev_op ha hb (rv_ne (H := H) (x := .int i) (y := .int j) rfl)
  have e : decide (V.int i = V.int j) = decide (i = j) := by simp
  rw [e] at h
  exact h
theorem ev_neg {i : Int} (ha : Ev ta σ H (.int i)) : Ev (tUn (rU fun i => .int (-i)) ta) σ H (.int (-i)) := ev_un ha ru_neg
theorem ev_pow {i j : Int} (ha : Ev ta σ H (.int i)) (hb : Ev tb σ H (.int j)) (h : CPow i j) : Ev (tOp (rI CPow fun i j => .int (i ^ j.toNat)) ta tb) σ H (.int (i ^ j.toNat)) := ev_op ha hb (rv_I (g := fun i j => .int (i ^ j.toNat)) h)
theorem ev_chain {b c : Bool} (ha : Ev ta σ H x) (hb : Ev tb σ H y) (hr : RV r x y H (.bl b)) (hc : b = true → Ev tc σ H z) (hr' : b = true → RV r' y z H (.bl c)) : Ev (tChain r r' ta tb tc) σ H (.bl (b && c)) := fun H1 e Q q =>
  ha H1 e _ fun H2 e2 => hb H2 (e.trans e2) _ fun H3 e3 => hr H3 ((e.trans e2).trans e3) _ fun H4 e4 => ⟨b, rfl, by
    have e14 := (e2.trans e3).trans e4
    cases b with
    | true =>
      show tc σ H4 _
      exact hc rfl H4 (e.trans e14) _ fun H5 e5 => hr' rfl H5 ((e.trans e14).trans e5) Q fun H6 e6 => q H6 ((e14.trans e5).trans e6)
    | false =>
      show Q (.bl false) H4
      exact q H4 e14⟩
/-- int comparisons twice -/
theorem ev_chainI {g g' : Int → Int → Bool} {i j k : Int} (ha : Ev ta σ H (.int i)) (hb : Ev tb σ H (.int j)) (hc : Ev tc σ H (.int k)) : Ev (tChain (rI0 fun i j => .bl (g i j)) (rI0 fun i j => .bl (g' i j)) ta tb tc) σ H (.bl (g i j && g' j k)) :=
  ev_chain ha hb (rv_I0 (g := fun i j => .bl (g i j))) (fun _ => hc) (fun _ => rv_I0 (g := fun i j => .bl (g' i j)))
theorem ev_isN (ha : Ev ta σ H x) : Ev (tOp rIsN ta (tC .non)) σ H (.bl (decide (x = .non))) := ev_op ha ev_c fun H1 _ _ q => ⟨rfl, q H1 (Ex.refl H1)⟩
theorem ev_notN (ha : Ev ta σ H x) : Ev (tOp rNotN ta (tC .non)) σ H (.bl (!decide (x = .non))) := ev_op ha ev_c fun H1 _ _ q => ⟨rfl, q H1 (Ex.refl H1)⟩
theorem ev_isi {a b : String} {c : Bool} (ha : Ev ta σ H x) (ht : ∀ H1, Ex H H1 → TyX K H1 x (.type a)) (hk : kitB a b = some c) : Ev (tCB (rIsi K) (tCons ta (tCons (tC (.ty b)) tNil))) σ H (.bl c) :=
  ev_cb (ea_2 ha ev_c) fun H1 e _ q => ⟨x, .ty b, .type a, .type b, c, rfl, .ty b, ht H1 e, kit_ty hk, q H1 (Ex.refl H1)⟩
theorem ev_all {bs : List Bool} (ha : EvL ta σ H (bs.map V.bl)) : Ev (tCB (rAll K) (tCons ta tNil)) σ H (.bl (bs.all id)) := fun H1 e Q q =>
  ha H1 e _ fun p H2 _ e2 h2 => ⟨p, bs, rfl, sq_of h2, q H2 e2⟩
theorem ev_sum {p : Addr} {ns : List Int} (ha : Ev ta σ H (.ref p)) (h : SqL K H p (ns.map V.int)) : Ev (tCB (rSum K) (tCons ta tNil)) σ H (.int ns.sum) := fun H1 e Q q =>
  ha H1 e _ fun H2 e2 => ⟨p, ns, rfl, ex_l (e.trans e2) h, q H2 e2⟩
theorem ev_sumN {ns : List Int} (ha : EvL ta σ H (ns.map V.int)) : Ev (tCB (rSum K) (tCons ta tNil)) σ H (.int ns.sum) := fun H1 e Q q =>
  ha H1 e _ fun p H2 _ e2 h2 => ⟨p, ns, rfl, sq_of h2, q H2 e2⟩
theorem ev_abs {i : Int} (ha : Ev ta σ H (.int i)) : Ev (tCB (fun xs H Q => ∃ i, xs = [V.int i] ∧ Q (.int (if i < 0 then -i else i)) H) (tCons ta tNil)) σ H (.int (if i < 0 then -i else i)) :=
  ev_cb (ea_1 ha) fun H1 _ _ q => ⟨i, rfl, q H1 (Ex.refl H1)⟩
/-- len, as the list layer says it -/
theorem ev_len' {p : Addr} {xs : List V} (ha : Ev ta σ H (.ref p)) (h : SqL K H p xs) : Ev (tCB (rLenS K) (tCons ta tNil)) σ H (.int (xs.length : Int)) := fun H1 e Q q =>
  ha H1 e _ fun H2 e2 => ⟨p, xs, rfl, Or.inl (ex_l (e.trans e2) h), q H2 e2⟩
theorem ev_ixL {p : Addr} {xs : List V} {i : Int} (ha : Ev ta σ H (.ref p)) (hb : Ev tb σ H (.int i)) (h : SqL K H p xs) (hv : atI xs i = some v) : Ev (tOp (rIxL K) ta tb) σ H v := ev_op ha hb (rv_ixL h hv)
/-- an item of a new list -/
theorem ev_ixN {xs : List V} {i : Int} (ha : EvL ta σ H xs) (hb : Ev tb σ H (.int i)) (hv : atI xs i = some v) : Ev (tOp (rIxL K) ta tb) σ H v := ev_opL1 ha (fun H1 e => hb.mono e) fun _ _ hp _ => rv_ixL (sq_of hp) hv
theorem el_cat {p q : Addr} {xs ys : List V} (ha : Ev ta σ H (.ref p)) (hb : Ev tb σ H (.ref q)) (h : H p = some (.lst xs)) (h' : H q = some (.lst ys)) (hz : xs.length + ys.length ≤ sizeLine) : EvL (tOp rCat ta tb) σ H (xs ++ ys) := fun H1 e Q k =>
  ha H1 e _ fun H2 e2 => hb H2 (e.trans e2) _ fun H3 e3 => ⟨p, q, xs, ys, rfl, rfl, ((e.trans e2).trans e3) _ _ h, ((e.trans e2).trans e3) _ _ h', hz, fun l hl => k l _ (fresh_back (e2.trans e3) hl) ((e2.trans e3).trans (Ex.new hl)) upd_same⟩
theorem el_catN {p : Addr} {xs ys : List V} (ha : Ev ta σ H (.ref p)) (hb : EvL tb σ H ys) (h : H p = some (.lst xs)) (hz : xs.length + ys.length ≤ sizeLine) : EvL (tOp rCat ta tb) σ H (xs ++ ys) := fun H1 e Q k =>
  ha H1 e _ fun H2 e2 => hb H2 (e.trans e2) _ fun q H3 _ e3 hq => ⟨p, q, xs, ys, rfl, rfl, ((e.trans e2).trans e3) _ _ h, hq, hz, fun l hl => k l _ (fresh_back (e2.trans e3) hl) ((e2.trans e3).trans (Ex.new hl)) upd_same⟩
theorem el_repN {xs : List V} {n : Int} (ha : EvL ta σ H xs) (hb : Ev tb σ H (.int n)) (hn : -(2 ^ 63) ≤ n ∧ n < 2 ^ 63) (hz : xs.length * n.toNat ≤ sizeLine) : EvL (tOp rRep ta tb) σ H ((List.replicate n.toNat xs).flatten) := fun H1 e Q k =>
  ha H1 e _ fun p H2 _ e2 hp => hb H2 (e.trans e2) _ fun H3 e3 => ⟨p, n, xs, rfl, rfl, e3 p _ hp, hn.1, hn.2, hz, fun l hl => k l _ (fresh_back (e2.trans e3) hl) ((e2.trans e3).trans (Ex.new hl)) upd_same⟩
theorem el_is {xs ys : List V} (h : EvL te σ H xs) (e : xs = ys) : EvL te σ H ys := e ▸ h
theorem ev_of {te : TE} (h : Ev te σ H x) (e : x = y) : Ev te σ H y := e ▸ h
end
end Ik

namespace Ik
open PySem PySem.Spec PyProof.Rows L2 Evl
/-! ### == of lists of ints -/
theorem il_lay : ∀ ns : List Int, PyData.canLayAll0 (ns.map PyData.int) = true
  | [] => rfl
  | n :: r => by
    show (PyData.canLay0 (.int n) && PyData.canLayAll0 (r.map PyData.int)) = true
    rw [il_lay r]
    rfl
theorem il_depth : ∀ ns : List Int, PyData.depthAll (ns.map PyData.int) = 0
  | [] => rfl
  | n :: r => by
    show max (PyData.depth (.int n)) (PyData.depthAll (r.map PyData.int)) = 0
    rw [il_depth r]
    rfl
theorem il_shaped (ns : List Int) : SeqAt.shaped (.list (ns.map PyData.int)) = true := by
  unfold SeqAt.shaped
  rw [show PyData.canLay0 (.list (ns.map PyData.int)) = PyData.canLayAll0 (ns.map PyData.int) from rfl, il_lay, show PyData.depth (.list (ns.map PyData.int)) = PyData.depthAll (ns.map PyData.int) + 1 from rfl, il_depth]
  decide
theorem il_eqvAll : ∀ ns ms : List Int, PyData.eqvAll (ns.map PyData.int) (ms.map PyData.int) = decide (ns = ms)
  | [], [] => by simp [PyData.eqvAll]
  | [], m :: r => by simp [PyData.eqvAll]
  | n :: r, [] => by simp [PyData.eqvAll]
  | n :: r, m :: q => by
    show (PyData.eqv (.int n) (.int m) && PyData.eqvAll (r.map PyData.int) (q.map PyData.int)) = _
    rw [il_eqvAll r q]
    show ((n == m) && decide (r = q)) = decide (n :: r = m :: q)
    by_cases h1 : n = m <;> by_cases h2 : r = q <;> simp [h1, h2]
theorem il_eqv (ns ms : List Int) : PyData.eqv (.list (ns.map PyData.int)) (.list (ms.map PyData.int)) = decide (ns = ms) := il_eqvAll ns ms
theorem il_all {K : PySem.W.Frag} {H : Hp} : ∀ ns : List Int, DpAll K H (ns.map V.int) (ns.map PyData.int)
  | [] => .nil
  | n :: r => .cons (.int n) (il_all r)
theorem il_dp {K : PySem.W.Frag} {H : Hp} {a : Addr} {ns : List Int} (h : SqL K H a (ns.map V.int)) : Dp K H (.ref a) (.list (ns.map PyData.int)) := .lst h (il_all ns)
section
variable {K : PySem.W.Frag} {σ : L2.St} {H H' : Hp} {ta tb tc te tl : TE} {t u : TT} {x y z v : V} {R : Rel} {ns ms : List Int} {p q : Addr}
theorem rv_eqIL (h1 : SqL K H p (ns.map V.int)) (h2 : SqL K H q (ms.map V.int)) : RV (rEqD K) (.ref p) (.ref q) H (.bl (decide (ns = ms))) := fun H1 e Q k =>
  ⟨_, _, il_dp (ex_l e h1), il_dp (ex_l e h2), il_shaped _, il_shaped _, by rw [il_eqv]; exact k H1 (Ex.refl H1)⟩
theorem rv_neIL (h1 : SqL K H p (ns.map V.int)) (h2 : SqL K H q (ms.map V.int)) : RV (rNeD K) (.ref p) (.ref q) H (.bl (!decide (ns = ms))) := fun H1 e Q k =>
  ⟨_, _, il_dp (ex_l e h1), il_dp (ex_l e h2), il_shaped _, il_shaped _, by rw [il_eqv]; exact k H1 (Ex.refl H1)⟩
/-- two lists that stand | the second one new | both new -/
theorem ev_eqIL (ha : Ev ta σ H (.ref p)) (hb : Ev tb σ H (.ref q)) (h1 : SqL K H p (ns.map V.int)) (h2 : SqL K H q (ms.map V.int)) : Ev (tOp (rEqD K) ta tb) σ H (.bl (decide (ns = ms))) := ev_op ha hb (rv_eqIL h1 h2)
theorem ev_neIL (ha : Ev ta σ H (.ref p)) (hb : Ev tb σ H (.ref q)) (h1 : SqL K H p (ns.map V.int)) (h2 : SqL K H q (ms.map V.int)) : Ev (tOp (rNeD K) ta tb) σ H (.bl (!decide (ns = ms))) := ev_op ha hb (rv_neIL h1 h2)
theorem ev_eqIN (ha : Ev ta σ H (.ref p)) (hb : EvL tb σ H (ms.map V.int)) (h1 : SqL K H p (ns.map V.int)) : Ev (tOp (rEqD K) ta tb) σ H (.bl (decide (ns = ms))) := ev_opL ha hb fun _ _ hq e => rv_eqIL (ex_l e h1) (sq_of hq)
theorem ev_neIN (ha : Ev ta σ H (.ref p)) (hb : EvL tb σ H (ms.map V.int)) (h1 : SqL K H p (ns.map V.int)) : Ev (tOp (rNeD K) ta tb) σ H (.bl (!decide (ns = ms))) := ev_opL ha hb fun _ _ hq e => rv_neIL (ex_l e h1) (sq_of hq)
theorem ev_eqNI (ha : EvL ta σ H (ns.map V.int)) (hb : Ev tb σ H (.ref q)) (h2 : SqL K H q (ms.map V.int)) : Ev (tOp (rEqD K) ta tb) σ H (.bl (decide (ns = ms))) := ev_opL1 ha (fun _ e => hb.mono e) fun _ _ hp e => rv_eqIL (sq_of hp) (ex_l e h2)
theorem ev_neNI (ha : EvL ta σ H (ns.map V.int)) (hb : Ev tb σ H (.ref q)) (h2 : SqL K H q (ms.map V.int)) : Ev (tOp (rNeD K) ta tb) σ H (.bl (!decide (ns = ms))) := ev_opL1 ha (fun _ e => hb.mono e) fun _ _ hp e => rv_neIL (sq_of hp) (ex_l e h2)
theorem ev_eqNN (ha : EvL ta σ H (ns.map V.int)) (hb : EvL tb σ H (ms.map V.int)) : Ev (tOp (rEqD K) ta tb) σ H (.bl (decide (ns = ms))) := ev_opLL ha hb fun _ _ _ hp hq _ => rv_eqIL (sq_of hp) (sq_of hq)
theorem ev_neNN (ha : EvL ta σ H (ns.map V.int)) (hb : EvL tb σ H (ms.map V.int)) : Ev (tOp (rNeD K) ta tb) σ H (.bl (!decide (ns = ms))) := ev_opLL ha hb fun _ _ _ hp hq _ => rv_neIL (sq_of hp) (sq_of hq)

/-! ### comprehensions whose items are values -/
theorem et_yes : EvT tYes σ H true := fun H1 _ _ q => q H1 (Ex.refl H1)
theorem take_snoc {α : Type} {l : List α} {i : Nat} {x : α} (h : l[i]? = some x) : l.take (i + 1) = l.take i ++ [x] := by
  rw [List.take_add_one, h]
  rfl
def CwA {α : Type} (H : Hp) (l : List α) (f : α → Bool) (g : α → V) (Dl : Addr) (i : Nat) (H' : Hp) : Prop := H Dl = none ∧ Ex H H' ∧ H' Dl = some (.lst (((l.take i).filter f).map g))
theorem cwA_turn {α : Type} {l : List α} {f : α → Bool} {g : α → V} {Dl : Addr} {i : Nat} {x : α} {σ2 : L2.St} (p : CwA H l f g Dl i H') (hi : l[i]? = some x) (hz : l.length < 50000) (ht : EvT t σ2 H (f x)) (he : f x = true → Ev te σ2 H (g x)) :
    t σ2 H' fun b H3 => if b = true then te σ2 H3 fun y H4 => ∃ acc, H4 Dl = some (.lst acc) ∧ acc.length < sizeLine ∧ CwA H l f g Dl (i + 1) (upd H4 Dl (.lst (acc ++ [y]))) else CwA H l f g Dl (i + 1) H3 := by
  obtain ⟨p1, p2, p3⟩ := p
  have hlt : i < l.length := (List.getElem?_eq_some_iff.mp hi).1
  have hlen : (((l.take i).filter f).map g).length ≤ l.length := by
    rw [List.length_map]
    refine Nat.le_trans (List.length_filter_le _ _) ?_
    rw [List.length_take]
    omega
  refine ht H' p2 _ fun H3 e3 => ?_
  cases hf : f x with
  | true =>
    show te σ2 H3 fun y H4 => ∃ acc, H4 Dl = some (.lst acc) ∧ acc.length < sizeLine ∧ CwA H l f g Dl (i + 1) (upd H4 Dl (.lst (acc ++ [y])))
    refine he hf H3 (p2.trans e3) _ fun H4 e4 => ⟨_, e4 Dl _ (e3 Dl _ p3), sz_lt (by omega), p1, Ex.mut ((p2.trans e3).trans e4) p1, ?_⟩
    rw [upd_same, take_snoc hi, List.filter_append, List.map_append, List.filter_cons, if_pos hf]
    rfl
  | false =>
    show CwA H l f g Dl (i + 1) H3
    refine ⟨p1, p2.trans e3, ?_⟩
    rw [take_snoc hi, List.filter_append, List.map_append, List.filter_cons, if_neg (by rw [hf]; decide)]
    show H3 Dl = some (.lst (_ ++ []))
    rw [List.append_nil]
    exact e3 Dl _ p3
/-- over a list of enc of l's items -/
theorem el_lcA {α : Type} {a : Addr} {j : Nat} {vs : List Nat} (l : List α) (enc : α → V) (f : α → Bool) (g : α → V) (h : Ev tl σ H (.ref a)) (hx : SqL K H a (l.map enc)) (hz : l.length < 50000) (hw : ∀ x, wipe ((wipe σ vs).set j (some x)) vs = wipe σ vs)
    (ht : ∀ x ∈ l, ∀ H1, Ex H H1 → EvT t ((wipe σ vs).set j (some (enc x))) H1 (f x)) (he : ∀ x ∈ l, f x = true → ∀ H1, Ex H H1 → Ev te ((wipe σ vs).set j (some (enc x))) H1 (g x)) :
    EvL (tLc (iList K tl) (gName j) t te vs) σ H ((l.filter f).map g) := fun H0 e Q q => h H0 e _ fun H1 e1 => ⟨a, rfl, ⟨_, ex_l (e.trans e1) hx⟩, fun Dl hD =>
  lc_list (xs := l.map enc) (CwA H1 l f g Dl) ⟨hD, Ex.new hD, upd_same⟩ (fun i H' _ p => ex_l ((e.trans e1).trans p.2.1) hx) (fun i x H' hi p => by
    rw [List.getElem?_map] at hi
    cases hq : l[i]? with
    | none =>
      rw [hq] at hi
      cases hi
    | some b =>
      rw [hq] at hi
      have ex : enc b = x := Option.some.inj hi
      subst ex
      have hm : b ∈ l := List.mem_of_getElem? hq
      exact ⟨hw _, cwA_turn p hq hz (ht b hm H1 (e.trans e1)) (fun hf => he b hm hf H1 (e.trans e1))⟩)
    (fun H' p => by
      have p3 := p.2.2
      rw [List.length_map, List.take_length] at p3
      exact q Dl H' (fresh_back e1 p.1) (e1.trans p.2.1) p3)⟩
/-- over a new list -/
theorem el_lcNA {α : Type} {j : Nat} {vs : List Nat} (l : List α) (enc : α → V) (f : α → Bool) (g : α → V) (h : EvL tl σ H (l.map enc)) (hz : l.length < 50000) (hw : ∀ x, wipe ((wipe σ vs).set j (some x)) vs = wipe σ vs)
    (ht : ∀ x ∈ l, ∀ H1, Ex H H1 → EvT t ((wipe σ vs).set j (some (enc x))) H1 (f x)) (he : ∀ x ∈ l, f x = true → ∀ H1, Ex H H1 → Ev te ((wipe σ vs).set j (some (enc x))) H1 (g x)) :
    EvL (tLc (iList K tl) (gName j) t te vs) σ H ((l.filter f).map g) := fun H0 e Q q => h H0 e _ fun a H1 ha e1 hx => ⟨a, rfl, ⟨_, sq_of hx⟩, fun Dl hD =>
  lc_list (xs := l.map enc) (CwA H1 l f g Dl) ⟨hD, Ex.new hD, upd_same⟩ (fun i H' _ p => sq_of (p.2.1 a _ hx)) (fun i x H' hi p => by
    rw [List.getElem?_map] at hi
    cases hq : l[i]? with
    | none =>
      rw [hq] at hi
      cases hi
    | some b =>
      rw [hq] at hi
      have ex : enc b = x := Option.some.inj hi
      subst ex
      have hm : b ∈ l := List.mem_of_getElem? hq
      exact ⟨hw _, cwA_turn p hq hz (ht b hm H1 (e.trans e1)) (fun hf => he b hm hf H1 (e.trans e1))⟩)
    (fun H' p => by
      have p3 := p.2.2
      rw [List.length_map, List.take_length] at p3
      exact q Dl H' (fresh_back e1 p.1) (e1.trans p.2.1) p3)⟩
/-- over range(n) -/
theorem el_lcR {ta : TA} {j : Nat} {vs : List Nat} {n : Int} (f : Nat → Bool) (g : Nat → V) (h : EvA ta σ H [.int n]) (hn : 0 ≤ n ∧ n < 50000) (hw : ∀ x, wipe ((wipe σ vs).set j (some x)) vs = wipe σ vs)
    (ht : ∀ i : Nat, (i : Int) < n → ∀ H1, Ex H H1 → EvT t ((wipe σ vs).set j (some (.int (i : Int)))) H1 (f i)) (he : ∀ i : Nat, (i : Int) < n → f i = true → ∀ H1, Ex H H1 → Ev te ((wipe σ vs).set j (some (.int (i : Int)))) H1 (g i)) :
    EvL (tLc (iRng1 ta) (gName j) t te vs) σ H (((List.range n.toNat).filter f).map g) := fun H0 e Q q => h H0 e _ fun H1 e1 => ⟨n, rfl, by omega, by omega, fun Dl hD =>
  lc_range (lo := 0) (n := n.toNat) (CwA H1 (List.range n.toNat) f g Dl) ⟨hD, Ex.new hD, upd_same⟩ (fun i H' hi p => by
    have e0 : (0 : Int) + (i : Int) = (i : Int) := Int.zero_add _
    have hq : (List.range n.toNat)[i]? = some i := by rw [List.getElem?_range hi]
    show wipe ((wipe σ vs).set j (some (.int ((0 : Int) + (i : Int))))) vs = wipe σ vs ∧ t ((wipe σ vs).set j (some (.int ((0 : Int) + (i : Int))))) H' fun b H3 => if b = true then te ((wipe σ vs).set j (some (.int ((0 : Int) + (i : Int))))) H3 fun y H4 => ∃ acc, H4 Dl = some (.lst acc) ∧ acc.length < sizeLine ∧ CwA H1 (List.range n.toNat) f g Dl (i + 1) (upd H4 Dl (.lst (acc ++ [y]))) else CwA H1 (List.range n.toNat) f g Dl (i + 1) H3
    rw [e0]
    exact ⟨hw _, cwA_turn p hq (by rw [List.length_range]; omega) (ht i (by omega) H1 (e.trans e1)) (fun hf => he i (by omega) hf H1 (e.trans e1))⟩) (fun H' p => by
      have p3 := p.2.2
      rw [List.take_of_length_le (by rw [List.length_range]; omega)] at p3
      exact q Dl H' (fresh_back e1 p.1) (e1.trans p.2.1) p3)⟩
theorem filter_tt {α : Type} (l : List α) : l.filter (fun _ => true) = l := by
  rw [List.filter_eq_self]
  intro _ _
  rfl

/-! ### for a, b in enumerate(xs), a and b names -/
variable {D : Ends} {tu tz : TS}
theorem s_forE {α : Type} {a : Addr} {ja jb : Nat} (l : List α) (enc : α → V) (h : Ev tl σ H (.ref a)) (hx : SqL K H a (l.map enc)) (Pv : Nat → L2.St → Hp → Prop) (h0 : ∀ H1, Ex H H1 → Pv 0 σ H1) (hl : ∀ i σ' H', i ≤ l.length → Pv i σ' H' → SqL K H' a (l.map enc))
    (hs : ∀ (i : Nat) b σ' H', l[i]? = some b → Pv i σ' H' → ∀ H2, Ex H' H2 → tu { D with nx := Pv (i + 1), ct := Pv (i + 1), bk := D.nx } ((σ'.set ja (some (.int (i : Int)))).set jb (some (enc b))) H2) (hd : ∀ σ' H', Pv l.length σ' H' → D.nx σ' H') :
    tFor (iEnum K (tCons tl tNil)) (gTup K 2 (gCons (gName ja) (gCons (gName jb) gNil))) tu D σ H := h H (Ex.refl H) _ fun H1 e => ⟨a, _, rfl, ex_l e hx, by
  have w := walk_enum (K := K) (a := a) (xs := l.map enc)
  refine for_it w Pv (h0 H1 e) (fun i σ' H' hi p => hl i σ' H' (by rw [List.length_map] at hi; exact hi) p) (fun i x σ' H' H2 hi p y => ?_) (fun σ' H' p => hd σ' H' (by rw [List.length_map] at p; exact p))
  obtain ⟨T, v1, v2, rfl, nT, rfl, e1, e2⟩ := y
  have e1 : V.int (i : Int) = v1 := Option.some.inj e1
  subst e1
  have e2 : (l.map enc)[i]? = some v2 := e2
  rw [List.getElem?_map] at e2
  cases hq : l[i]? with
  | none =>
    rw [hq] at e2
    cases e2
  | some b =>
    rw [hq] at e2
    have ex : enc b = v2 := Option.some.inj e2
    subst ex
    exact ⟨T, [.int (i : Int), enc b], rfl, .inl (.inl upd_same), rfl, _, _, rfl, _, _, rfl, rfl, hs i b σ' H' hq p _ (Ex.new nT)⟩⟩
theorem q_forE {α : Type} {a : Addr} {ja jb : Nat} (l : List α) (enc : α → V) (h : Ev tl σ H (.ref a)) (hx : SqL K H a (l.map enc)) (Pv : Nat → L2.St → Hp → Prop) (h0 : ∀ H1, Ex H H1 → Pv 0 σ H1) (hl : ∀ i σ' H', i ≤ l.length → Pv i σ' H' → SqL K H' a (l.map enc))
    (hs : ∀ (i : Nat) b σ' H', l[i]? = some b → Pv i σ' H' → ∀ H2, Ex H' H2 → tu { D with nx := Pv (i + 1), ct := Pv (i + 1), bk := tz D } ((σ'.set ja (some (.int (i : Int)))).set jb (some (enc b))) H2) (hd : ∀ σ' H', Pv l.length σ' H' → tz D σ' H') :
    tSeq (tFor (iEnum K (tCons tl tNil)) (gTup K 2 (gCons (gName ja) (gCons (gName jb) gNil))) tu) tz D σ H := s_forE (D := { D with nx := tz D }) l enc h hx Pv h0 hl hs hd
/-- list(range(a, b)) -/
theorem el_rg {i j : Int} (ha : Ev ta σ H (.int i)) (hb : Ev tb σ H (.int j)) (h : RgOk i j) : EvL (tLstRg (tRg2 ta tb)) σ H (rgV i j) := fun H1 e Q q =>
  ha H1 e _ fun H2 e2 => hb H2 (e.trans e2) _ fun H3 e3 => ⟨i, j, rfl, rfl, h, fun p hp => q p _ (fresh_back (e2.trans e3) hp) ((e2.trans e3).trans (Ex.new hp)) upd_same⟩
theorem el_rg1 {j : Int} (hb : Ev tb σ H (.int j)) (h : RgOk 0 j) : EvL (tLstRg (tRg1 tb)) σ H (rgV 0 j) := fun H1 e Q q =>
  hb H1 e _ fun H3 e3 => ⟨j, rfl, h, fun p hp => q p _ (fresh_back e3 hp) (e3.trans (Ex.new hp)) upd_same⟩
theorem el_nil : EvL (tLst tNil) σ H [] := el_lst ea_nil (Nat.zero_le _)
end
theorem RetV.mk {v : V} {H H' : Hp} {Q : VK} (k : RetV v H Q) (e : Ex H H') : ∀ H2, Ex H' H2 → Q v H2 := fun H2 e2 => k H2 (e.trans e2)
end Ik

namespace Ik
open PySem PySem.Spec PyProof.Rows L2 Evl
theorem not_t {b : Bool} (h : (!b) = true) : b = false := by
  cases b with
  | false => rfl
  | true => cases h
theorem not_f {b : Bool} (h : (!b) = false) : b = true := by
  cases b with
  | true => rfl
  | false => cases h
/-! ### a def as the top has left it -/
structure Dn (K : PySem.W.Frag) (mg : Str → Option Value) (x : Str) (st : Stmt) (ps : List Str) : Prop where
  ex : ∃ (f : Addr) (fd : FuncData), Fun K x x st f fd ∧ mg x = some (.ref f) ∧ Binds K fd ps []
section
variable {P : Program} {w : World} {K : PySem.W.Frag} {mg : Str → Option Value} {base : Heap}
theorem cal_of {x : Str} {st : Stmt} {N ps : List Str} {k : Nat} {sp : Sp} (D : Dn K mg x st ps) (S : FnScope N ps (defScope st)) (len : ∀ vs H Q E, sp vs H Q E → vs.length = ps.length)
    (hbody : ∀ (f : Addr) (cdv : Value) (A : Around) (outer : List Env) (s : Shared) (H : Hp) (vs : List V) (Q : VK) (E : XK), Room k (A.deeper (envOfC x (defScope st) s.heap.objs.size f cdv)) → sp vs H Q E →
      ∃ t, PSs (cxOf CX0 P w K mg base N x (defScope st) f cdv A outer s H E).nox (defBody st) t ∧ t { nx := fun _ H' => Q .non H', rt := Q } (start N vs) H) : Cal P w K mg base x (k + 1) ps sp := by
  obtain ⟨f, fd, F, g, b⟩ := D.ex
  exact ⟨f, fd, F.ok S len fun cdv A outer s H vs Q E hr h => hbody f cdv A outer s H vs Q E hr h, g, F.kp, b⟩
theorem dn_mk {x : Str} {st : Stmt} {f : Addr} {fd : FuncData} {ps : List Str} (F : Fun K x x st f fd) (g : mg x = some (.ref f)) (b : Binds K fd ps []) : Dn K mg x st ps := ⟨f, fd, F, g, b⟩
end
end Ik

/-! ### walks while an error is handled: their end raises too, and its context is the handled error -/
namespace HotX
open PySem PySem.Spec PyProof.Rows
section
variable {prog : Program} {w : World} {A : Around} {E : Value → Shared → Prop} {s : Shared}
theorem hot_ne {x1 it : Addr} {h : Heap} {o : Obj} {vs : Array Value} (hot : HotAt A x1 h) (ho : h.get? it = some o) (hd : o.data = .fields vs) (hsz : vs.size ≤ 2) : x1 ≠ it := fun z => by
  obtain ⟨_, o1, vs1, h1, d1, c1⟩ := hot
  rw [z, ho] at h1
  cases h1
  rw [hd] at d1
  cases d1
  have := (Array.getElem?_eq_some_iff.mp c1).1
  omega
theorem HotAt.keep {x1 : Addr} {h h' : Heap} (hot : HotAt A x1 h) (k : ∀ o, h.get? x1 = some o → h'.get? x1 = some o) : HotAt A x1 h' := by
  obtain ⟨hh, o1, vs1, h1, d1, c1⟩ := hot
  exact ⟨hh, o1, vs1, k _ h1, d1, c1⟩
theorem pyNext_list_end_hot {it l x1 : Addr} {i : Nat} {items} {Q : Option Value → Shared → Prop} (hot : HotAt A x1 s.heap) (hit : s.heap.IsListIter it l i) (hl : s.heap.IsList l items) (hx : items[i]? = none)
    (hQ : ∀ h', (∀ b o, b ≠ it → s.heap.get? b = some o → h'.get? b = some o) → Q none { s with heap := h' }) : wpAny (model prog w) A (pyNext (.ref it)) Q E s := by
  obtain ⟨o, ho, hc, hd⟩ := id hit
  obtain ⟨ol, hol, _, nl, hdl⟩ := hl
  have ne := hot_ne hot ho hd (by simp)
  unfold pyNext
  refine wpAny_bind (wpAny_attempt (wpAny_callSpecial?_slot (name := Str.ofString "__next__") hit.typeIs slot_listiter_next
    (wpAny_call_entry slot_listiter_next hit.typeIs entry_listiter_next ?_ (args_listiter_next _))))
  show wpAny _ _ (field (.ref it) 0 >>= _) _ _ s
  refine wpAny_bind (wpAny_field ho hd (x := .ref l) rfl ?_)
  show wpAny _ _ (if (Value.ref l == Value.none) = true then _ else _) _ _ s
  rw [if_neg (show ¬ ((Value.ref l == Value.none) = true) from Bool.false_ne_true)]
  show wpAny _ _ (field (.ref it) 1 >>= _) _ _ s
  refine wpAny_bind (wpAny_field ho hd (x := .int i 0) rfl ?_)
  show wpAny _ _ (seqItems? (.ref l) >>= _) _ _ s
  refine wpAny_bind (wpAny_seqItems hol hdl ?_)
  simp only [Int.toNat_natCast, hx]
  refine wpAny_bind (wpAny_rule (wpAny_bind (wpAny_setField ho hd (by simp) ?_)))
  show wpAny _ _ (newExc (.type "StopIteration") [] >>= _) _ _ _
  refine wpAny_bind ?_
  simp only [newExc, newTuple]
  refine wpAny_bind (wpAny_newObj_type ?_ (by size_fits))
  refine wpAny_bind (m := firstArgMember _ _) (wpAny_of_eq (a := Value.none) (by first | rfl | (simp only [firstArgMember]; rfl)) ?_)
  refine wpAny_newObj_type ?_ (by size_fits)
  have hot2 : HotAt A.in1 x1 s.heap := hot
  refine raiseNew_hot (hot2.keep fun o e => Heap.get?_push_of_some _ (Heap.get?_push_of_some _ ((Heap.get?_update_other _ _ (Ne.symm ne)).trans e))) (Nat.ne_of_lt ?_) (Heap.get?_push_size _ rfl) rfl (by first | (simp; done) | (simp; omega) | (simp only [Array.size_append]; simp; omega)) ?_
  · obtain ⟨_, o1, _, h1, _, _⟩ := hot
    exact Heap.lt_size (Heap.get?_push_of_some _ ((Heap.get?_update_other _ _ (Ne.symm ne)).trans h1))
  refine wpAny_bind (wpAny_isInstance (T := "StopIteration") (b := true) ⟨_, Heap.get?_update_self _ (Heap.get?_push_size _ rfl) rfl, rfl⟩ isSubtype_stop ?_)
  refine wpAny_pure (hQ _ fun b o hb e => ?_)
  have e2 := (Heap.get?_update_other s.heap (Obj.mapFields (·.setIfInBounds 0 Value.none)) (Ne.symm hb)).trans e
  rw [Heap.get?_update_other _ _ (Nat.ne_of_gt (Heap.lt_size (Heap.get?_push_of_some _ e2)))]
  exact Heap.get?_push_of_some _ (Heap.get?_push_of_some _ e2)
end
theorem walks_listHot {prog : Program} {w : World} {A : Around} {x1 : Addr} (hne1 : ∀ {h : Heap} {i : Nat} {I l : Addr}, HotAt A x1 h → h.IsListIter I l i → x1 ≠ I) (I ax : Addr) (hne : ax ≠ I) (items : Array Value) :
    Walks prog w A I [I, ax, x1] [I] items.size (fun i v => items[i]? = some v) (fun i h => h.IsListIter I ax i ∧ h.IsList ax items ∧ HotAt A x1 h) where
  sub := fun b hb => by simp at hb; simp [hb]
  frame := fun _ _ _ st hk => ⟨st.1.at fun o e => hk I (by simp) o e, st.2.1.at fun o e => hk ax (by simp) o e, st.2.2.keep fun o e => hk x1 (by simp) o e⟩
  item := fun i s Q E hi st hQ => by
    refine wpAny_pyNext_list_item st.1 st.2.1 (x := items[i]) (by simp [hi]) fun h' hit' hs' => ?_
    exact hQ _ h' s.toks (by simp [hi]) ⟨hit', st.2.1.extBut hs'.extBut hne, st.2.2.keep fun o e => hs'.extBut x1 o (hne1 st.2.2 st.1) e⟩ fun b o hb e => hs'.extBut b o (fun h => hb (by simp [h])) e
  done := fun s Q E st hQ => pyNext_list_end_hot st.2.2 st.1 st.2.1 (by simp) fun h' he' => hQ h' s.toks fun b o hb e => he' b o (fun h => hb (by simp [h])) e
  self := fun _ _ _ _ st hQ => wpAny_pyIter_listiter st.1 hQ
theorem hot_iter {A : Around} {x1 I l : Addr} {h : Heap} {i : Nat} (hot : HotAt A x1 h) (hit : h.IsListIter I l i) : x1 ≠ I := by
  obtain ⟨o, ho, hc, hd⟩ := hit
  exact hot_ne hot ho hd (by simp)
end HotX
namespace L2H
open PySem PySem.Spec PyProof.Rows L2 HotX
section
variable {X : Cx}
theorem cr_sumH (hc : HotC X) : CallR X (.builtin "sum") (rSum X.K) := by
  intro pins s σ H vs us Q I r h
  obtain ⟨a, ns, rfl, hs, q⟩ := h
  obtain ⟨its, rv, hl, _⟩ := I.list hs
  rw [Vals.ref1 r]
  obtain ⟨x1, hot⟩ := hc.at I
  obtain ⟨xs, e⟩ := rv.ints.allInts.items
  have hn : numsOf (intItems xs).toList = ns := by rw [← e]; exact rv.ints.numsOf
  rw [nums_intItems] at hn
  have hl' := hl.isList
  rw [e] at hl'
  refine call_sum_walkG (iter_intList hl' fun s₂ e2 st hfp hlI => ?_)
  subst e2
  refine ⟨_, _, _, _, _, _, numAt xs, rfl, walks_listHot (A := X.A.in1) (x1 := x1) hot_iter _ a hlI (intItems xs), ⟨st.1, st.2, (show HotAt X.A.in1 x1 s.heap from hot).keep fun o eo => Heap.get?_push_of_some _ eo⟩, fun b hb => ?_, (fun _ _ => intItems_at), fun h' tk t' hk => ?_⟩
  · rcases List.mem_cons.mp hb with rfl | hb
    · exact hfp _ (by simp)
    · rcases List.mem_cons.mp hb with rfl | hb
      · exact hfp _ (by simp)
      · rw [List.mem_singleton.mp hb]
        obtain ⟨_, o1, _, h1, _, _⟩ := hot
        exact Heap.lt_size (Heap.get?_push_of_some _ h1)
  · have e3 : preSum (numAt xs) (intItems xs).size = ns.sum := by
      have hz : (intItems xs).size = xs.size := by simp [intItems]
      rw [hz, preSum_eq, List.take_of_length_le (by simp), hn]
    rw [e3]
    exact ⟨.int _, H, I.kept (t' := tk) (old_kept hk), ⟨_, rfl⟩, q⟩
theorem cr_allH (hc : HotC X) : CallR X (.builtin "all") (rAll X.K) := by
  intro pins s σ H vs us Q I r h
  obtain ⟨a, bs, rfl, hs, q⟩ := h
  obtain ⟨its, rv, hl, _⟩ := I.list hs
  rw [Vals.ref1 r]
  obtain ⟨x1, hot⟩ := hc.at I
  have hb := rv.bls
  refine call_all_walk (iter_any hl.isList fun s₂ e2 st hne => ?_)
  subst e2
  refine ⟨_, _, _, _, _, _, _, rfl, walks_listHot (A := X.A.in1) (x1 := x1) hot_iter _ a hne its.toArray, ⟨st.1, st.2, (show HotAt X.A.in1 x1 s.heap from hot).keep fun o eo => Heap.get?_push_of_some _ eo⟩, truth_bools hb, fun h' tk hk => ?_⟩
  refine ⟨.bl _, H, I.kept (t' := tk) (old_kept hk), ?_, q⟩
  show Value.bool _ = Value.bool _
  rw [← L2.all_range, hb, List.size_toArray, List.length_map]
end
/-! ### comprehensions there -/
structure TurnX (P : Program) (w : World) (K : PySem.W.Frag) (J : It) (fp : List Addr) (it : Addr) (tn : Nat → Heap → Prop) : Prop where
  obj : ∀ i h, tn i h → ∀ b ∈ fp, ∃ o, h.get? b = some o ∧ ∀ v, o.data ≠ .cell v
  keep : ∀ i h h', tn i h → (∀ b ∈ fp, ∀ o, h.get? b = some o → h'.get? b = some o) → tn i h'
  item : ∀ (tg : Expr) (X : Cx), X.prog = P → X.w = w → X.K = K → ∀ (i : Nat) (pins : List (Addr × Obj)) (s : Shared) (σ : St) (H : Hp) (E : Value → Shared → Prop), Inv X pins σ H s → (∀ b ∈ fp, FpOk X pins H b) → tn i s.heap → J.go i H →
    wpAny (model P w) X.A (pyNext (.ref it)) (fun r s1 => ∃ u, r = some u ∧
      wpAny (model P w) X.A (letOwnedTupleGo tg (.ref it) u) (fun _ s2 => ∃ x H', Inv X pins σ H' s2 ∧ RelV x u ∧ J.yld i H x H' ∧ tn (i + 1) s2.heap ∧ ∀ b ∈ fp, H' b = none) E s1) E s
  done : ∀ (X : Cx), X.prog = P → X.w = w → X.K = K → ∀ (i : Nat) (pins : List (Addr × Obj)) (s : Shared) (σ : St) (H : Hp) (E : Value → Shared → Prop) (x1 : Addr), HotAt X.A x1 s.heap → Inv X pins σ H s → (∀ b ∈ fp, FpOk X pins H b) → tn i s.heap → J.stop i H →
    wpAny (model P w) X.A (pyNext (.ref it)) (fun r s1 => r = none ∧ Inv X pins σ H s1) E s
  self : ∀ (A : Around) (i : Nat) (s : Shared) (Q : Value → Shared → Prop) (E : Value → Shared → Prop), tn i s.heap → Q (.ref it) s → wpAny (model P w) A (pyIter (.ref it)) Q E s
theorem turnX_range {P : Program} {w : World} {K : PySem.W.Frag} (it : Addr) (lo : Int) (n : Nat) : TurnX P w K (Itr lo n) [it] it (fun i h => IsRangeIter h it (lo + (i : Nat) * 1) ((n : Int) - (i : Nat)) 1) where
  obj := fun i h st b hb => by
    rw [List.mem_singleton.mp hb]
    exact ⟨_, st, fun v z => nomatch (show Data.fields _ = Data.cell v from z)⟩
  keep := fun i h h' st k => k it (by simp) _ st
  item := by
    intro tg X hP hw hK i pins s σ H E I hf st hg
    subst hP hw hK
    obtain ⟨f0, f1, f2, f3, f4, f5⟩ := hf it (by simp)
    have hlt : i < n := hg
    refine wpAny_pyNext_range_item st (by omega) fun h' st' sb => ?_
    have e1 : lo + ((i : Nat) : Int) * 1 + 1 = lo + ((i + 1 : Nat) : Int) * 1 := by omega
    have e2 : (n : Int) - ((i : Nat) : Int) - 1 = (n : Int) - ((i + 1 : Nat) : Int) := by omega
    rw [e1, e2] at st'
    have I1 : Inv X pins σ H { s with heap := h', toks := s.toks + 1 } := I.turned (fun b o hb e => (sb.2 b hb).trans e) f0 f1 f3 f4 f5
    refine ⟨_, rfl, go_of (s := { s with heap := h', toks := s.toks + 1 }) (n := "range_iterator") st' rfl rfl (by decide) ⟨.int (lo + i), H, I1, ⟨s.toks, ?_⟩, ⟨rfl, rfl⟩, st', fun b hb => (hf b hb).1⟩⟩
    rw [Int.mul_one]
  done := by
    intro X hP hw hK i pins s σ H E x1 hot I hf st hg
    subst hP hw hK
    obtain ⟨f0, f1, f2, f3, f4, f5⟩ := hf it (by simp)
    exact pyNext_range_end_hot hot st (by have : n ≤ i := hg; omega) fun h' eb => ⟨rfl, I.turned (t' := s.toks) (fun b o _ e => eb b o e) f0 f1 f3 f4 f5⟩
  self := fun _ _ _ _ _ st h => wpAny_pyIter_rangeiter st h
theorem turnX_list {P : Program} {w : World} {K : PySem.W.Frag} (a it : Addr) : TurnX P w K (Itl K a) [it] it (fun i h => h.IsListIter it a i) where
  obj := fun i h st b hb => by
    rw [List.mem_singleton.mp hb]
    obtain ⟨o, e, c, d⟩ := st
    exact ⟨o, e, fun v z => by rw [d] at z; cases z⟩
  keep := fun i h h' st k => st.at fun o e => k it (by simp) o e
  item := by
    intro tg X hP hw hK i pins s σ H E I hf st hg
    subst hP hw hK
    obtain ⟨xs, x, hq, hx⟩ := hg
    obtain ⟨its, rv, p, hz⟩ := I.list hq
    obtain ⟨u, hu, ru⟩ := rv.get hx
    obtain ⟨f0, f1, f2, f3, f4, f5⟩ := hf it (by simp)
    refine wpAny_pyNext_list_item st p.isList (x := u) (by simpa using hu) fun h' st' sb => ?_
    have I1 : Inv X pins σ H { s with heap := h' } := I.turned (t' := s.toks) (fun b o hb e => (sb.2 b hb).trans e) f0 f1 f3 f4 f5
    obtain ⟨o, e, c, d⟩ := id st'
    exact ⟨u, rfl, go_of (s := { s with heap := h' }) e c d (by decide) ⟨x, H, I1, ru, ⟨rfl, fun ys hy => by rw [I.list_inj hy hq]; exact hx⟩, st', fun b hb => (hf b hb).1⟩⟩
  done := by
    intro X hP hw hK i pins s σ H E x1 hot I hf st hg
    subst hP hw hK
    obtain ⟨xs, hq, hx⟩ := hg
    obtain ⟨its, rv, p, hz⟩ := I.list hq
    obtain ⟨f0, f1, f2, f3, f4, f5⟩ := hf it (by simp)
    have hl := rv.length
    exact pyNext_list_end_hot hot st p.isList (by simp; omega) fun h' eb => ⟨rfl, I.turned (t' := s.toks) (fun b o hb e => eb b o hb e) f0 f1 f3 f4 f5⟩
  self := fun _ _ _ _ _ st h => wpAny_pyIter_listiter st h
/-- an iterator has come -/
def PIEX (X : Cx) (pins : List (Addr × Obj)) (σ : St) (R : It → Hp → Prop) (itv : Value) (s2 : Shared) : Prop :=
  ∃ (it : Addr) (fp : List Addr) (tn : Nat → Heap → Prop) (J : It) (H' : Hp), itv = .ref it ∧ Inv X pins σ H' s2 ∧ TurnX X.prog X.w X.K J fp it tn ∧ tn 0 s2.heap ∧ (∀ b ∈ fp, FpOk X pins H' b) ∧ R J H'
structure PIX (X : Cx) (iter : Expr) (wi : TI) : Prop where
  run : ∀ (pins : List (Addr × Obj)) (s : Shared) (σ : St) (H : Hp) (R : It → Hp → Prop), Inv X pins σ H s → wi σ H R →
    wpAny (model X.prog X.w) X.A (eval iter X.env) (fun v s1 => wpAny (model X.prog X.w) X.A (pyIter v) (PIEX X pins σ R) X.xe s1) X.xe s
section
variable {X : Cx}
theorem range_itX {pins : List (Addr × Obj)} {σ : St} {H : Hp} {s : Shared} {R : It → Hp → Prop} {E : Value → Shared → Prop} {lo hi : Int} {t u v : Tok} {tk : Nat} (I : Inv X pins σ H s) (h1 : -(2 ^ 62) ≤ lo) (h2 : lo < 2 ^ 62) (h3 : -(2 ^ 62) ≤ hi) (h4 : hi < 2 ^ 62)
    (q : R (Itr lo (hi - lo).toNat) H) : wpAny (model X.prog X.w) X.A (pyIter (.ref s.heap.objs.size)) (PIEX X pins σ R) E { s with heap := s.heap.push { cls := .type "range", data := .fields #[.int lo t, .int hi u, .int 1 v] }, toks := tk } := by
  refine wpAny_pyIter_range (IsRange.new ..) (small_one h1 h2 h3 h4) ?_
  have I1 : Inv X pins σ H { s with heap := s.heap.push { cls := .type "range", data := .fields #[.int lo t, .int hi u, .int 1 v] }, toks := tk } := I.kept fun b o e => Heap.get?_push_of_some _ e
  refine ⟨_, [_], _, _, H, rfl, I1.kept (t' := tk) fun b o e => Heap.get?_push_of_some _ e, turnX_range _ lo (hi - lo).toNat, ?_, fun b hb => ?_, q⟩
  · have e1 : lo + ((0 : Nat) : Int) * 1 = lo := by simp
    have e2 : (((hi - lo).toNat : Nat) : Int) - ((0 : Nat) : Int) = Builtin.Range.rangeSize lo hi 1 := by rw [rangeSize_one]; split <;> omega
    show IsRangeIter _ _ (lo + ((0 : Nat) : Int) * 1) ((((hi - lo).toNat : Nat) : Int) - ((0 : Nat) : Int)) 1
    rw [e1, e2]
    exact Heap.get?_push_size _ rfl
  · rw [List.mem_singleton.mp hb]
    exact I1.fpOk (Nat.le_refl _) (I1.hok.fresh (Nat.le_refl _))
theorem pix_range1 {a : Expr} {ta : TA} {p pos : Pos} (hg : Gl X "range") (hm : X.mg "range" = none) (ha : PA X [a] ta) (hs : starEach [a] X.env = [(false, eval a X.env)] := by rfl) : PIX X (.Call (.Name "range" p) [a] [] pos) (iRng1 ta) := by
  refine ⟨fun pins s σ H R I h => ?_⟩
  refine Call_ (ld_blt I hg hm boot_range (PyProof.Rows.callWith_type1 (thn (ha.run pos pins s σ H _ I h) fun us s1 ⟨vs, H1, I1, r1, q1⟩ => ?_) hs rfl))
  obtain ⟨j, e, q1, q2, q⟩ := q1
  subst e
  cases r1 with
  | cons r rr =>
    cases rr
    obtain ⟨t, rfl⟩ := r
    exact call_range_1 (range_itX I1 (by omega) (by omega) q1 q2 (by simpa using q))
theorem pix_list {l : Expr} {tl : TE} (hl : PE X l tl) : PIX X l (iList X.K tl) := by
  refine ⟨fun pins s σ H R I h => ?_⟩
  refine thn (hl.run pins s σ H _ I h) fun v s1 ⟨x, H1, I1, r1, q1⟩ => ?_
  obtain ⟨a, e, ⟨xs, hq⟩, q⟩ := q1
  subst e
  cases r1
  obtain ⟨its, rv, p, hz⟩ := I1.list hq
  refine wpAny_pyIter_list p.isList ?_
  refine ⟨s1.heap.objs.size, [s1.heap.objs.size], _, _, H1, rfl, I1.kept (t' := s1.toks) fun b o e => Heap.get?_push_of_some _ e, turnX_list a _, ⟨_, Heap.get?_push_size _ rfl, rfl, rfl⟩, fun b hb => ?_, q⟩
  rw [List.mem_singleton.mp hb]
  exact I1.fpOk (Nat.le_refl _) (I1.hok.fresh (Nat.le_refl _))
theorem pe_lcH {elt tg iter : Expr} {ifs : List Expr} {scope : Scope} {own : List (Str × Nat)} {pos : Pos} {wi : TI} {g : TG} {tt : TT} {te : TE} (hc : HotC X) (hN : X.N.Nodup) (hi : PIX X iter wi) (ok : BlkOk X.N X.env.scope scope own)
    (hg : ∀ (s : Shared) (H : Hp) (C : Addr) (cl : List (Str × Addr)) (fp : List Addr), PG (X.blk s H scope (compEnvC scope cl C X.env) fp) tg g) (ht : ∀ (s : Shared) (H : Hp) (C : Addr) (cl : List (Str × Addr)) (fp : List Addr), PTs (X.blk s H scope (compEnvC scope cl C X.env) fp) ifs tt)
    (he : ∀ (s : Shared) (H : Hp) (C : Addr) (cl : List (Str × Addr)) (fp : List Addr), PE (X.blk s H scope (compEnvC scope cl C X.env) fp) elt te) (hs : ∀ x, foldedSetIterable iter X.env x = pure x := by intro _; rfl) :
    PE X (.ListComp elt [⟨tg, iter, ifs, 0⟩] scope pos) (tLc wi g tt te (own.map (·.2))) := by
  refine ⟨fun pins s σ H Q I h => ?_⟩
  rw [eval_ListComp]
  have hfree : ∀ y ∈ scope.names, y.2 = .free → ∃ c, X.env.cells.lookup y.1 = some c := fun y hy e => by
    rcases ok.free y hy e with k | k
    · exact I.ok.has _ (.inl k)
    · exact I.ok.has _ (.inr k)
  refine wpAny_comprehension_free (use := none) rfl hs (closure_ok hfree) ok.kind (fun y hy e => by rw [ok.uniq y hy, e])
    (thn (hi.run pins s σ H _ I h) fun xv s1 hx => thn hx fun itv s2 h2 => ?_)
  obtain ⟨it, fp, tn, J, H2, rfl, I2, T, st2, f2, q⟩ := h2
  refine wpAny_newObj_type (newEnv_comp ?_) (by show 0 ≤ sizeLine; decide)
  generalize hD : s2.heap.objs.size = D
  have hDn : H2 D = none := I2.hok.fresh (Nat.le_of_eq hD)
  obtain ⟨W, ⟨m0, w0⟩, turn⟩ := q D hDn
  generalize hs3 : ({ s2 with heap := s2.heap.push { cls := .type "list", data := .seq ([] : List Value).toArray } } : Shared) = s3
  have I3 : Inv X pins σ (upd H2 D (.lst [])) s3 := by
    rw [← hs3]
    refine I2.laid (t' := s2.toks) (fun b o e => Heap.get?_push_of_some _ e) (Nat.le_of_eq hD) ⟨Nat.zero_le _, [], 0, .nil, ?_⟩
    rw [← hD]
    exact Heap.get?_push_size _ rfl
  have h3 : s3.heap = s2.heap.push { cls := .type "list", data := .seq ([] : List Value).toArray } := by rw [← hs3]
  have f3 : ∀ b ∈ fp, FpOk X pins (upd H2 D (.lst [])) b ∧ b < s3.heap.objs.size := fun b hb => by
    obtain ⟨o, e, _⟩ := T.obj _ _ st2 b hb
    have hlt := Heap.lt_size e
    refine ⟨⟨?_, (f2 b hb).2⟩, by rw [h3, Heap.size_push]; exact Nat.lt_succ_of_lt hlt⟩
    rw [upd_ne (by rw [← hD]; exact Nat.ne_of_lt hlt)]
    exact (f2 b hb).1
  have st3 : tn 0 s3.heap := T.keep _ _ _ st2 fun b _ o e => by rw [h3]; exact Heap.get?_push_of_some _ e
  have I4 := block_start I3 ok hN f3
  have pg := hg s3 (upd H2 D (.lst [])) s3.heap.objs.size (cellsFrom (s3.heap.objs.size + 1) scope.names (cloFrom X.env.cells scope.names [])) fp
  have pt := ht s3 (upd H2 D (.lst [])) s3.heap.objs.size (cellsFrom (s3.heap.objs.size + 1) scope.names (cloFrom X.env.cells scope.names [])) fp
  have pe := he s3 (upd H2 D (.lst [])) s3.heap.objs.size (cellsFrom (s3.heap.objs.size + 1) scope.names (cloFrom X.env.cells scope.names [])) fp
  show codeAny _ _ (.compStart (.ListComp elt [⟨tg, iter, ifs, 0⟩] scope pos) 0 (.ref it) (.ref D) (compEnvC scope (cellsFrom (s3.heap.objs.size + 1) scope.names (cloFrom X.env.cells scope.names [])) s3.heap.objs.size X.env)) (compPost (model X.prog X.w) X.A X.xe none (EP X pins σ Q) (.ref D) s3.heap.objs.size) { s3 with heap := pushCells (s3.heap.push { cls := .type "dict", data := .dict #[] }) scope.names }
  have nfp : ∀ b ∈ fp, (upd H2 D (.lst [])) b = none := fun b hb => (f3 b hb).1.1
  generalize hce : compEnvC scope (cellsFrom (s3.heap.objs.size + 1) scope.names (cloFrom X.env.cells scope.names [])) s3.heap.objs.size X.env = ce at I4 pg pt pe ⊢
  have cL : ce.locals = s3.heap.objs.size := by subst hce; rfl
  generalize hH3 : upd H2 D (.lst []) = H3 at I3 I4 pg pt pe w0 nfp f3
  generalize hs4 : ({ s3 with heap := pushCells (s3.heap.push { cls := .type "dict", data := .dict #[] }) scope.names } : Shared) = s4 at I4 ⊢
  have st4 : tn 0 s4.heap := T.keep _ _ _ st3 fun b _ o e => by rw [← hs4]; exact pushCells_keeps _ _ _ _ (Heap.get?_push_of_some _ e)
  have stat : ∀ {σ' : St} {H' : Hp} {s' : Shared}, Inv (X.blk s3 H3 scope ce fp) [] σ' H' s' → (∀ b ∈ fp, H' b = none) → ∀ b ∈ fp, FpOk (X.blk s3 H3 scope ce fp) [] H' b := fun {σ' H' s'} I' hn b hb =>
    ⟨hn b hb, (I'.ok.exf b hb).1, I'.ok.exfs b hb, .inl hb, fun x c e => (I'.ok.exf b hb).2 x c e, fun p hp => absurd (show p ∈ ([] : List (Addr × Obj)) ++ [] from hp) (by simp)⟩
  -- the handled error stands through the block
  obtain ⟨pe0, ⟨hh, v1, e1, c1⟩, hp⟩ := hc
  have P3 := I3.pin pe0 (List.mem_append_left _ hp)
  have nfs : pe0.1 ∉ frs X.stack := fun hm => (List.mem_cons.mp (I3.stkSub pe0.1 hm)).elim P3.2.2.1 P3.2.2.2.1
  have nex : pe0.1 ∉ fp := fun hm => (f3 _ hm).1.2.2.2.2.2 pe0 (List.mem_append_left _ hp) rfl
  have hot : ∀ {σ' : St} {H' : Hp} {s' : Shared}, Inv (X.blk s3 H3 scope ce fp) [] σ' H' s' → HotAt X.A pe0.1 s'.heap := fun {σ' H' s'} I' => ⟨hh, pe0.2, v1, I'.base.keep _ _ P3.1 P3.2.1 nfs nex, e1, c1⟩
  have loop : codeAny (model X.prog X.w) X.A (.compLoop (.ListComp elt [⟨tg, iter, ifs, 0⟩] scope pos) 0 (.ref it) (.ref D) ce) (compPost (model X.prog X.w) X.A X.xe none (EP X pins σ Q) (.ref D) s3.heap.objs.size) s4 := by
    refine compLoop_any (fun n s' => ∃ i H', Inv (X.blk s3 H3 scope ce fp) [] (wipe σ (own.map (·.2))) H' s' ∧ tn i s'.heap ∧ (∀ b ∈ fp, H' b = none) ∧ W i n H') ?_ m0 ⟨0, H3, I4, st4, nfp, w0⟩
    rintro n s5 ⟨i, H5, I5, st5, n5, w5⟩
    rcases turn i n H5 w5 with ⟨stop, qq⟩ | ⟨go, Nx, hNx, step⟩
    · refine thnF (T.done (X.blk s3 H3 scope ce fp) rfl rfl rfl i [] s5 _ H5 (fun _ _ => False) pe0.1 (hot I5) I5 (stat I5 n5) st5 stop) fun r s6 ⟨hr, I6⟩ => ?_
      subst hr
      have I7 : Inv X pins σ H5 s6 := I3.call' (ch := fp) I6.os I6.base I6.hok I6.bare fun b hb => ⟨(f3 b hb).1.2.2.2.1, (f3 b hb).1.2.1, (f3 b hb).1.2.2.2.2.1, (f3 b hb).1.2.2.2.2.2⟩
      have nC : H5 s3.heap.objs.size = none := by
        have z : H5 ce.locals = none := I6.free
        rw [cL] at z
        exact z
      obtain ⟨m, hn, _⟩ := I6.loc
      have hn : s6.heap.Ns ce.locals m := hn
      rw [cL] at hn
      obtain ⟨g0, g1, g2, g3, g4, g5⟩ := I3.fpOk (Nat.le_refl _) nC
      exact ⟨m, hn, fun h'' sb => ⟨.ref D, H5, I7.turned (t' := s6.toks) (fun b o hb e => (sb.2 b hb).trans e) g0 g1 g3 g4 g5, rfl, qq⟩⟩
    · refine thnF (T.item tg (X.blk s3 H3 scope ce fp) rfl rfl rfl i [] s5 _ H5 (fun _ _ => False) I5 (stat I5 n5) st5 go) fun r s6 ⟨u, hr, h6⟩ => ?_
      subst hr
      refine thnF h6 fun _ s7 ⟨x, H7, I7, r7, y7, st7, n7⟩ => ?_
      have I7' := I7.pinned (stat I7 n7) (T.obj _ _ st7)
      refine thnF (pg.run _ s7 _ H7 x u _ I7' r7 (step x H7 y7)) fun _ s8 ⟨σ8, H8, I8, hw8, q8⟩ => ?_
      refine thnF (pt.run _ s8 σ8 H8 _ I8 q8) fun b s9 ⟨H9, I9, q9⟩ => ?_
      have fin : ∀ {s' : Shared} {H' : Hp}, Inv (X.blk s3 H3 scope ce fp) ([] ++ pinsAt fp s7.heap) σ8 H' s' → Nx H' → ∃ m, m < n ∧ ∃ i H', Inv (X.blk s3 H3 scope ce fp) [] (wipe σ (own.map (·.2))) H' s' ∧ tn i s'.heap ∧ (∀ b ∈ fp, H' b = none) ∧ W i m H' := fun {s' H'} I' nx => by
        obtain ⟨m', hm, w'⟩ := hNx H' nx
        have pin' : ∀ b ∈ fp, ∀ o, s7.heap.get? b = some o → s'.heap.get? b = some o ∧ H' b = none := fun b hb o e =>
          let z := I'.pin (b, o) (List.mem_append_right _ (List.mem_append_right _ (mem_pinsAt hb e)))
          ⟨z.1, z.2.1⟩
        have hl : (wipe σ (own.map (·.2))).length = σ8.length := by rw [← hw8, wipe_length]
        refine ⟨m', hm, i + 1, H', (I'.unpinned (pins := [])).weak hl (fun j v e => ?_), T.keep _ _ _ st7 fun b hb o e => (pin' b hb o e).1, fun b hb => ?_, w'⟩
        · rw [← hw8] at e
          exact (wipe_some e).1
        · obtain ⟨o, e, _⟩ := T.obj _ _ st7 b hb
          exact (pin' b hb o e).2
      cases b with
      | false =>
        simp only [Bool.false_eq_true, if_false] at q9 ⊢
        exact fin I9 q9
      | true =>
        simp only [if_true] at q9 ⊢
        refine thnF (pe.run _ s9 σ8 H9 _ I9 q9) fun z s10 ⟨yv, H10, I10, r10, acc, hD10, hz10, nx⟩ => ?_
        exact app_ok (X := X.blk s3 H3 scope ce fp) I10 hD10 hz10 r10 fun s11 I11 => fin I11 nx
  exact codeAny_compStart_list loop (T.self X.A 0 _ _ _ st4 loop)
end
end L2H

/-! ### a def that is called within an except suite with the caught exception: it raises nothing, and its promise may speak of the exception's own object -/
namespace L2
open PySem PySem.Spec PyProof.Rows
structure FnP (P : Program) (w : World) (K : PySem.W.Frag) (mg : Str → Option Value) (base : Heap) (k : Nat) (f : Addr) (fd : FuncData) (ps : List Str) (sp : Addr × Obj → Sp) : Prop where
  len : ∀ p vs H Q E, sp p vs H Q E → vs.length = ps.length
  run : ∀ (A : Around) (outer : List Env) (s : Shared) (H : Hp) (args : Args) (us : List Value) (vs : List V) (Q : VK) (E : XK) (p : Addr × Obj), L2H.RoomH k A → L2H.Hot1 A p → L2H.PinOk outer H s p → Env0 P w K mg base A outer s H → BindsTo s fd args (ps.zip us) → Vals vs us → sp p vs H Q E →
    codeAny (model P w) A (.call (.ref f) args) (CR CX0 outer P w H s Q E) s
theorem fn_ofP {P : Program} {w : World} {K : PySem.W.Frag} {mg : Str → Option Value} {base : Heap} {k : Nat} {x qual : Str} {st : Stmt} {f : Addr} {fd : FuncData} {N ps : List Str} {sp : Addr × Obj → Sp} (F : Fun K x qual st f fd) (S : FnScope N ps (defScope st))
    (len : ∀ p vs H Q E, sp p vs H Q E → vs.length = ps.length)
    (hbody : ∀ (cdv : Value) (A : Around) (outer : List Env) (s : Shared) (H : Hp) (vs : List V) (Q : VK) (E : XK) (p : Addr × Obj), L2H.RoomH k (A.deeper (envOfC qual (defScope st) s.heap.objs.size f cdv)) → L2H.Hot1 A p → sp p vs H Q E →
      ∃ t, PSs (L2H.cxH CX0 P w K mg base N qual (defScope st) f cdv A outer s H E p) (defBody st) t ∧ t { nx := fun _ H' => Q .non H', rt := Q } (L2.start N vs) H) :
    FnP P w K mg base (k + 1) f fd ps sp := by
  obtain ⟨oc, od, kV, doc, pm, an, cdv, ct, osl, rfl, lk, hcd⟩ := F.ex
  refine ⟨len, fun A outer s H args us vs Q E p hr hot hpin e0 hb r hsp => ?_⟩
  have hl := len p _ _ _ _ hsp
  have KX : K.In s.heap := e0.mod.kin.keeps fun b o e => (e0.bs b o e).1
  have lim : s.heap.NoLimit := e0.mod.nolimit.keeps fun b o e => (e0.bs b o e).1
  have par : ∀ y ∈ ps.zip us, (defScope st).names.lookup y.1 = some .local ∨ ((defScope st).names.lookup y.1 = some .cell ∧ ((cellsFrom (s.heap.objs.size + 1) (defScope st).names []).lookup y.1).isSome = true) := fun ⟨n, v⟩ hy =>
    (S.par n (List.of_mem_zip hy).1).imp id fun q => ⟨q, PySem.W.cellsFrom_some _ _ _ (.inl q)⟩
  refine codeAny_call_function hr.depth (KX _ _ lk) rfl S.co S.gen rfl (PySem.W.codeRec_of KX hcd) (hb _ _ _ _ ?_)
  refine wpAny_newFunctionEnv_cells S.kind par fun env he s1 x => ?_
  subst he
  refine ⟨lim.keeps x.toInCall.keep, codeAny_func ?_⟩
  obtain ⟨t, ht, hq⟩ := hbody cdv A outer s H vs Q E p (hr.deeper _) hot hsp
  refine wpAny_mono (ht.run [] s1 _ H _ (L2H.inv_startH S hpin e0 hl r x) hq) (fun fl s' hs => ?_) fun e s' hs => hs
  cases fl with
  | ret u =>
    obtain ⟨v, σ', H', J, rv, q⟩ := hs
    exact ⟨v, H', J.os, J.bare, J.base, J.hok, rv, q⟩
  | next =>
    obtain ⟨σ', H', J, q⟩ := hs
    exact ⟨.non, H', J.os, J.bare, J.base, J.hok, rfl, q⟩
  | brk => exact hs.elim fun _ z => z.elim fun _ z => z.2.elim
  | cont => exact hs.elim fun _ z => z.elim fun _ z => z.2.elim
section
variable {X : Cx}
/-- f(e, ..) in the suite that holds e at a, of the class cls, its dict d -/
def tCallP (a : Addr) (cls : Value) (d : Option Addr) (sp : Addr × Obj → Sp) (t : TA) : TE := fun σ H Q => t σ H fun vs H1 => ∀ oe : Obj, Zc cls d oe → (∃ fs, oe.data = .fields fs) → sp (a, oe) vs H1 Q (fun _ _ _ => False)
theorem pe_callP {a : Addr} {oe : Obj} {cls : Value} {d : Option Addr} {x : Str} {k : Nat} {f : Addr} {fd : FuncData} {ps : List Str} {sp : Addr × Obj → Sp} {e : Expr} {es : List Expr} {t : TA} {p pos : Pos} (hp : (a, oe) ∈ X.pn) (hz : Zc cls d oe) (hf : ∃ fs, oe.data = .fields fs) (hh : L2H.Hot1 X.A (a, oe))
    (F : FnP X.prog X.w X.K X.mg X.base k f fd ps sp) (hr : L2H.RoomH k X.A) (hg : Gl X x) (hm : X.mg x = some (.ref f)) (hk : PySem.W.keepIn X.K (.ref f) = true) (hb : Binds X.K fd ps []) (ha : PA X (e :: es) t) (hdb : (x == ("__debug__" : Str)) = false := by decide)
    (he : starEach (e :: es) X.env = (false, eval e X.env) :: starEach es X.env := by rfl) (hpl : (backTo pos (starEach es X.env)).any (·.1) = false := by rfl) :
    PE X (.Call (.Name x p) (e :: es) [] pos) (tCallP a cls d sp t) := by
  refine ⟨fun pins s σ H Q I h => ?_⟩
  refine wpAny_Call_Name_kw (ld_glob I hg hm ?_ hdb)
  refine PySem.W.callWith_K (h₀ := X.base) I.ok.mod.kin hk (thn (ha.run pos pins s σ H _ I h) fun us s1 ⟨vs, H1, I1, r, q⟩ => ⟨I1.kIn, ?_⟩) he hpl
  have hsp := q oe hz hf
  have hl : us.length = ps.length := by
    rw [← r.length]
    exact F.len _ _ _ _ _ hsp
  have b := hb s1 us I1.kIn (by rw [List.append_nil]; exact hl)
  rw [List.append_nil] at b
  have P1 := I1.pin (a, oe) (List.mem_append_left _ hp)
  have hpin : L2H.PinOk X.stack H1 s1 (a, oe) := ⟨P1.1, P1.2.1, fun hm => (List.mem_cons.mp (I1.stkSub a hm)).elim P1.2.2.1 P1.2.2.2.1, P1.2.2.2.2⟩
  refine wpAny_call (codeAny_mono (F.run X.A X.stack s1 H1 ⟨us, []⟩ us vs _ _ (a, oe) hr hh hpin I1.env0 b r hsp) fun r s' hq => ?_)
  cases r with
  | error e => exact False.elim hq
  | ok fl =>
    cases fl with
    | ret u => exact I1.after hq
    | next => exact False.elim hq
    | brk => exact False.elim hq
    | cont => exact False.elim hq
end
end L2
namespace Ik
open PySem PySem.Spec PyProof.Rows L2 Evl
structure CalP (P : Program) (w : World) (K : PySem.W.Frag) (mg : Str → Option Value) (base : Heap) (x : Str) (k : Nat) (ps : List Str) (sp : Addr × Obj → Sp) : Prop where
  ex : ∃ (f : Addr) (fd : FuncData), FnP P w K mg base k f fd ps sp ∧ mg x = some (.ref f) ∧ PySem.W.keepIn K (.ref f) = true ∧ Binds K fd ps []
theorem pe_calP {X : Cx} {a : Addr} {oe : Obj} {cls : Value} {d : Option Addr} {x : Str} {k : Nat} {ps : List Str} {sp : Addr × Obj → Sp} {e : Expr} {es : List Expr} {t : TA} {p pos : Pos} (C : CalP X.prog X.w X.K X.mg X.base x k ps sp) (hp : (a, oe) ∈ X.pn) (hz : Zc cls d oe) (hf : ∃ fs, oe.data = .fields fs) (hh : L2H.Hot1 X.A (a, oe))
    (hr : L2H.RoomH k X.A) (hg : Gl X x) (ha : PA X (e :: es) t) (hdb : (x == ("__debug__" : Str)) = false := by decide) (he : starEach (e :: es) X.env = (false, eval e X.env) :: starEach es X.env := by rfl) (hpl : (backTo pos (starEach es X.env)).any (·.1) = false := by rfl) :
    PE X (.Call (.Name x p) (e :: es) [] pos) (tCallP a cls d sp t) := by
  obtain ⟨f, fd, F, hm, hk, hb⟩ := C.ex
  exact pe_callP hp hz hf hh F hr hg hm hk hb ha hdb he hpl
theorem cal_ofP {P : Program} {w : World} {K : PySem.W.Frag} {mg : Str → Option Value} {base : Heap} {x : Str} {st : Stmt} {N ps : List Str} {k : Nat} {sp : Addr × Obj → Sp} (D : Dn K mg x st ps) (S : FnScope N ps (defScope st)) (len : ∀ p vs H Q E, sp p vs H Q E → vs.length = ps.length)
    (hbody : ∀ (f : Addr) (cdv : Value) (A : Around) (outer : List Env) (s : Shared) (H : Hp) (vs : List V) (Q : VK) (E : XK) (p : Addr × Obj), L2H.RoomH k (A.deeper (envOfC x (defScope st) s.heap.objs.size f cdv)) → L2H.Hot1 A p → sp p vs H Q E →
      ∃ t, PSs (L2H.cxH CX0 P w K mg base N x (defScope st) f cdv A outer s H E p) (defBody st) t ∧ t { nx := fun _ H' => Q .non H', rt := Q } (start N vs) H) : CalP P w K mg base x (k + 1) ps sp := by
  obtain ⟨f, fd, F, g, b⟩ := D.ex
  exact ⟨f, fd, fn_ofP F S len fun cdv A outer s H vs Q E p hr hot h => hbody f cdv A outer s H vs Q E p hr hot h, g, F.kp, b⟩
theorem hotOf {P : Program} {w : World} {K : PySem.W.Frag} {mg : Str → Option Value} {base : Heap} {N : List Str} {q : Str} {sc : Scope} {f : Addr} {cdv : Value} {A : Around} {outer : List Env} {s : Shared} {H : Hp} {E : XK} {p : Addr × Obj} (hot : L2H.Hot1 A p) :
    L2H.HotC (L2H.cxH CX0 P w K mg base N q sc f cdv A outer s H E p) := ⟨p, hot, List.mem_cons_self⟩
theorem suiteHot {A : Around} {a : Addr} {oe : Obj} {cls : Value} {d : Option Addr} (hz : L2N.Zn cls d oe) (hf : ∃ vs, oe.data = .fields vs) : L2H.Hot1 (A.mark (some (.ref a))) (a, oe) := by
  obtain ⟨vs, hd⟩ := hf
  exact ⟨rfl, vs, hd, hz.2.2 vs hd⟩
theorem roomS {A : Around} {k : Nat} {v : Option Value} (hr : Room k A) : L2H.RoomH k (A.mark v) := ⟨hr.dp, hr.un⟩
theorem takes0N {X : Cx} : L2N.Takes X (fun _ _ _ _ => False) := fun u s' ⟨a, B, sI, pins, σ, H, cls, d, e, I, nb, up, sky, na, os, ag, w⟩ => w.elim
/-! ### a def that may raise -/
structure CalX (P : Program) (w : World) (K : PySem.W.Frag) (mg : Str → Option Value) (base : Heap) (x : Str) (k : Nat) (ps : List Str) (sp : Sp) : Prop where
  ex : ∃ (f : Addr) (fd : FuncData), FnOk P w K mg base (L2N.CX P w) k f fd ps sp ∧ mg x = some (.ref f) ∧ PySem.W.keepIn K (.ref f) = true ∧ Binds K fd ps []
theorem passAtN {X : Cx} {W : WX} (tk : L2N.Takes X W) (σ : L2.St) : PassesAt (L2N.CX X.prog X.w) X σ (WE W σ) := fun _ _ _ e s' I c => tk e s' (L2N.XE.of_call I (fun _ _ _ h => h) c)
theorem pe_calX {X : Cx} {W : WX} {x : Str} {k : Nat} {ps : List Str} {sp : Sp} {e : Expr} {es : List Expr} {t : TA} {p pos : Pos} (C : CalX X.prog X.w X.K X.mg X.base x k ps sp) (tk : L2N.Takes X W) (hr : Room k X.A) (hg : Gl X x) (ha : PA X (e :: es) t)
    (hdb : (x == ("__debug__" : Str)) = false := by decide) (he : starEach (e :: es) X.env = (false, eval e X.env) :: starEach es X.env := by rfl) (hpl : (backTo pos (starEach es X.env)).any (·.1) = false := by rfl) :
    PE X (.Call (.Name x p) (e :: es) [] pos) (tCallS sp (WE W) t) := by
  obtain ⟨f, fd, F, hm, hk, hb⟩ := C.ex
  exact pe_callS F hr hg hm hk hb (fun σ => passAtN tk σ) ha hdb he hpl
theorem cal_ofX {P : Program} {w : World} {K : PySem.W.Frag} {mg : Str → Option Value} {base : Heap} {x : Str} {st : Stmt} {N ps : List Str} {k : Nat} {sp : Sp} (D : Dn K mg x st ps) (S : FnScope N ps (defScope st)) (len : ∀ vs H Q E, sp vs H Q E → vs.length = ps.length)
    (hbody : ∀ (f : Addr) (cdv : Value) (A : Around) (outer : List Env) (s : Shared) (H : Hp) (vs : List V) (Q : VK) (E : XK), Room k (A.deeper (envOfC x (defScope st) s.heap.objs.size f cdv)) → sp vs H Q E →
      ∃ t, PSs (cxOf (L2N.CX P w) P w K mg base N x (defScope st) f cdv A outer s H E) (defBody st) t ∧ t { nx := fun _ H' => Q .non H', rt := Q } (start N vs) H) : CalX P w K mg base x (k + 1) ps sp := by
  obtain ⟨f, fd, F, g, b⟩ := D.ex
  have kp := F.kp
  obtain ⟨oc, od, kV, doc, pm, an, cdv, ct, osl, rfl, lk, hcd⟩ := F.ex
  exact ⟨f, _, fn_of lk hcd S len fun A outer s H vs Q E hr h => hbody f cdv A outer s H vs Q E hr h, g, kp, b⟩
theorem takesOf {P : Program} {w : World} {K : PySem.W.Frag} {mg : Str → Option Value} {base : Heap} {N : List Str} {q : Str} {sc : Scope} {f : Addr} {cdv : Value} {A : Around} {outer : List Env} {s : Shared} {H : Hp} {E : XK} :
    L2N.Takes (cxOf (L2N.CX P w) P w K mg base N q sc f cdv A outer s H E) (fun cls d _ H => E cls d H) := L2N.takes_of rfl rfl rfl rfl
end Ik

/-! ### a def that asks nothing of what is handled -/
namespace L2
open PySem PySem.Spec PyProof.Rows
structure FnN (P : Program) (w : World) (K : PySem.W.Frag) (mg : Str → Option Value) (base : Heap) (k : Nat) (f : Addr) (fd : FuncData) (ps : List Str) (sp : Sp) : Prop where
  len : ∀ vs H Q E, sp vs H Q E → vs.length = ps.length
  run : ∀ (A : Around) (outer : List Env) (s : Shared) (H : Hp) (args : Args) (us : List Value) (vs : List V) (Q : VK) (E : XK), L2H.RoomH k A → Env0 P w K mg base A outer s H → BindsTo s fd args (ps.zip us) → Vals vs us → sp vs H Q E →
    codeAny (model P w) A (.call (.ref f) args) (CR CX0 outer P w H s Q E) s
def cxN (P : Program) (w : World) (K : PySem.W.Frag) (mg : Str → Option Value) (base : Heap) (N : List Str) (qual : Str) (scope : Scope) (f : Addr) (cd : Value) (A : Around) (outer : List Env) (s : Shared) (H : Hp) (E : XK) : Cx :=
  { cxOf CX0 P w K mg base N qual scope f cd A outer s H E with calm := false }
theorem inv_startNn {P : Program} {w : World} {K : PySem.W.Frag} {mg : Str → Option Value} {base : Heap} {N ps : List Str} {qual : Str} {scope : Scope} {f : Addr} {cd : Value} {A : Around} {outer : List Env} {s s1 : Shared} {H : Hp} {E : XK} {us : List Value} {vs : List V}
    (S : FnScope N ps scope) (e0 : Env0 P w K mg base A outer s H) (hl : vs.length = ps.length) (r : Vals vs us)
    (x : InCallC s s.heap.objs.size (bindL (envOfC qual scope s.heap.objs.size f cd).kindOf (ps.zip us) fun _ => none) (cellsFrom (s.heap.objs.size + 1) scope.names []) (bindC (envOfC qual scope s.heap.objs.size f cd).kindOf (ps.zip us) fun _ => none) s1) :
    Inv (cxN P w K mg base N qual scope f cd A outer s H E) [] (L2.start N vs) H s1 := by
  have hpl : ps.length ≤ N.length := by have := congrArg List.length S.pre; rw [List.length_take] at this; omega
  obtain ⟨h1, tk, rfl, hk⟩ := x.done
  have noA : ∀ b : Addr, b ∉ (cxN P w K mg base N qual scope f cd A outer s H E).ex := fun b z => absurd (show b ∈ ([] : List Addr) from z) (by simp)
  refine ⟨⟨e0.mod, S.kind, rfl, rfl, Nat.le_refl _, fun y z c h1 h2 => ?_, fun y hy => ?_, fun y c _ h => ?_, (fun z => Bool.noConfusion (show false = true from z)), Around.frames_deeper e0.frames, .inr ⟨rfl, rfl⟩, fun b z => absurd z (noA b), e0.bs, e0.bsz, fun b _ _ => noA b, fun b z => absurd z (noA b), e0.funs, e0.frf⟩,
    rfl, e0.bare, Un.kept hk, ⟨_, x.toInCall.ns, fun i y v h1 h2 h3 => ?_⟩, fun y c h => ⟨_, x.cell y c h⟩, e0.hok.fresh (Nat.le_refl _), fun y c h => ?_, fun q hq => absurd (show q ∈ ([] : List (Addr × Obj)) ++ [] from hq) (by simp), e0.hok.kept hk, ?_⟩
  · exact name_of_addr x.apart (PySem.mem_of_lookup h1) (PySem.mem_of_lookup h2)
  · have hy : scope.names.lookup y = some .cell ∨ scope.names.lookup y = some .free := hy
    rcases hy with hy | hy
    · exact cell_has hy
    · exact absurd rfl (S.nofree _ (PySem.mem_of_lookup hy))
  · exact Nat.le_of_lt (x.above y c (PySem.mem_of_lookup h))
  · have hi : i < vs.length := by
      unfold L2.start at h2
      by_cases hi : i < vs.length
      · exact hi
      · rw [List.getElem?_append_right (by simpa using hi)] at h2
        rw [List.getElem?_replicate] at h2
        split at h2 <;> cases h2
    have ha : vs[i]? = some v := by
      unfold L2.start at h2
      rw [List.getElem?_append_left (by simpa using hi), List.getElem?_map] at h2
      cases e : vs[i]? with
      | none => rw [e] at h2; cases h2
      | some a => rw [e] at h2; cases h2; rfl
    obtain ⟨u, hu, rv⟩ := r.get ha
    have hp : ps[i]? = some y := by
      rw [← S.pre, List.getElem?_take_of_lt (by omega)]; exact h1
    have ndP : ps.Nodup := by rw [← S.pre]; exact S.nd.sublist (List.take_sublist _ _)
    refine ⟨u, rv, ?_⟩
    rcases S.par y (List.mem_of_getElem? hp) with k | k
    · exact .inl ⟨k, bindL_get ndP hp hu k⟩
    · obtain ⟨c, e⟩ := cell_has (n := s.heap.objs.size + 1) k
      refine .inr ⟨.inl k, c, e, ?_⟩
      have q := x.cell y c e
      rw [bindC_get ndP hp hu (by show scope.names.lookup y ≠ _; rw [k]; decide)] at q
      exact q
  · exact e0.hok.fresh (Nat.le_of_lt (x.above y c (PySem.mem_of_lookup h)))
  · unfold L2.start
    show _ = N.length
    rw [List.length_append, List.length_map, List.length_replicate]
    omega
end L2
namespace Ik
open PySem PySem.Spec PyProof.Rows L2 Evl
structure CalN (P : Program) (w : World) (K : PySem.W.Frag) (mg : Str → Option Value) (base : Heap) (x : Str) (k : Nat) (ps : List Str) (sp : Sp) : Prop where
  ex : ∃ (f : Addr) (fd : FuncData), FnN P w K mg base k f fd ps sp ∧ mg x = some (.ref f) ∧ PySem.W.keepIn K (.ref f) = true ∧ Binds K fd ps []
theorem cal_ofN {P : Program} {w : World} {K : PySem.W.Frag} {mg : Str → Option Value} {base : Heap} {x : Str} {st : Stmt} {N ps : List Str} {k : Nat} {sp : Sp} (D : Dn K mg x st ps) (S : FnScope N ps (defScope st)) (len : ∀ vs H Q E, sp vs H Q E → vs.length = ps.length)
    (hbody : ∀ (f : Addr) (cdv : Value) (A : Around) (outer : List Env) (s : Shared) (H : Hp) (vs : List V) (Q : VK) (E : XK), L2H.RoomH k (A.deeper (envOfC x (defScope st) s.heap.objs.size f cdv)) → sp vs H Q E →
      ∃ t, PSs (cxN P w K mg base N x (defScope st) f cdv A outer s H E) (defBody st) t ∧ t { nx := fun _ H' => Q .non H', rt := Q } (start N vs) H) : CalN P w K mg base x (k + 1) ps sp := by
  obtain ⟨f, fd, F, g, b⟩ := D.ex
  have kp := F.kp
  obtain ⟨oc, od, kV, doc, pm, an, cdv, ct, osl, rfl, lk, hcd⟩ := F.ex
  refine ⟨f, _, ⟨len, fun A outer s H args us vs Q E hr e0 hb r hsp => ?_⟩, g, kp, b⟩
  have hl := len _ _ _ _ hsp
  have KX : K.In s.heap := e0.mod.kin.keeps fun b o e => (e0.bs b o e).1
  have lim : s.heap.NoLimit := e0.mod.nolimit.keeps fun b o e => (e0.bs b o e).1
  have par : ∀ y ∈ ps.zip us, (defScope st).names.lookup y.1 = some .local ∨ ((defScope st).names.lookup y.1 = some .cell ∧ ((cellsFrom (s.heap.objs.size + 1) (defScope st).names []).lookup y.1).isSome = true) := fun ⟨n, v⟩ hy =>
    (S.par n (List.of_mem_zip hy).1).imp id fun q => ⟨q, PySem.W.cellsFrom_some _ _ _ (.inl q)⟩
  refine codeAny_call_function hr.depth (KX _ _ lk) rfl S.co S.gen rfl (PySem.W.codeRec_of KX hcd) (hb _ _ _ _ ?_)
  refine wpAny_newFunctionEnv_cells S.kind par fun env he s1 x => ?_
  subst he
  refine ⟨lim.keeps x.toInCall.keep, codeAny_func ?_⟩
  obtain ⟨t, ht, hq⟩ := hbody f cdv A outer s H vs Q E (hr.deeper _) hsp
  refine wpAny_mono (ht.run [] s1 _ H _ (inv_startNn S e0 hl r x) hq) (fun fl s' hs => ?_) fun e s' hs => hs
  cases fl with
  | ret u =>
    obtain ⟨v, σ', H', J, rv, q⟩ := hs
    exact ⟨v, H', J.os, J.bare, J.base, J.hok, rv, q⟩
  | next =>
    obtain ⟨σ', H', J, q⟩ := hs
    exact ⟨.non, H', J.os, J.bare, J.base, J.hok, rfl, q⟩
  | brk => exact hs.elim fun _ z => z.elim fun _ z => z.2.elim
  | cont => exact hs.elim fun _ z => z.elim fun _ z => z.2.elim
theorem pe_calN {X : Cx} {x : Str} {k : Nat} {ps : List Str} {sp : Sp} {e : Expr} {es : List Expr} {t : TA} {p pos : Pos} (C : CalN X.prog X.w X.K X.mg X.base x k ps sp) (hr : L2H.RoomH k X.A) (hg : Gl X x) (ha : PA X (e :: es) t)
    (hdb : (x == ("__debug__" : Str)) = false := by decide) (he : starEach (e :: es) X.env = (false, eval e X.env) :: starEach es X.env := by rfl) (hpl : (backTo pos (starEach es X.env)).any (·.1) = false := by rfl) :
    PE X (.Call (.Name x p) (e :: es) [] pos) (tCall sp [] E0 t) := by
  obtain ⟨f, fd, F, hm, hk, hb⟩ := C.ex
  refine ⟨fun pins s σ H Q I h => ?_⟩
  refine wpAny_Call_Name_kw (ld_glob I hg hm ?_ hdb)
  refine PySem.W.callWith_K (h₀ := X.base) I.ok.mod.kin hk (thn (ha.run pos pins s σ H _ I h) fun us s1 ⟨vs, H1, I1, r, q⟩ => ⟨I1.kIn, ?_⟩) he hpl
  have q : sp (vs ++ []) H1 Q E0 := q
  rw [List.append_nil] at q
  have hl : us.length = ps.length := by
    rw [← r.length]
    exact F.len _ _ _ _ q
  have b := hb s1 us I1.kIn (by rw [List.append_nil]; exact hl)
  rw [List.append_nil] at b
  refine wpAny_call (codeAny_mono (F.run X.A X.stack s1 H1 ⟨us, []⟩ us vs _ _ hr I1.env0 b r q) fun r s' hq => ?_)
  cases r with
  | error e => exact False.elim hq
  | ok fl =>
    cases fl with
    | ret u => exact I1.after hq
    | next => exact False.elim hq
    | brk => exact False.elim hq
    | cont => exact False.elim hq
end Ik

namespace Ik
open PySem PySem.Spec PyProof.Rows L2 Evl
theorem hu0 {A : Around} {k : Nat} (hr : Room k A) : A.units < cLine := Nat.lt_of_le_of_lt (Nat.le_add_right _ 64) hr.units
/-! ### list(d.values()) -/
def tListVals (te : TE) : TE := fun σ H Q => te σ H fun x H1 => ∃ (d : Addr) (kvs : List (Key × V)), x = .ref d ∧ H1 d = some (.dK kvs) ∧ ∀ p, H1 p = none → Q (.ref p) (upd H1 p (.lst (kvs.map (·.2))))
theorem kv_vals {kvs : List (Key × V)} {vs : List (Key × Value)} (h : KV kvs vs) : Vals (kvs.map (·.2)) (vs.map (·.2)) := by
  unfold KV at h
  induction h with
  | nil => exact .nil
  | cons h t k => exact .cons h.2 k
section
variable {X : Cx} {e : Expr} {te : TE} {p apos cpos pos : Pos}
theorem pe_listVals (hc : X.calm = true) (he : PE X e te) (hg : Gl X "list") (hm : X.mg "list" = none) (hv : bootBuiltins "list" = some (.type "list") := by decide +kernel) (hbase : attributeBase e "values" X.env (eval e X.env) = eval e X.env := by rfl) (hline : (apos.endLine == cpos.line) = true := by rfl)
    (hs : starEach [.Call (.Attribute e "values" apos) [] [] cpos] X.env = (false, eval (.Call (.Attribute e "values" apos) [] [] cpos) X.env) :: starEach [] X.env := by rfl) :
    PE X (.Call (.Name "list" p) [.Call (.Attribute e "values" apos) [] [] cpos] [] pos) (tListVals te) := by
  refine ⟨fun pins s σ H Q I hq => ?_⟩
  refine wpAny_Call_Name_kw (ld_blt I hg hm hv ?_)
  refine PyProof.Rows.callWith_type1 ?_ hs rfl
  rw [hs]
  show wpAny _ _ (spliced ((false, eval (.Call (.Attribute e "values" apos) [] [] cpos) X.env) :: backTo pos (starEach [] X.env))) _ _ s
  refine Calls.spliced_cons ?_
  refine wpAny_Call_method (T := "dict") (id := "dict.values") hbase rfl hline F.plainAttrs_dict F.slot_dict_values F.type_dict_values (thn (he.run pins s σ H _ I hq) fun u s1 ⟨x, H1, I1, rx, d, kvs, ex, hd, q⟩ => ?_)
  subst ex
  obtain rfl : u = Value.ref d := rx
  obtain ⟨hz, hs0, vs, kv, hdo⟩ := I1.hok d _ hd
  obtain ⟨ep, hat⟩ := hdo.dictAt
  have lk : kvs.length = vs.length := Paired.length kv
  have I2 : Inv X pins σ H1 { s1 with heap := s1.heap.push { cls := .type "dict_values", data := .fields #[.ref d] } } := I1.kept (t' := s1.toks) fun b ob q => Heap.get?_push_of_some _ q
  refine ⟨hdo.typeIs, hdo.mapOf.noDict, ?_⟩
  show wpAny _ _ (callWith cpos (.builtin "dict.values") [.ref d] [] []) _ X.xe s1
  refine method_meetsIn F.slot_dict_values F.entry_dict_values rfl (PySem.evalArgs_none ⟨rfl, hdo.typeIs, F.args_dict_values_1 _, _, meets_dict_values (mixKind X.prog X.w) d hs0, ⟨vs, hdo⟩, ?_⟩)
  refine Calls.spliced_nil ?_
  refine PySem.W.kdl_call (PySem.W.kdl_values (knd := mixKind X.prog X.w) (kvs := vs) (ep := ep) (r := s1.heap.objs.size) (d := d)) (I1.ok.hd hc) ⟨⟨_, Heap.get?_push_size _ rfl, rfl, rfl⟩, hat.push _⟩ (by omega) fun h' tk acc c hk hD hacc => ?_
  have ev : acc.toList = vs.map (·.2) := PySem.W.kdl_vals_eq acc.toList (by rw [Array.length_toList]; exact hacc.1) fun j v e => hacc.2 j v (by rw [← Array.getElem?_toList]; exact e)
  exact ⟨.ref _, upd H1 _ (.lst (kvs.map (·.2))), I2.laid (t' := tk) hk (Nat.le_refl _) (show ObjOk X.prog X.w _ _ _ (.lst (kvs.map (·.2))) from ⟨by rw [List.length_map]; exact hz, acc.toList, c, by rw [ev]; exact kv_vals kv, by rw [Array.toArray_toList]; exact hD⟩), rfl, q _ (I2.hok.fresh (Nat.le_refl _))⟩
end
section
variable {K : PySem.W.Frag} {σ : L2.St} {H H' : Hp} {ta tb tc te tl : TE} {t u : TT} {x y z v : V} {R : Rel}
theorem el_vals {d : Addr} {kvs : List (Key × V)} (h : Ev te σ H (.ref d)) (hd : H d = some (.dK kvs)) : EvL (tListVals te) σ H (kvs.map (·.2)) := fun H1 e Q q =>
  h H1 e _ fun H2 e2 => ⟨d, kvs, rfl, (e.trans e2) _ _ hd, fun p hp => q p _ (fresh_back e2 hp) (e2.trans (Ex.new hp)) upd_same⟩
/-- a new dict -/
def EvD (te : TE) (σ : L2.St) (H : Hp) (kvs : List (Key × V)) : Prop := ∀ H1, Ex H H1 → ∀ Q : VK, (∀ p H2, H1 p = none → Ex H1 H2 → H2 p = some (.dK kvs) → Q (.ref p) H2) → te σ H1 Q
def SpD (sp : Sp) (vs : List V) (H : Hp) (kvs : List (Key × V)) : Prop := ∀ H1, Ex H H1 → ∀ Q : VK, (∀ p H2, H1 p = none → Ex H1 H2 → H2 p = some (.dK kvs) → Q (.ref p) H2) → ∀ E : XK, sp vs H1 Q E
def RetD (kvs : List (Key × V)) (H : Hp) (Q : VK) : Prop := ∀ p H2, H p = none → Ex H H2 → H2 p = some (.dK kvs) → Q (.ref p) H2
theorem RetD.go {kvs : List (Key × V)} {Q : VK} (k : RetD kvs H Q) (e : Ex H H') {p : Addr} {H2 : Hp} (hp : H' p = none) (e2 : Ex H' H2) (h : H2 p = some (.dK kvs)) : Q (.ref p) H2 := k p H2 (fresh_back e hp) (e.trans e2) h
theorem ed_call0 {sp : Sp} {vs : List V} {kvs : List (Key × V)} {E : XK} {ta : TA} (h : EvA ta σ H vs) (hs : SpD sp vs H kvs) : EvD (tCall sp [] E ta) σ H kvs := fun H1 e Q q =>
  h H1 e _ fun H2 e2 => by
    rw [List.append_nil]
    exact hs H2 (e.trans e2) Q (fun p H3 hp e3 h3 => q p H3 (fresh_back e2 hp) (e2.trans e3) h3) E
theorem ed_is {kvs kvs' : List (Key × V)} (h : EvD te σ H kvs) (e : kvs = kvs') : EvD te σ H kvs' := e ▸ h
theorem el_valsN {kvs : List (Key × V)} (h : EvD te σ H kvs) : EvL (tListVals te) σ H (kvs.map (·.2)) := fun H1 e Q q =>
  h H1 e _ fun d H2 hd0 e2 hd => ⟨d, kvs, rfl, hd, fun p hp => q p _ (fresh_back e2 hp) (e2.trans (Ex.new hp)) upd_same⟩
theorem ed_new : EvD tDNewK σ H [] := fun H1 e Q q => fun d hd => q d _ hd (Ex.new hd) upd_same
variable {D : Ends} {tu tz : TS}
theorem s_asgD {i : Nat} {kvs : List (Key × V)} (h : EvD te σ H kvs) (k : ∀ p H1, H p = none → Ex H H1 → H1 p = some (.dK kvs) → D.nx (σ.set i (some (.ref p))) H1) : tAsg te (gName i) D σ H := h H (Ex.refl H) _ fun p H1 hp e h1 => k p H1 hp e h1
theorem q_asgD {i : Nat} {kvs : List (Key × V)} (h : EvD te σ H kvs) (k : ∀ p H1, H p = none → Ex H H1 → H1 p = some (.dK kvs) → tz D (σ.set i (some (.ref p))) H1) : tSeq (tAsg te (gName i)) tz D σ H := s_asgD (D := { D with nx := tz D }) h k
theorem s_retD {kvs : List (Key × V)} (h : EvD te σ H kvs) (k : ∀ p H1, H p = none → Ex H H1 → H1 p = some (.dK kvs) → D.rt (.ref p) H1) : tRet te D σ H := h H (Ex.refl H) _ k
/-- list(d), sorted(d): the keys -/
theorem el_keys {d : Addr} {kvs : List (Key × V)} (h : Ev te σ H (.ref d)) (hd : H d = some (.dK kvs)) : EvL (tCB rListD (tCons te tNil)) σ H (kvs.map fun kv => kV kv.1) := fun H1 e Q q =>
  h H1 e _ fun H2 e2 => ⟨d, kvs, rfl, (e.trans e2) _ _ hd, fun p hp => q p _ (fresh_back e2 hp) (e2.trans (Ex.new hp)) upd_same⟩
theorem ev_lenD {d : Addr} {kvs : List (Key × V)} (h : Ev te σ H (.ref d)) (hd : H d = some (.dK kvs)) : Ev (tCB (fun xs H Q => ∃ a kvs, xs = [V.ref a] ∧ H a = some (.dK kvs) ∧ Q (.int kvs.length) H) (tCons te tNil)) σ H (.int (kvs.length : Int)) := fun H1 e Q q =>
  h H1 e _ fun H2 e2 => ⟨d, kvs, rfl, (e.trans e2) _ _ hd, q H2 e2⟩
/-- d[k], a key that is an int -/
theorem ev_dget {d : Addr} {kvs : List (Key × V)} {n : Int} (h : Ev ta σ H (.ref d)) (hk : Ev tb σ H (.int n)) (hd : H d = some (.dK kvs)) (hv : valV kvs (Sum.inl n) = some v) : Ev (tDGet ta tb) σ H v := fun H1 e Q q =>
  h H1 e _ fun H2 e2 => hk H2 (e.trans e2) _ fun H3 e3 => ⟨d, v, rfl, by
    have g := DGet.k (k := Sum.inl n) (((e.trans e2).trans e3) _ _ hd)
    rw [hv] at g
    exact g, q H3 (e2.trans e3)⟩
theorem ev_din {d : Addr} {kvs : List (Key × V)} {n : Int} (hk : Ev tb σ H (.int n)) (h : Ev ta σ H (.ref d)) (hd : H d = some (.dK kvs)) : Ev (tDIn tb ta) σ H (.bl (valV kvs (Sum.inl n)).isSome) := fun H1 e Q q =>
  hk H1 e _ fun H2 e2 => h H2 (e.trans e2) _ fun H3 e3 => ⟨d, _, rfl, DGet.k (k := Sum.inl n) (((e.trans e2).trans e3) _ _ hd), q H3 (e2.trans e3)⟩
theorem ev_dnotin {d : Addr} {kvs : List (Key × V)} {n : Int} (hk : Ev tb σ H (.int n)) (h : Ev ta σ H (.ref d)) (hd : H d = some (.dK kvs)) : Ev (tDNotIn tb ta) σ H (.bl !(valV kvs (Sum.inl n)).isSome) := fun H1 e Q q =>
  hk H1 e _ fun H2 e2 => h H2 (e.trans e2) _ fun H3 e3 => ⟨d, _, rfl, DGet.k (k := Sum.inl n) (((e.trans e2).trans e3) _ _ hd), q H3 (e2.trans e3)⟩
/-- d[k] = v -/
theorem s_dput {d : Addr} {kvs : List (Key × V)} {n : Int} (hv : Ev te σ H v) (h : Ev ta σ H (.ref d)) (hk : Ev tb σ H (.int n)) (hd : H d = some (.dK kvs)) (hz : kvs.length < 100000) (k : ∀ H1, Ex H H1 → D.nx σ (upd H1 d (.dK (putK kvs (Sum.inl n) v)))) : sDPut ta tb te D σ H :=
  hv H (Ex.refl H) _ fun H1 e1 => h H1 e1 _ fun H2 e2 => hk H2 (e1.trans e2) _ fun H3 e3 => ⟨d, _, rfl, DPut.k (k := Sum.inl n) (((e1.trans e2).trans e3) _ _ hd) (sz_lt hz), k H3 ((e1.trans e2).trans e3)⟩
theorem q_dput {d : Addr} {kvs : List (Key × V)} {n : Int} (hv : Ev te σ H v) (h : Ev ta σ H (.ref d)) (hk : Ev tb σ H (.int n)) (hd : H d = some (.dK kvs)) (hz : kvs.length < 100000) (k : ∀ H1, Ex H H1 → tz D σ (upd H1 d (.dK (putK kvs (Sum.inl n) v)))) : tSeq (sDPut ta tb te) tz D σ H :=
  s_dput (D := { D with nx := tz D }) hv h hk hd hz k
/-- dict(d) -/
theorem ed_copy {d : Addr} {kvs : List (Key × V)} (h : Ev te σ H (.ref d)) (hd : H d = some (.dK kvs)) : EvD (tCB (fun xs H Q => ∃ (a : Addr) (kvs : List (Key × V)), xs = [.ref a] ∧ Rd H a (.dK kvs) ∧ ∀ p, H p = none → Q (.ref p) (upd H p (.dK kvs))) (tCons te tNil)) σ H kvs := fun H1 e Q q =>
  h H1 e _ fun H2 e2 => ⟨d, kvs, rfl, .inl ((e.trans e2) _ _ hd), fun p hp => q p _ (fresh_back e2 hp) (e2.trans (Ex.new hp)) upd_same⟩
end
end Ik

namespace Ik
open PySem PySem.Spec PyProof.Rows L2 Evl
/-! ### a < b < c < d -/
def tChain3 (r r' r'' : R2) (ta tb tc td : TE) : TE := fun σ H Q => ta σ H fun x H1 => tb σ H1 fun y H2 => r x y H2 fun z H3 => ∃ k, z = .bl k ∧
  (if k = true then tc σ H3 fun w H4 => r' y w H4 fun z' H5 => ∃ k', z' = .bl k' ∧ (if k' = true then td σ H5 fun u H6 => r'' w u H6 Q else Q (.bl false) H5) else Q (.bl false) H3)
theorem pe_chain3 {X : Cx} {a b c d : Expr} {ta tb tc td : TE} {pos : Pos} {op op' op'' : CmpOp} {r r' r'' : R2} (ho : OpR X (compareOp op) r) (ho' : OpR X (compareOp op') r') (ho'' : OpR X (compareOp op'') r'') (ha : PE X a ta) (hb : PE X b tb) (hc : PE X c tc) (hd : PE X d td)
    (hm : lastMarks [op, op', op''] [b, c, d] = false := by with_unfolding_all rfl) : PE X (.Compare a [op, op', op''] [b, c, d] pos) (tChain3 r r' r'' ta tb tc td) := by
  refine ⟨fun pins s σ H Q I h => ?_⟩
  refine Compare_chain (thn (ha.run pins s σ H _ I h) fun v s1 ⟨x, H1, I1, r1, q1⟩ => chain_link (thn (hb.run pins s1 σ H1 _ I1 q1) fun u s2 ⟨y, H2, I2, r2, q2⟩ =>
    thn (ho pins s2 σ H2 x y v u _ I2 r1 r2 q2) fun d1 s3 ⟨z, H3, I3, r3, k, e, q3⟩ => ?_)) hm
  subst e
  cases r3
  refine wpAny_truthy_bool ?_
  cases k with
  | false => exact ite_ff ⟨.bl false, H3, I3, rfl, q3⟩
  | true =>
    refine ite_tt (chain_link (thn (hc.run pins s3 σ H3 _ I3 q3) fun w' s4 ⟨z', H4, I4, r4, q4⟩ => thn (ho' pins s4 σ H4 y z' u w' _ I4 r2 r4 q4) fun d2 s5 ⟨z2, H5, I5, r5, k', e', q5⟩ => ?_))
    subst e'
    cases r5
    refine wpAny_truthy_bool ?_
    cases k' with
    | false => exact ite_ff ⟨.bl false, H5, I5, rfl, q5⟩
    | true => exact ite_tt (chain_last (thn (hd.run pins s5 σ H5 _ I5 q5) fun u' s6 ⟨z3, H6, I6, r6, q6⟩ => ho'' pins s6 σ H6 z' z3 w' u' Q I6 r4 r6 q6))
section
variable {K : PySem.W.Frag} {σ : L2.St} {H H' : Hp} {ta tb tc td te tl : TE} {t u : TT} {x y z v : V} {R : Rel}
theorem ev_chain3I {g g' g'' : Int → Int → Bool} {i j k l : Int} (ha : Ev ta σ H (.int i)) (hb : Ev tb σ H (.int j)) (hc : Ev tc σ H (.int k)) (hd : Ev td σ H (.int l)) :
    Ev (tChain3 (rI0 fun i j => .bl (g i j)) (rI0 fun i j => .bl (g' i j)) (rI0 fun i j => .bl (g'' i j)) ta tb tc td) σ H (.bl (g i j && (g' j k && g'' k l))) := fun H1 e Q q =>
  ha H1 e _ fun H2 e2 => hb H2 (e.trans e2) _ fun H3 e3 => ⟨i, j, rfl, rfl, g i j, rfl, by
    have e13 := e2.trans e3
    cases g1 : g i j with
    | false =>
      rw [g1] at q
      exact q H3 e13
    | true =>
      rw [g1] at q
      show tc σ H3 _
      refine hc H3 (e.trans e13) _ fun H4 e4 => ⟨j, k, rfl, rfl, g' j k, rfl, ?_⟩
      cases g2 : g' j k with
      | false =>
        rw [g2] at q
        exact q H4 (e13.trans e4)
      | true =>
        rw [g2] at q
        show td σ H4 _
        exact hd H4 ((e.trans e13).trans e4) _ fun H5 e5 => ⟨k, l, rfl, rfl, q H5 ((e13.trans e4).trans e5)⟩⟩

/-! ### sorted ints -/
def sortI (ns : List Int) : List Int := ns.mergeSort fun a b => decide (a ≤ b)
theorem sortI_perm (ns : List Int) : (sortI ns).Perm ns := List.mergeSort_perm _ _
theorem sortI_le (ns : List Int) : (sortI ns).Pairwise (· ≤ ·) := by
  have h := List.pairwise_mergeSort (le := fun a b : Int => decide (a ≤ b)) (fun a b c h1 h2 => by
    rw [decide_eq_true_eq] at *
    omega) (fun a b => by
    rw [Bool.or_eq_true, decide_eq_true_eq, decide_eq_true_eq]
    omega) ns
  exact h.imp fun h => of_decide_eq_true h
theorem sorted_uniq : ∀ {xs ys : List Int}, xs.Perm ys → xs.Pairwise (· ≤ ·) → ys.Pairwise (· ≤ ·) → xs = ys
  | [], ys, p, _, _ => (List.nil_perm.mp p).symm
  | x :: r, ys, p, hx, hy => by
    obtain ⟨h1, h2⟩ := List.pairwise_cons.mp hx
    cases ys with
    | nil => exact absurd (List.perm_nil.mp p) (List.cons_ne_nil _ _)
    | cons y q =>
      obtain ⟨h3, h4⟩ := List.pairwise_cons.mp hy
      have a1 : x ∈ y :: q := p.subset List.mem_cons_self
      have a2 : y ∈ x :: r := p.symm.subset List.mem_cons_self
      have e : x = y := by
        rcases List.mem_cons.mp a1 with e | m1
        · exact e
        · rcases List.mem_cons.mp a2 with e | m2
          · exact e.symm
          · have := h3 x m1
            have := h1 y m2
            omega
      subst e
      rw [sorted_uniq (List.Perm.cons_inv p) h2 h4]
theorem sortI_of {ns ys : List Int} (p : ys.Perm ns) (h : ys.Pairwise (· ≤ ·)) : ys = sortI ns := sorted_uniq (p.trans (sortI_perm ns).symm) h (sortI_le ns)
theorem sortI_len (ns : List Int) : (sortI ns).length = ns.length := (sortI_perm ns).length_eq
theorem sortI_mem {ns : List Int} {x : Int} : x ∈ sortI ns ↔ x ∈ ns := (sortI_perm ns).mem_iff
theorem sortI_nodup {ns : List Int} (h : ns.Nodup) : (sortI ns).Nodup := (sortI_perm ns).symm.nodup h
theorem el_sort {a : Addr} {ns : List Int} (h : Ev te σ H (.ref a)) (hx : SqL K H a (ns.map V.int)) : EvL (tCB (rSortedI K) (tCons te tNil)) σ H ((sortI ns).map V.int) := fun H1 e Q q =>
  h H1 e _ fun H2 e2 => ⟨a, ns, rfl, ex_l (e.trans e2) hx, fun ys p hp hs hn => by
    rw [sortI_of hp hs]
    exact q p _ (fresh_back e2 hn) (e2.trans (Ex.new hn)) upd_same⟩
theorem el_sortN {ns : List Int} (h : EvL te σ H (ns.map V.int)) : EvL (tCB (rSortedI K) (tCons te tNil)) σ H ((sortI ns).map V.int) := fun H1 e Q q =>
  h H1 e _ fun a H2 _ e2 h2 => ⟨a, ns, rfl, sq_of h2, fun ys p hp hs hn => by
    rw [sortI_of hp hs]
    exact q p _ (fresh_back e2 hn) (e2.trans (Ex.new hn)) upd_same⟩
/-- sorted of a dict with int keys -/
def rSortDI : List V → Hp → VK → Prop := fun vs H Q => ∃ (a : Addr) (kvs : List (Key × V)) (ks : List Int), vs = [.ref a] ∧ Rd H a (.dK kvs) ∧ kvs.map (·.1) = ks.map Sum.inl ∧ ks.length < 64 ∧ ∀ (ys : List Int) (p : Addr), ys.Perm ks → ys.Pairwise (· ≤ ·) → H p = none → Q (.ref p) (upd H p (.lst (ys.map V.int)))
theorem el_sortD {a : Addr} {kvs : List (Key × V)} {ks : List Int} (h : Ev te σ H (.ref a)) (hx : H a = some (.dK kvs)) (hk : kvs.map (·.1) = ks.map Sum.inl) (hl : ks.length < 64) : EvL (tCB rSortDI (tCons te tNil)) σ H ((sortI ks).map V.int) := fun H1 e Q q =>
  h H1 e _ fun H2 e2 => ⟨a, kvs, ks, rfl, .inl ((e.trans e2) _ _ hx), hk, hl, fun ys p hp hs hn => by
    rw [sortI_of hp hs]
    exact q p _ (fresh_back e2 hn) (e2.trans (Ex.new hn)) upd_same⟩

/-! ### a, b, c = a tuple -/
variable {D : Ends} {tu tz : TS}
theorem s_asg3 {p : Addr} {a b c : V} {i j k : Nat} (h : Ev te σ H (.ref p)) (hp : H p = some (.tup [a, b, c])) (q : ∀ H1, Ex H H1 → D.nx (((σ.set i (some a)).set j (some b)).set k (some c)) H1) :
    tAsg te (gTup K 3 (gCons (gName i) (gCons (gName j) (gCons (gName k) gNil)))) D σ H := h H (Ex.refl H) _ fun H1 e => ⟨p, [a, b, c], rfl, .inl (.inl (e _ _ hp)), rfl, a, [b, c], rfl, b, [c], rfl, c, [], rfl, rfl, q H1 e⟩
theorem q_asg3 {p : Addr} {a b c : V} {i j k : Nat} (h : Ev te σ H (.ref p)) (hp : H p = some (.tup [a, b, c])) (q : ∀ H1, Ex H H1 → tz D (((σ.set i (some a)).set j (some b)).set k (some c)) H1) :
    tSeq (tAsg te (gTup K 3 (gCons (gName i) (gCons (gName j) (gCons (gName k) gNil))))) tz D σ H := s_asg3 (D := { D with nx := tz D }) h hp q

/-! ### dict([(k, v) for x in xs if ..]) -/
def rDictP (K : PySem.W.Frag) : List V → Hp → VK → Prop := fun xs H Q => ∃ (a : Addr) (ps : List Addr) (kvs : List (Key × V)), xs = [.ref a] ∧ SqL K H a (ps.map V.ref) ∧ Paired (fun p kv => SqT K H p [kV kv.1, kv.2]) ps kvs ∧ ∀ p, H p = none → Q (.ref p) (upd H p (.dK (mergeK [] kvs)))
theorem paired_len {α β : Type} {F : α → β → Prop} : ∀ {xs : List α} {ys : List β}, Paired F xs ys → xs.length = ys.length
  | _, _, .nil => rfl
  | _, _, .cons _ t => congrArg (· + 1) (paired_len t)
theorem paired_imp {α β : Type} {F G : α → β → Prop} (h : ∀ x y, F x y → G x y) : ∀ {xs : List α} {ys : List β}, Paired F xs ys → Paired G xs ys
  | _, _, .nil => .nil
  | _, _, .cons a t => .cons (h _ _ a) (paired_imp h t)
theorem paired_snoc {α β : Type} {F : α → β → Prop} {x : α} {y : β} (h : F x y) : ∀ {xs : List α} {ys : List β}, Paired F xs ys → Paired F (xs ++ [x]) (ys ++ [y])
  | _, _, .nil => .cons h .nil
  | _, _, .cons a t => .cons a (paired_snoc h t)
def CwU {α : Type} (H : Hp) (l : List α) (f : α → Bool) (g : α → Key × V) (Dl : Addr) (i : Nat) (H' : Hp) : Prop :=
  H Dl = none ∧ Ex H H' ∧ ∃ ps : List Addr, H' Dl = some (.lst (ps.map V.ref)) ∧ Paired (fun p kv => H' p = some (.tup [kV kv.1, kv.2])) ps (((l.take i).filter f).map g)
theorem cwU_turn {α : Type} {l : List α} {f : α → Bool} {g : α → Key × V} {Dl : Addr} {i : Nat} {x : α} {σ2 : L2.St} (p : CwU H l f g Dl i H') (hi : l[i]? = some x) (hz : l.length < 50000) (ht : EvT t σ2 H (f x)) (he : f x = true → EvU te σ2 H [kV (g x).1, (g x).2]) :
    t σ2 H' fun b H3 => if b = true then te σ2 H3 fun y H4 => ∃ acc, H4 Dl = some (.lst acc) ∧ acc.length < sizeLine ∧ CwU H l f g Dl (i + 1) (upd H4 Dl (.lst (acc ++ [y]))) else CwU H l f g Dl (i + 1) H3 := by
  obtain ⟨p1, p2, ps, p3, p4⟩ := p
  have hlt : i < l.length := (List.getElem?_eq_some_iff.mp hi).1
  have hlen : (ps.map V.ref).length ≤ l.length := by
    rw [List.length_map, paired_len p4, List.length_map]
    refine Nat.le_trans (List.length_filter_le _ _) ?_
    rw [List.length_take]
    omega
  refine ht H' p2 _ fun H3 e3 => ?_
  cases hf : f x with
  | true =>
    show te σ2 H3 fun y H4 => ∃ acc, H4 Dl = some (.lst acc) ∧ acc.length < sizeLine ∧ CwU H l f g Dl (i + 1) (upd H4 Dl (.lst (acc ++ [y])))
    refine he hf H3 (p2.trans e3) _ fun q H4 hq e4 h4 => ⟨_, e4 Dl _ (e3 Dl _ p3), sz_lt (by omega), p1, Ex.mut ((p2.trans e3).trans e4) p1, ps ++ [q], ?_, ?_⟩
    · rw [upd_same, List.map_append]
      rfl
    · have keep : ∀ b o, b ≠ Dl → H' b = some o → upd H4 Dl (.lst (ps.map V.ref ++ [.ref q])) b = some o := fun b o hb z => by
        rw [upd_ne hb]
        exact e4 b o (e3 b o z)
      have nq : q ≠ Dl := fun z => by
        rw [z, e3 Dl _ p3] at hq
        cases hq
      rw [take_snoc hi, List.filter_append, List.map_append, List.filter_cons, if_pos hf]
      refine paired_snoc (by rw [upd_ne nq]; exact h4) (paired_imp (fun a kv z => keep a _ (fun w => ?_) z) p4)
      rw [w, p3] at z
      cases z
  | false =>
    show CwU H l f g Dl (i + 1) H3
    refine ⟨p1, p2.trans e3, ps, e3 Dl _ p3, ?_⟩
    rw [take_snoc hi, List.filter_append, List.map_append, List.filter_cons, if_neg (by rw [hf]; decide)]
    show Paired _ ps (_ ++ [])
    rw [List.append_nil]
    exact paired_imp (fun a kv z => e3 a _ z) p4
theorem ed_lcNA {α : Type} {j : Nat} {vs : List Nat} (l : List α) (enc : α → V) (f : α → Bool) (g : α → Key × V) (h : EvL tl σ H (l.map enc)) (hz : l.length < 50000) (hw : ∀ x, wipe ((wipe σ vs).set j (some x)) vs = wipe σ vs)
    (ht : ∀ x ∈ l, ∀ H1, Ex H H1 → EvT t ((wipe σ vs).set j (some (enc x))) H1 (f x)) (he : ∀ x ∈ l, f x = true → ∀ H1, Ex H H1 → EvU te ((wipe σ vs).set j (some (enc x))) H1 [kV (g x).1, (g x).2]) :
    EvD (tCB (rDictP K) (tCons (tLc (iList K tl) (gName j) t te vs) tNil)) σ H (mergeK [] ((l.filter f).map g)) := fun H0 e Q q => h H0 e _ fun a H1 ha e1 hx => ⟨a, rfl, ⟨_, sq_of hx⟩, fun Dl hD =>
  lc_list (xs := l.map enc) (CwU H1 l f g Dl) ⟨hD, Ex.new hD, [], upd_same, .nil⟩ (fun i H' _ p => sq_of (p.2.1 a _ hx)) (fun i x H' hi p => by
    rw [List.getElem?_map] at hi
    cases hq : l[i]? with
    | none =>
      rw [hq] at hi
      cases hi
    | some b =>
      rw [hq] at hi
      have ex : enc b = x := Option.some.inj hi
      subst ex
      have hm : b ∈ l := List.mem_of_getElem? hq
      exact ⟨hw _, cwU_turn p hq hz (ht b hm H1 (e.trans e1)) (fun hf => he b hm hf H1 (e.trans e1))⟩)
    (fun H' p => by
      obtain ⟨p1, p2, ps, p3, p4⟩ := p
      rw [List.length_map, List.take_length] at p4
      exact ⟨Dl, ps, _, rfl, sq_of p3, paired_imp (fun a kv z => st_of z) p4, fun d hd => q d _ (fresh_back (e1.trans p2) hd) ((e1.trans p2).trans (Ex.new hd)) upd_same⟩)⟩
/-- mergeK of pairs whose keys differ -/
theorem valV_none {kvs : List (Key × V)} {k : Key} (h : k ∉ kvs.map (·.1)) : valV kvs k = none := by
  cases e : valV kvs k with
  | none => rfl
  | some v => exact absurd (valV_in e) h
theorem mergeK_nodup : ∀ (kvs acc : List (Key × V)), ((acc ++ kvs).map (·.1)).Nodup → mergeK acc kvs = acc ++ kvs
  | [], acc, _ => (List.append_nil acc).symm
  | kv :: r, acc, h => by
    have e : putK acc kv.1 kv.2 = acc ++ [kv] := putK_new _ (valV_none fun m => by
      rw [List.map_append, List.nodup_append] at h
      exact h.2.2 _ m _ List.mem_cons_self rfl)
    show mergeK (putK acc kv.1 kv.2) r = _
    rw [e, mergeK_nodup r (acc ++ [kv]) (by rw [List.append_assoc]; exact h), List.append_assoc]
    rfl
end
end Ik

namespace Ik
open PySem PySem.Spec PyProof.Rows L2 Evl
/-! ### comprehensions over a dict's keys: the dict is locked meanwhile -/
section
variable {K : PySem.W.Frag} {σ : L2.St} {H H1 H' : Hp} {ta tb tc td te tl : TE} {t u : TT} {x y z v : V} {R : Rel} {d : Addr} {kvs : List (Key × V)} {od : Obj}
theorem ex_lock (e : Ex H H1) : Ex (upd H d (.frz od (.dK kvs))) (upd H1 d (.frz od (.dK kvs))) := fun a o h => by
  by_cases q : a = d
  · subst q
    rw [upd_same] at h ⊢
    exact h
  · rw [upd_ne q] at h ⊢
    exact e a o h
theorem ex_unlock (hd : H d = some (.dK kvs)) (e : Ex (upd H d (.frz od (.dK kvs))) H') : Ex H (upd H' d (.dK kvs)) := fun a o h => by
  by_cases q : a = d
  · subst q
    rw [hd] at h
    rw [upd_same]
    exact h
  · rw [upd_ne q]
    exact e a o (by rw [upd_ne q]; exact h)
theorem lock_rd : Rd (upd H d (.frz od (.dK kvs))) d (.dK kvs) := .inr ⟨od, upd_same⟩
theorem lock_at (hd : H d = some (.dK kvs)) {a : Addr} {o : HO} (h : H a = some o) (hn : ∀ k, o ≠ .dK k) : upd H d (.frz od (.dK kvs)) a = some o := by
  have q : a ≠ d := fun z => by
    rw [z, hd] at h
    exact hn _ (Option.some.inj h).symm
  rw [upd_ne q]
  exact h
theorem lock_dict {b : Addr} {ls : List (Key × V)} (h : H b = some (.dK ls)) : b = d ∧ Rd (upd H d (.frz od (.dK kvs))) b (.dK kvs) ∨ b ≠ d ∧ Rd (upd H d (.frz od (.dK kvs))) b (.dK ls) := by
  by_cases q : b = d
  · subst q
    exact .inl ⟨rfl, lock_rd⟩
  · exact .inr ⟨q, .inl (by rw [upd_ne q]; exact h)⟩
theorem lock_list (hd : H d = some (.dK kvs)) {a : Addr} {xs : List V} (h : SqL K H a xs) : SqL K (upd H d (.frz od (.dK kvs))) a xs := by
  rcases h with (h | ⟨o, h⟩) | h
  · exact .inl (.inl (lock_at hd h fun k z => by cases z))
  · exact .inl (.inr ⟨o, lock_at hd h fun k z => by cases z⟩)
  · exact .inr h
theorem ev_dgetR {n : Int} (h : Ev ta σ H (.ref d)) (hk : Ev tb σ H (.int n)) (hd : Rd H d (.dK kvs)) (hv : valV kvs (Sum.inl n) = some v) : Ev (tDGet ta tb) σ H v := fun H1 e Q q =>
  h H1 e _ fun H2 e2 => hk H2 (e.trans e2) _ fun H3 e3 => ⟨d, v, rfl, .inl ⟨kvs, Sum.inl n, ex_rd ((e.trans e2).trans e3) hd, rfl, hv.symm⟩, q H3 (e2.trans e3)⟩
theorem ev_dinR {n : Int} (hk : Ev tb σ H (.int n)) (h : Ev ta σ H (.ref d)) (hd : Rd H d (.dK kvs)) : Ev (tDIn tb ta) σ H (.bl (valV kvs (Sum.inl n)).isSome) := fun H1 e Q q =>
  hk H1 e _ fun H2 e2 => h H2 (e.trans e2) _ fun H3 e3 => ⟨d, _, rfl, .inl ⟨kvs, Sum.inl n, ex_rd ((e.trans e2).trans e3) hd, rfl, rfl⟩, q H3 (e2.trans e3)⟩
theorem ev_dnotinR {n : Int} (hk : Ev tb σ H (.int n)) (h : Ev ta σ H (.ref d)) (hd : Rd H d (.dK kvs)) : Ev (tDNotIn tb ta) σ H (.bl !(valV kvs (Sum.inl n)).isSome) := fun H1 e Q q =>
  hk H1 e _ fun H2 e2 => h H2 (e.trans e2) _ fun H3 e3 => ⟨d, _, rfl, .inl ⟨kvs, Sum.inl n, ex_rd ((e.trans e2).trans e3) hd, rfl, rfl⟩, q H3 (e2.trans e3)⟩
theorem ev_ixT {p : Addr} {xs : List V} {i : Int} (ha : Ev ta σ H (.ref p)) (hb : Ev tb σ H (.int i)) (h : SqT K H p xs) (hv : atI xs i = some v) : Ev (tOp (rIxT K) ta tb) σ H v := ev_op ha hb (rv_ixT h hv)
theorem key_at {ks : List Int} (hk : kvs.map (·.1) = ks.map Sum.inl) {i : Nat} {k : Key} {w : V} (h : kvs[i]? = some (k, w)) : ∃ n, ks[i]? = some n ∧ k = Sum.inl n := by
  have e : (kvs.map (·.1))[i]? = some k := by rw [List.getElem?_map, h]; rfl
  rw [hk, List.getElem?_map] at e
  cases q : ks[i]? with
  | none =>
    rw [q] at e
    cases e
  | some n =>
    rw [q] at e
    exact ⟨n, rfl, (Option.some.inj e).symm⟩
theorem keys_len {ks : List Int} (hk : kvs.map (·.1) = ks.map Sum.inl) : kvs.length = ks.length := by
  have e := congrArg List.length hk
  rw [List.length_map, List.length_map] at e
  exact e
theorem valV_mem : ∀ {ks : List (Key × V)} {x : Key × V}, (ks.map (·.1)).Nodup → x ∈ ks → valV ks x.1 = some x.2
  | y :: r, x, hn, hx => by
    obtain ⟨h1, h2⟩ := List.nodup_cons.mp (show (y.1 :: r.map (·.1)).Nodup from hn)
    unfold valV
    rw [List.find?_cons]
    rcases List.mem_cons.mp hx with rfl | hx
    · rw [decide_eq_true rfl]
      rfl
    · rw [decide_eq_false fun z => h1 (by rw [z]; exact List.mem_map.mpr ⟨x, hx, rfl⟩)]
      exact valV_mem h2 hx
theorem lcK_core {i j : Nat} {vs : List Nat} {ks : List Int} (f : Int → Bool) (g : Int → V) (hσ : Ev td σ (upd H d (.frz od (.dK kvs))) (.ref d)) (hk : kvs.map (·.1) = ks.map Sum.inl) (hz : ks.length < 50000) (hw : ∀ x, wipe ((wipe σ vs).set j (some x)) vs = wipe σ vs)
    (ht : ∀ k ∈ ks, EvT t ((wipe σ vs).set j (some (.int k))) (upd H d (.frz od (.dK kvs))) (f k)) (he : ∀ k ∈ ks, f k = true → Ev te ((wipe σ vs).set j (some (.int k))) (upd H d (.frz od (.dK kvs))) (g k))
    (hd : H d = some (.dK kvs)) (H1 : Hp) (e : Ex H H1) (Q : VK) (q : ∀ p H', H1 p = none → Ex H1 (upd H' d (.dK kvs)) → H' d = some (.frz od (.dK kvs)) → (upd H' d (.dK kvs)) p = some (.lst ((ks.filter f).map g)) → Q (.ref p) H') :
    tLc (iKeys td) (gName j) t te vs σ (upd H1 d (.frz od (.dK kvs))) Q :=
  hσ _ (ex_lock e) _ fun H2 e2 => ⟨d, od, rfl, .inl ⟨kvs, e2 _ _ upd_same, fun Dl hD =>
    lc_it (walk_keys (d := d) (o := od) (kvs := kvs)) (CwA H2 ks f g Dl) ⟨hD, Ex.new hD, upd_same⟩ (fun i H' _ p => p.2.1 _ _ (e2 _ _ upd_same)) (fun i x H3 H' hi p y => by
      obtain ⟨rfl, k, w, hq, rfl⟩ := y
      obtain ⟨n, hn, rfl⟩ := key_at hk hq
      have hm : n ∈ ks := List.mem_of_getElem? hn
      have eL := (ex_lock (d := d) (kvs := kvs) (od := od) e).trans e2
      exact ⟨hw _, cwA_turn p hn hz ((ht n hm).mono eL) (fun hf => (he n hm hf).mono eL)⟩)
    (fun H' p => by
      obtain ⟨p1, p2, p3⟩ := p
      rw [keys_len hk, List.take_length] at p3
      have p1' := fresh_back e2 p1
      have nd : Dl ≠ d := fun z => by
        rw [z, upd_same] at p1'
        cases p1'
      have eL := e2.trans p2
      refine q Dl H' (by rw [upd_ne nd] at p1'; exact p1') (ex_unlock (e _ _ hd) eL) (eL _ _ upd_same) ?_
      rw [upd_ne nd]
      exact p3)⟩⟩
/-- as a value -/
theorem el_lcK {j : Nat} {vs : List Nat} {ks : List Int} (f : Int → Bool) (g : Int → V) (hd : H d = some (.dK kvs)) (hk : kvs.map (·.1) = ks.map Sum.inl) (hz : ks.length < 50000) (hw : ∀ x, wipe ((wipe σ vs).set j (some x)) vs = wipe σ vs) (hσ : ∀ od, Ev td σ (upd H d (.frz od (.dK kvs))) (.ref d))
    (ht : ∀ od, ∀ k ∈ ks, EvT t ((wipe σ vs).set j (some (.int k))) (upd H d (.frz od (.dK kvs))) (f k)) (he : ∀ od, ∀ k ∈ ks, f k = true → Ev te ((wipe σ vs).set j (some (.int k))) (upd H d (.frz od (.dK kvs))) (g k)) :
    EvL (tLockE (tLc (iKeys td) (gName j) t te vs)) σ H ((ks.filter f).map g) := fun H1 e Q q =>
  ⟨d, .dK kvs, e _ _ hd, trivial, fun od => lcK_core (i := 0) f g (hσ od) hk hz hw (ht od) (he od) hd H1 e _ fun p H' hp e1 h1 h2 => ⟨h1, q p _ hp e1 h2⟩⟩
/-- name = [.. for k in d if ..] -/
theorem s_asgLK {D : Ends} {n j : Nat} {vs : List Nat} {ks : List Int} (f : Int → Bool) (g : Int → V) (hd : H d = some (.dK kvs)) (hk : kvs.map (·.1) = ks.map Sum.inl) (hz : ks.length < 50000) (hw : ∀ x, wipe ((wipe σ vs).set j (some x)) vs = wipe σ vs) (hσ : ∀ od, Ev td σ (upd H d (.frz od (.dK kvs))) (.ref d))
    (ht : ∀ od, ∀ k ∈ ks, EvT t ((wipe σ vs).set j (some (.int k))) (upd H d (.frz od (.dK kvs))) (f k)) (he : ∀ od, ∀ k ∈ ks, f k = true → Ev te ((wipe σ vs).set j (some (.int k))) (upd H d (.frz od (.dK kvs))) (g k))
    (k : ∀ p H1, H p = none → Ex H H1 → H1 p = some (.lst ((ks.filter f).map g)) → D.nx (σ.set n (some (.ref p))) H1) : tLock (tAsg (tLc (iKeys td) (gName j) t te vs) (gName n)) D σ H :=
  ⟨d, .dK kvs, hd, trivial, fun od => lcK_core (i := 0) f g (hσ od) hk hz hw (ht od) (he od) hd H (Ex.refl H) _ fun p H' hp e1 h1 h2 => ⟨h1, k p _ hp e1 h2⟩⟩
theorem q_asgLK {D : Ends} {tz : TS} {n j : Nat} {vs : List Nat} {ks : List Int} (f : Int → Bool) (g : Int → V) (hd : H d = some (.dK kvs)) (hk : kvs.map (·.1) = ks.map Sum.inl) (hz : ks.length < 50000) (hw : ∀ x, wipe ((wipe σ vs).set j (some x)) vs = wipe σ vs) (hσ : ∀ od, Ev td σ (upd H d (.frz od (.dK kvs))) (.ref d))
    (ht : ∀ od, ∀ k ∈ ks, EvT t ((wipe σ vs).set j (some (.int k))) (upd H d (.frz od (.dK kvs))) (f k)) (he : ∀ od, ∀ k ∈ ks, f k = true → Ev te ((wipe σ vs).set j (some (.int k))) (upd H d (.frz od (.dK kvs))) (g k))
    (k : ∀ p H1, H p = none → Ex H H1 → H1 p = some (.lst ((ks.filter f).map g)) → tz D (σ.set n (some (.ref p))) H1) : tSeq (tLock (tAsg (tLc (iKeys td) (gName j) t te vs) (gName n))) tz D σ H :=
  s_asgLK (D := { D with nx := tz D }) f g hd hk hz hw hσ ht he k
theorem lcV_core {α : Type} {j : Nat} {vs : List Nat} (l : List α) (enc : α → V) (f : α → Bool) (g : α → V) (hσ : Ev td σ (upd H d (.frz od (.dK kvs))) (.ref d)) (hk : kvs.map (·.2) = l.map enc) (hz : l.length < 50000) (hw : ∀ x, wipe ((wipe σ vs).set j (some x)) vs = wipe σ vs)
    (ht : ∀ x ∈ l, EvT t ((wipe σ vs).set j (some (enc x))) (upd H d (.frz od (.dK kvs))) (f x)) (he : ∀ x ∈ l, f x = true → Ev te ((wipe σ vs).set j (some (enc x))) (upd H d (.frz od (.dK kvs))) (g x))
    (hd : H d = some (.dK kvs)) (H1 : Hp) (e : Ex H H1) (Q : VK) (q : ∀ p H', H1 p = none → Ex H1 (upd H' d (.dK kvs)) → H' d = some (.frz od (.dK kvs)) → (upd H' d (.dK kvs)) p = some (.lst ((l.filter f).map g)) → Q (.ref p) H') :
    tLc (iVals td) (gName j) t te vs σ (upd H1 d (.frz od (.dK kvs))) Q :=
  hσ _ (ex_lock e) _ fun H2 e2 => ⟨d, od, kvs, rfl, e2 _ _ upd_same, fun Dl hD =>
    lc_it (walk_values (d := d) (o := od) (kvs := kvs)) (CwA H2 l f g Dl) ⟨hD, Ex.new hD, upd_same⟩ (fun i H' _ p => p.2.1 _ _ (e2 _ _ upd_same)) (fun i x H3 H' hi p y => by
      obtain ⟨rfl, k, hq⟩ := y
      have e3 : (kvs.map (·.2))[i]? = some x := by rw [List.getElem?_map, hq]; rfl
      rw [hk, List.getElem?_map] at e3
      cases hn : l[i]? with
      | none =>
        rw [hn] at e3
        cases e3
      | some b =>
        rw [hn] at e3
        have ex : enc b = x := Option.some.inj e3
        subst ex
        have hm : b ∈ l := List.mem_of_getElem? hn
        have eL := (ex_lock (d := d) (kvs := kvs) (od := od) e).trans e2
        exact ⟨hw _, cwA_turn p hn hz ((ht b hm).mono eL) (fun hf => (he b hm hf).mono eL)⟩)
    (fun H' p => by
      obtain ⟨p1, p2, p3⟩ := p
      have hl : kvs.length = l.length := by
        have e := congrArg List.length hk
        rw [List.length_map, List.length_map] at e
        exact e
      rw [hl, List.take_length] at p3
      have p1' := fresh_back e2 p1
      have nd : Dl ≠ d := fun z => by
        rw [z, upd_same] at p1'
        cases p1'
      have eL := e2.trans p2
      refine q Dl H' (by rw [upd_ne nd] at p1'; exact p1') (ex_unlock (e _ _ hd) eL) (eL _ _ upd_same) ?_
      rw [upd_ne nd]
      exact p3)⟩
/-- name = [.. for v in d.values() if ..] -/
theorem s_asgLV {α : Type} {D : Ends} {n j : Nat} {vs : List Nat} (l : List α) (enc : α → V) (f : α → Bool) (g : α → V) (hd : H d = some (.dK kvs)) (hk : kvs.map (·.2) = l.map enc) (hz : l.length < 50000) (hw : ∀ x, wipe ((wipe σ vs).set j (some x)) vs = wipe σ vs) (hσ : ∀ od, Ev td σ (upd H d (.frz od (.dK kvs))) (.ref d))
    (ht : ∀ od, ∀ x ∈ l, EvT t ((wipe σ vs).set j (some (enc x))) (upd H d (.frz od (.dK kvs))) (f x)) (he : ∀ od, ∀ x ∈ l, f x = true → Ev te ((wipe σ vs).set j (some (enc x))) (upd H d (.frz od (.dK kvs))) (g x))
    (k : ∀ p H1, H p = none → Ex H H1 → H1 p = some (.lst ((l.filter f).map g)) → D.nx (σ.set n (some (.ref p))) H1) : tLock (tAsg (tLc (iVals td) (gName j) t te vs) (gName n)) D σ H :=
  ⟨d, .dK kvs, hd, trivial, fun od => lcV_core l enc f g (hσ od) hk hz hw (ht od) (he od) hd H (Ex.refl H) _ fun p H' hp e1 h1 h2 => ⟨h1, k p _ hp e1 h2⟩⟩
theorem q_asgLV {α : Type} {D : Ends} {tz : TS} {n j : Nat} {vs : List Nat} (l : List α) (enc : α → V) (f : α → Bool) (g : α → V) (hd : H d = some (.dK kvs)) (hk : kvs.map (·.2) = l.map enc) (hz : l.length < 50000) (hw : ∀ x, wipe ((wipe σ vs).set j (some x)) vs = wipe σ vs) (hσ : ∀ od, Ev td σ (upd H d (.frz od (.dK kvs))) (.ref d))
    (ht : ∀ od, ∀ x ∈ l, EvT t ((wipe σ vs).set j (some (enc x))) (upd H d (.frz od (.dK kvs))) (f x)) (he : ∀ od, ∀ x ∈ l, f x = true → Ev te ((wipe σ vs).set j (some (enc x))) (upd H d (.frz od (.dK kvs))) (g x))
    (k : ∀ p H1, H p = none → Ex H H1 → H1 p = some (.lst ((l.filter f).map g)) → tz D (σ.set n (some (.ref p))) H1) : tSeq (tLock (tAsg (tLc (iVals td) (gName j) t te vs) (gName n))) tz D σ H :=
  s_asgLV (D := { D with nx := tz D }) l enc f g hd hk hz hw hσ ht he k
/-- a call whose first argument is a new list -/
theorem ev_callLV {sp : Sp} {xs : List V} {E : XK} (ha : EvL ta σ H xs) (hb : Ev tb σ H y) (hs : ∀ p H1, Ex H H1 → H1 p = some (.lst xs) → SpV sp [.ref p, y] H1 z) : Ev (tCall sp [] E (tCons ta (tCons tb tNil))) σ H z := fun H1 e Q q =>
  ha H1 e _ fun p H2 _ e2 hp => hb H2 (e.trans e2) _ fun H3 e3 =>
    show sp [.ref p, y] H3 Q E from hs p H3 ((e.trans e2).trans e3) (e3 _ _ hp) H3 (Ex.refl _) Q (fun H4 e4 => q H4 ((e2.trans e3).trans e4)) E
theorem ev_callL {sp : Sp} {xs : List V} {E : XK} (ha : EvL ta σ H xs) (hs : ∀ p H1, Ex H H1 → H1 p = some (.lst xs) → SpV sp [.ref p] H1 z) : Ev (tCall sp [] E (tCons ta tNil)) σ H z := fun H1 e Q q =>
  ha H1 e _ fun p H2 _ e2 hp =>
    show sp [.ref p] H2 Q E from hs p H2 (e.trans e2) hp H2 (Ex.refl _) Q (fun H4 e4 => q H4 (e2.trans e4)) E
/-- sorted(new list, reverse=True) -/
def sortDn (ns : List Int) : List Int := (sortI ns).reverse
theorem sortDn_perm (ns : List Int) : (sortDn ns).Perm ns := (List.reverse_perm _).trans (sortI_perm ns)
theorem sortDn_ge (ns : List Int) : (sortDn ns).Pairwise (· ≥ ·) := by
  unfold sortDn
  rw [List.pairwise_reverse]
  exact sortI_le ns
theorem sortDn_of {ns ys : List Int} (p : ys.Perm ns) (h : ys.Pairwise (· ≥ ·)) : ys = sortDn ns := by
  have e : ys.reverse = sortI ns := sortI_of ((List.reverse_perm ys).trans p) (by rw [List.pairwise_reverse]; exact h)
  unfold sortDn
  rw [← e, List.reverse_reverse]
theorem el_sortNR {ns : List Int} (h : EvL ta σ H (ns.map V.int)) : EvL (tCKw (rSortedKw K true [.bl true]) (tCons ta tNil) (tCons (tC (.bl true)) tNil)) σ H ((sortDn ns).map V.int) := fun H1 e Q q =>
  h H1 e _ fun a H2 _ e2 h2 => ⟨a, ns, rfl, rfl, sq_of h2, fun ys p hp hs hn => by
    have hs : ys.Pairwise (· ≥ ·) := hs
    rw [sortDn_of hp hs]
    exact q p _ (fresh_back e2 hn) (e2.trans (Ex.new hn)) upd_same⟩
/-- dict([(k, v) for k in d if ..]), d locked meanwhile -/
theorem ed_lcK {j : Nat} {vs : List Nat} {ks : List Int} (f : Int → Bool) (g : Int → Key × V) (hd : H d = some (.dK kvs)) (hk : kvs.map (·.1) = ks.map Sum.inl) (hz : ks.length < 50000) (hw : ∀ x, wipe ((wipe σ vs).set j (some x)) vs = wipe σ vs) (hσ : ∀ od, Ev td σ (upd H d (.frz od (.dK kvs))) (.ref d))
    (ht : ∀ od, ∀ k ∈ ks, EvT t ((wipe σ vs).set j (some (.int k))) (upd H d (.frz od (.dK kvs))) (f k)) (he : ∀ od, ∀ k ∈ ks, f k = true → EvU te ((wipe σ vs).set j (some (.int k))) (upd H d (.frz od (.dK kvs))) [kV (g k).1, (g k).2]) :
    EvD (tCB (rDictP K) (tCons (tLockE (tLc (iKeys td) (gName j) t te vs)) tNil)) σ H (mergeK [] ((ks.filter f).map g)) := fun H1 e Q q =>
  ⟨d, .dK kvs, e _ _ hd, trivial, fun od => hσ od _ (ex_lock e) _ fun H2 e2 => ⟨d, od, rfl, .inl ⟨kvs, e2 _ _ upd_same, fun Dl hD =>
    lc_it (walk_keys (d := d) (o := od) (kvs := kvs)) (CwU H2 ks f g Dl) ⟨hD, Ex.new hD, [], upd_same, .nil⟩ (fun i H' _ p => p.2.1 _ _ (e2 _ _ upd_same)) (fun i x H3 H' hi p y => by
      obtain ⟨rfl, k, w, hq, rfl⟩ := y
      obtain ⟨n, hn, rfl⟩ := key_at hk hq
      have hm : n ∈ ks := List.mem_of_getElem? hn
      have eL := (ex_lock (d := d) (kvs := kvs) (od := od) e).trans e2
      exact ⟨hw _, cwU_turn p hn hz ((ht od n hm).mono eL) (fun hf H4 e4 Q4 q4 => he od n hm hf H4 (eL.trans e4) Q4 q4)⟩)
    (fun H' p => by
      obtain ⟨p1, p2, ps, p3, p4⟩ := p
      rw [keys_len hk, List.take_length] at p4
      have eL := e2.trans p2
      have hfz := eL _ _ upd_same
      have p1' := fresh_back e2 p1
      have nd : Dl ≠ d := fun z => by
        rw [z, upd_same] at p1'
        cases p1'
      refine ⟨hfz, ?_⟩
      refine ⟨Dl, ps, _, rfl, sq_of ?_, paired_imp (fun a kv z => st_of ?_) p4, fun c hc => ?_⟩
      · rw [upd_ne nd]
        exact p3
      · rw [upd_ne (fun w => by rw [w, hfz] at z; cases z)]
        exact z
      · have eU := ex_unlock (e _ _ hd) eL
        exact q c _ (fresh_back eU hc) (eU.trans (Ex.new hc)) upd_same)⟩⟩⟩
theorem ev_callVVD {sp : Sp} {ks : List (Key × V)} {E : XK} (ha : Ev ta σ H x) (hb : Ev tb σ H y) (hc : EvD tc σ H ks) (hs : ∀ p H1, Ex H H1 → H1 p = some (.dK ks) → SpV sp [x, y, .ref p] H1 z) : Ev (tCall sp [] E (tCons ta (tCons tb (tCons tc tNil)))) σ H z := fun H1 e Q q =>
  ha H1 e _ fun H2 e2 => hb H2 (e.trans e2) _ fun H3 e3 => hc H3 ((e.trans e2).trans e3) _ fun p H4 _ e4 hp =>
    show sp [x, y, .ref p] H4 Q E from hs p H4 (((e.trans e2).trans e3).trans e4) hp H4 (Ex.refl _) Q (fun H5 e5 => q H5 (((e2.trans e3).trans e4).trans e5)) E
theorem ev_callVLD {sp : Sp} {xs : List V} {ks : List (Key × V)} {E : XK} (ha : Ev ta σ H x) (hb : EvL tb σ H xs) (hc : EvD tc σ H ks) (hs : ∀ q p H1, Ex H H1 → H1 q = some (.lst xs) → H1 p = some (.dK ks) → SpV sp [x, .ref q, .ref p] H1 z) : Ev (tCall sp [] E (tCons ta (tCons tb (tCons tc tNil)))) σ H z := fun H1 e Q q =>
  ha H1 e _ fun H2 e2 => hb H2 (e.trans e2) _ fun p1 H3 _ e3 h3 => hc H3 ((e.trans e2).trans e3) _ fun p H4 _ e4 hp =>
    show sp [x, .ref p1, .ref p] H4 Q E from hs p1 p H4 (((e.trans e2).trans e3).trans e4) (e4 _ _ h3) hp H4 (Ex.refl _) Q (fun H5 e5 => q H5 (((e2.trans e3).trans e4).trans e5)) E
/-- l.remove(an int that is there) -/
theorem s_rem {D : Ends} {l : Addr} {ns : List Int} {r : Int} {j : Nat} (hl : H l = some (.lst (ns.map V.int))) (ha : Ev ta σ H (.ref l)) (h : Ev te σ H (.int r)) (hj : ns[j]? = some r) (hno : ∀ m : Nat, m < j → ns[m]? ≠ some r) (k : ∀ H1, Ex H H1 → D.nx σ (upd H1 l (.lst ((ns.eraseIdx j).map V.int)))) :
    tDrop (tBM K "list" rRemI ta (tCons te tNil)) D σ H := ha H (Ex.refl H) _ fun H1 e1 =>
  ⟨Or.inl ⟨rfl, _, sq_of (e1 l _ hl)⟩, h H1 e1 _ fun H2 e2 => ⟨l, ns, r, j, rfl, rfl, e2 l _ (e1 l _ hl), hj, hno, k H2 (e1.trans e2)⟩⟩
theorem q_rem {D : Ends} {tz : TS} {l : Addr} {ns : List Int} {r : Int} {j : Nat} (hl : H l = some (.lst (ns.map V.int))) (ha : Ev ta σ H (.ref l)) (h : Ev te σ H (.int r)) (hj : ns[j]? = some r) (hno : ∀ m : Nat, m < j → ns[m]? ≠ some r) (k : ∀ H1, Ex H H1 → tz D σ (upd H1 l (.lst ((ns.eraseIdx j).map V.int)))) :
    tSeq (tDrop (tBM K "list" rRemI ta (tCons te tNil))) tz D σ H := s_rem (D := { D with nx := tz D }) hl ha h hj hno k
/-- d[k] = f(..), f an own def of which R tells what it gives -/
theorem s_dputC {D : Ends} {R : Rel} {sp : Sp} {vs : List V} {E : XK} {ta : TA} {n : Int} (ha : EvA ta σ H vs) (hs : SpR sp vs H R) (h : Ev td σ H (.ref d)) (hk : Ev te σ H (.int n)) (hd : H d = some (.dK kvs)) (hz : kvs.length < 100000)
    (k : ∀ v H1 H2, Ex H H1 → Ex H1 H2 → R v H1 H2 → ∀ H3, Ex H2 H3 → D.nx σ (upd H3 d (.dK (putK kvs (Sum.inl n) v)))) : sDPut td te (tCall sp [] E ta) D σ H :=
  ha H (Ex.refl H) _ fun H1 e1 => by
    rw [List.append_nil]
    exact hs H1 e1 _ (fun v H2 e2 r => h H2 (e1.trans e2) _ fun H3 e3 => hk H3 ((e1.trans e2).trans e3) _ fun H4 e4 => ⟨d, _, rfl, DPut.k (k := Sum.inl n) ((((e1.trans e2).trans e3).trans e4) _ _ hd) (sz_lt hz), k v H1 H2 e1 e2 r H4 (e3.trans e4)⟩) E
/-- name = f(..), f an own def of which R tells what it gives -/
theorem q_asgC {D : Ends} {tz : TS} {i : Nat} {R : Rel} {sp : Sp} {vs : List V} {E : XK} {ta : TA} (ha : EvA ta σ H vs) (hs : SpR sp vs H R) (k : ∀ v H1 H2, Ex H H1 → Ex H1 H2 → R v H1 H2 → tz D (σ.set i (some v)) H2) : tSeq (tAsg (tCall sp [] E ta) (gName i)) tz D σ H :=
  ha H (Ex.refl H) _ fun H1 e1 => by
    rw [List.append_nil]
    exact hs H1 e1 _ (fun v H2 e2 r => k v H1 H2 e1 e2 r) E
/-- name = [a, b, ..], of the items P tells -/
theorem q_asgLst {D : Ends} {tz : TS} {i : Nat} {ta : TA} {P : List V → Hp → Prop} (h : ∀ Q : List V → Hp → Prop, (∀ vs H1, Ex H H1 → P vs H1 → Q vs H1) → ta σ H Q) (hl : ∀ vs H1, P vs H1 → vs.length ≤ 1000)
    (k : ∀ vs p H1, Ex H H1 → P vs H1 → H1 p = none → tz D (σ.set i (some (.ref p))) (upd H1 p (.lst vs))) : tSeq (tAsg (tLst ta) (gName i)) tz D σ H :=
  h _ fun vs H1 e1 hp => ⟨sz_of (Nat.le_trans (hl vs H1 hp) (by decide)), fun p hq => k vs p H1 e1 hp hq⟩
theorem q_asgTp {D : Ends} {tz : TS} {i : Nat} {ta : TA} {P : List V → Hp → Prop} (h : ∀ Q : List V → Hp → Prop, (∀ vs H1, Ex H H1 → P vs H1 → Q vs H1) → ta σ H Q) (hl : ∀ vs H1, P vs H1 → vs.length ≤ 1000)
    (k : ∀ vs p H1, Ex H H1 → P vs H1 → H1 p = none → tz D (σ.set i (some (.ref p))) (upd H1 p (.tup vs))) : tSeq (tAsg (tTup ta) (gName i)) tz D σ H :=
  h _ fun vs H1 e1 hp => ⟨sz_of (Nat.le_trans (hl vs H1 hp) (by decide)), fun p hq => k vs p H1 e1 hp hq⟩
theorem s_retTp {D : Ends} {ta : TA} {P : List V → Hp → Prop} (h : ∀ Q : List V → Hp → Prop, (∀ vs H1, Ex H H1 → P vs H1 → Q vs H1) → ta σ H Q) (hl : ∀ vs H1, P vs H1 → vs.length ≤ 1000)
    (k : ∀ vs p H1, Ex H H1 → P vs H1 → H1 p = none → D.rt (.ref p) (upd H1 p (.tup vs))) : tRet (tTup ta) D σ H :=
  h _ fun vs H1 e1 hp => ⟨sz_of (Nat.le_trans (hl vs H1 hp) (by decide)), fun p hq => k vs p H1 e1 hp hq⟩
/-- for name in range(n - 1, -1, -1) -/
theorem q_forDn {D : Ends} {tu tz : TS} {ta : TA} {j n : Nat} (h : EvA ta σ H [.int ((n : Int) - 1), .int (-1), .int (-1)]) (hn : n ≤ 100000) (Pv : Nat → L2.St → Hp → Prop) (h0 : ∀ H1, Ex H H1 → Pv 0 σ H1)
    (hs : ∀ (i : Nat) σ' H', i < n → Pv i σ' H' → tu { D with nx := Pv (i + 1), ct := Pv (i + 1), bk := tz D } (σ'.set j (some (.int (((n - 1 - i : Nat) : Int))))) H') (hd : ∀ σ' H', Pv n σ' H' → tz D σ' H') : tSeq (tFor (iRng3 ta) (gName j) tu) tz D σ H :=
  h H (Ex.refl H) _ fun H1 e => ⟨(n : Int) - 1, -1, -1, n, rfl, by
    have r := RgC.neg (i := (n : Int) - 1) (j := -1) (by omega) (by omega) (by omega) (by omega)
    rw [show (((n : Int) - 1) - -1).toNat = n by omega] at r
    exact r, for_rangeC (D := { D with nx := tz D }) (lo := (n : Int) - 1) (c := -1) (n := n) Pv (h0 H1 e) (fun i σ' H' hi p => by
      have e0 : ((n : Int) - 1) + (i : Nat) * (-1) = ((n - 1 - i : Nat) : Int) := by omega
      show tu { D with nx := Pv (i + 1), ct := Pv (i + 1), bk := tz D } (σ'.set j (some (.int (((n : Int) - 1) + (i : Nat) * (-1))))) H'
      rw [e0]
      exact hs i σ' H' hi p) hd⟩
/-- for name in [a, b, ..], of the items P tells -/
theorem q_forLst {D : Ends} {tu tz : TS} {j : Nat} {ta : TA} {P : List V → Hp → Prop} (h : ∀ Q : List V → Hp → Prop, (∀ vs H1, Ex H H1 → P vs H1 → Q vs H1) → ta σ H Q) (hl : ∀ vs H1, P vs H1 → vs.length ≤ 1000) (Pv : List V → Addr → Nat → L2.St → Hp → Prop)
    (h0 : ∀ vs p H1, Ex H H1 → P vs H1 → H1 p = none → Pv vs p 0 σ (upd H1 p (.lst vs))) (hst : ∀ vs p i σ' H', i ≤ vs.length → Pv vs p i σ' H' → SqL K H' p vs)
    (hs : ∀ vs p i x σ' H', vs[i]? = some x → Pv vs p i σ' H' → tu { D with nx := Pv vs p (i + 1), ct := Pv vs p (i + 1), bk := tz D } (σ'.set j (some x)) H') (hd : ∀ vs p σ' H', Pv vs p vs.length σ' H' → tz D σ' H') : tSeq (tFor (iList K (tLst ta)) (gName j) tu) tz D σ H :=
  h _ fun vs H1 e1 hp => ⟨sz_of (Nat.le_trans (hl vs H1 hp) (by decide)), fun p hq => ⟨p, rfl, ⟨vs, sq_of upd_same⟩, for_list (D := { D with nx := tz D }) (Pv vs p) (h0 vs p H1 e1 hp hq) (fun i σ' H' hi q => hst vs p i σ' H' hi q) (fun i x σ' H' hx q => hs vs p i x σ' H' hx q) (fun σ' H' q => hd vs p σ' H' q)⟩⟩
theorem lock_dict2 {b : Addr} {ls : List (Key × V)} (hd : H d = some (.dK kvs)) (h : H b = some (.dK ls)) : Rd (upd H d (.frz od (.dK kvs))) b (.dK ls) := by
  by_cases q : b = d
  · subst q
    rw [hd] at h
    have e : kvs = ls := by
      injection h with h
      injection h
    rw [← e]
    exact lock_rd
  · exact .inl (by rw [upd_ne q]; exact h)
theorem ev_neDA {p q : Addr} {ks : List (Key × V)} (ha : Ev ta σ H (.ref p)) (hb : Ev tb σ H (.ref q)) (h1 : H p = some (.dK ks)) (h2 : H q = some (.dK ks)) (hn : (ks.map (·.1)).Nodup) (hf : ∀ x ∈ ks, flatB x.2 = true) : Ev (tOp rNeDA ta tb) σ H (.bl false) :=
  ev_op ha hb fun H1 e _ k => ⟨p, q, ks, ks, rfl, rfl, e _ _ h1, e _ _ h2, rfl, fun x hx => ⟨valV_mem hn hx, hf x hx⟩, k H1 (Ex.refl H1)⟩
theorem ev_eqDA {p q : Addr} {ks : List (Key × V)} (ha : Ev ta σ H (.ref p)) (hb : Ev tb σ H (.ref q)) (h1 : H p = some (.dK ks)) (h2 : H q = some (.dK ks)) (hn : (ks.map (·.1)).Nodup) (hf : ∀ x ∈ ks, flatB x.2 = true) : Ev (tOp rEqDA ta tb) σ H (.bl true) :=
  ev_op ha hb fun H1 e _ k => ⟨p, q, ks, ks, rfl, rfl, e _ _ h1, e _ _ h2, rfl, fun x hx => ⟨valV_mem hn hx, hf x hx⟩, k H1 (Ex.refl H1)⟩
end
end Ik

namespace Ik
open PySem PySem.Spec PyProof.Rows L2 Evl
/-! ### == of two tuples that are the same item by item -/
def rEqT (K : PySem.W.Frag) : R2 := fun x y H Q => ∃ n a b xs ys, n ≤ 60 ∧ x = .ref a ∧ y = .ref b ∧ SqT K H a xs ∧ SqT K H b ys ∧ Paired (EqV K H n) xs ys ∧ Q (.bl true) H
theorem op_eqT {X : Cx} (hu : X.A.units + 64 < cLine) : OpR X (compareOp .Eq) (rEqT X.K) := by
  intro pins s σ H x y v u Q I rx ry h
  obtain ⟨n, a, b, xs, ys, hn, rfl, rfl, ha, hb, hp, q⟩ := h
  cases (show v = Value.ref a from rx)
  cases (show u = Value.ref b from ry)
  obtain ⟨us, r1, p1, _⟩ := I.tuple ha
  obtain ⟨ws, r2, p2, _⟩ := I.tuple hb
  have hsz : us.toArray.size = ws.toArray.size := by
    rw [List.size_toArray, List.size_toArray, ← r1.length, ← r2.length]
    exact Paired.length hp
  refine SeqAt.rcIn_tuples (e := fun _ => true) p1 p2 (by omega) (fun j h1 h2 => ?_) ?_
  · have k := items_run (fun x y v u f r r' => eqV_run I n X.A.in1 (by show X.A.units + 1 + n < cLine; omega) x y v u f r r') hp r1 r2 j (by simpa using h1) (by simpa using h2)
    show SeqAt.EqP X.prog X.w X.A.in1 s us.toArray[j] ws.toArray[j] true
    simpa using k
  · rw [show ((List.range (min us.toArray.size ws.toArray.size)).all fun _ => true) = true from List.all_eq_true.mpr fun _ _ => rfl, hsz]
    show EP X pins σ Q (.bool (true && (ws.toArray.size == ws.toArray.size))) s
    rw [beq_self_eq_true]
    exact ⟨.bl true, H, I, rfl, q⟩
section
variable {K : PySem.W.Frag} {σ : L2.St} {H H' : Hp} {ta tb tc td te tl : TE} {t u : TT} {x y z v : V} {d : Addr} {kvs : List (Key × V)}
/-- a new list of new pairs -/
def EvP (te : TE) (σ : L2.St) (H : Hp) (xs : List (Key × V)) : Prop := ∀ H1, Ex H H1 → ∀ Q : VK, (∀ p H2 ps, H1 p = none → Ex H1 H2 → H2 p = some (.lst (ps.map V.ref)) → Paired (fun t kv => H2 t = some (.tup [kV kv.1, kv.2])) ps xs → Q (.ref p) H2) → te σ H1 Q
theorem ep_is {xs ys : List (Key × V)} (h : EvP te σ H xs) (e : xs = ys) : EvP te σ H ys := e ▸ h
theorem ep_lcK {j : Nat} {vs : List Nat} {ks : List Int} (f : Int → Bool) (g : Int → Key × V) (hd : H d = some (.dK kvs)) (hk : kvs.map (·.1) = ks.map Sum.inl) (hz : ks.length < 50000) (hw : ∀ x, wipe ((wipe σ vs).set j (some x)) vs = wipe σ vs) (hσ : ∀ od, Ev td σ (upd H d (.frz od (.dK kvs))) (.ref d))
    (ht : ∀ od, ∀ k ∈ ks, EvT t ((wipe σ vs).set j (some (.int k))) (upd H d (.frz od (.dK kvs))) (f k)) (he : ∀ od, ∀ k ∈ ks, f k = true → EvU te ((wipe σ vs).set j (some (.int k))) (upd H d (.frz od (.dK kvs))) [kV (g k).1, (g k).2]) :
    EvP (tLockE (tLc (iKeys td) (gName j) t te vs)) σ H ((ks.filter f).map g) := fun H1 e Q q =>
  ⟨d, .dK kvs, e _ _ hd, trivial, fun od => hσ od _ (ex_lock e) _ fun H2 e2 => ⟨d, od, rfl, .inl ⟨kvs, e2 _ _ upd_same, fun Dl hD =>
    lc_it (walk_keys (d := d) (o := od) (kvs := kvs)) (CwU H2 ks f g Dl) ⟨hD, Ex.new hD, [], upd_same, .nil⟩ (fun i H' _ p => p.2.1 _ _ (e2 _ _ upd_same)) (fun i x H3 H' hi p y => by
      obtain ⟨rfl, k, w, hq, rfl⟩ := y
      obtain ⟨n, hn, rfl⟩ := key_at hk hq
      have hm : n ∈ ks := List.mem_of_getElem? hn
      have eL := (ex_lock (d := d) (kvs := kvs) (od := od) e).trans e2
      exact ⟨hw _, cwU_turn p hn hz ((ht od n hm).mono eL) (fun hf H4 e4 Q4 q4 => he od n hm hf H4 (eL.trans e4) Q4 q4)⟩)
    (fun H' p => by
      obtain ⟨p1, p2, ps, p3, p4⟩ := p
      rw [keys_len hk, List.take_length] at p4
      have eL := e2.trans p2
      have hfz := eL _ _ upd_same
      have p1' := fresh_back e2 p1
      have nd : Dl ≠ d := fun z => by
        rw [z, upd_same] at p1'
        cases p1'
      have p1'' : H1 Dl = none := by
        rw [upd_ne nd] at p1'
        exact p1'
      refine ⟨hfz, q Dl _ ps p1'' (ex_unlock (e _ _ hd) eL) ?_ (paired_imp (fun a kv z => ?_) p4)⟩
      · rw [upd_ne nd]
        exact p3
      · rw [upd_ne (fun w => by rw [w, hfz] at z; cases z)]
        exact z)⟩⟩⟩
variable {D : Ends} {tu tz : TS}
theorem s_retP {xs : List (Key × V)} (h : EvP te σ H xs) (k : ∀ p H1 ps, H p = none → Ex H H1 → H1 p = some (.lst (ps.map V.ref)) → Paired (fun t kv => H1 t = some (.tup [kV kv.1, kv.2])) ps xs → D.rt (.ref p) H1) : tRet te D σ H := h H (Ex.refl H) _ fun p H1 ps hp e h1 h2 => k p H1 ps hp e h1 h2
theorem s_asgP {i : Nat} {xs : List (Key × V)} (h : EvP te σ H xs) (k : ∀ p H1 ps, H p = none → Ex H H1 → H1 p = some (.lst (ps.map V.ref)) → Paired (fun t kv => H1 t = some (.tup [kV kv.1, kv.2])) ps xs → D.nx (σ.set i (some (.ref p))) H1) : tAsg te (gName i) D σ H := h H (Ex.refl H) _ fun p H1 ps hp e h1 h2 => k p H1 ps hp e h1 h2
theorem paired_at {α β : Type} {F : α → β → Prop} : ∀ {xs : List α} {ys : List β}, Paired F xs ys → ∀ {i : Nat} {x : α}, xs[i]? = some x → ∃ y, ys[i]? = some y ∧ F x y
  | _, _, .nil, i, x, h => by cases h
  | _, _, .cons r t, 0, x, h => by
    have e := Option.some.inj h
    subst e
    exact ⟨_, rfl, r⟩
  | _, _, .cons r t, i + 1, x, h => paired_at t h
end
end Ik

namespace PySem.SeqAt
open AutoSeq1 (wpAny_loadPart')
open MeetsSeq MeetsSeq2 MeetsSeq3 SeqRoads2
/-! != of two lists, two tuples, whose items are the same one by one: False -/
section
variable {prog : Program} {w : World}
def TwoOf (T : String) (l b : Addr) (xs ys : Array Value) (n m : Nat) (dx dy : Option Addr) (sx sy : Array (Option Value)) (s : Shared) : Prop :=
  s.heap.get? l = some { cls := .type T, dict := dx, data := .seq xs n, slots := sx } ∧ s.heap.get? b = some { cls := .type T, dict := dy, data := .seq ys m, slots := sy }
def AllSame (prog : Program) (w : World) (A : Around) (s : Shared) (xs ys : Array Value) : Prop := ∀ j (h1 : j < xs.size) (h2 : j < ys.size), EqP prog w A.in1 s xs[j] ys[j] true
theorem ik_ne_loop (l b : Addr) (xs ys : Array Value) (n m : Nat) (dx dy : Option Addr) (sx sy : Array (Option Value)) (hsz : xs.size = ys.size) (k : Nat) :
    ∀ i : Nat, xs.size - i = k → MeetsIn prog w (Builtin.«list.__eq__.loop» ⟨[.ref l, .ref b, rawInt i, rawInt 3], []⟩)
      (fun A R s => TwoOf "list" l b xs ys n m dx dy sx sy s ∧ AllSame prog w A s xs ys ∧ R (.ok (.ret (.bool false))) s) := by
  induction k with
  | zero =>
    intro i hk A R s ⟨⟨hl, hb⟩, he, h⟩
    obtain ⟨hp, g, d, tk, os⟩ := s
    wp_walk using wpAny_loadPart' hl, wpAny_loadPart' hb
    rw [show xs[((i : Nat) : Int).toNat]? = none by simp; omega, show ys[((i : Nat) : Int).toNat]? = none by simp; omega]
    wp_walk using wpAny_loadPart' hl, wpAny_loadPart' hb
    show R (.ok (.ret (.bool (xs.size != ys.size)))) _
    rw [hsz]
    simpa using h
  | succ k ih =>
    intro i hk A R s ⟨⟨hl, hb⟩, he, h⟩
    obtain ⟨hp, g, d, tk, os⟩ := s
    wp_walk using wpAny_loadPart' hl, wpAny_loadPart' hb
    have l1 : i < xs.size := by omega
    have l2 : i < ys.size := by omega
    rw [show xs[((i : Nat) : Int).toNat]? = some xs[i] by simp [l1], show ys[((i : Nat) : Int).toNat]? = some ys[i] by simp [l2]]
    refine wpAny_bind (he i l1 l2 _ _ ?_)
    wp_walk
    rw [show ((i : Int) + 1) = ((i + 1 : Nat) : Int) by push_cast; rfl]
    exact ⟨plainId_quiet plain_eq_loop _, codeAny_builtin entry_eq_loop (by
      rw [Around.under_plainId plain_eq_loop _]
      exact ih (i + 1) (by omega) A R _ ⟨⟨hl, hb⟩, he, h⟩)⟩
theorem ik_list_ne (l b : Addr) (xs ys : Array Value) (n m : Nat) (dx dy : Option Addr) (sx sy : Array (Option Value)) (hsz : xs.size = ys.size) :
    MeetsIn prog w (Builtin.«list.__ne__» ⟨[.ref l, .ref b], []⟩) (fun A R s => TwoOf "list" l b xs ys n m dx dy sx sy s ∧ AllSame prog w A s xs ys ∧ R (.ok (.ret (.bool false))) s) := by
  intro A R s ⟨⟨hl, hb⟩, he, h⟩
  obtain ⟨hp, g, d, tk, os⟩ := s
  have f3 := AutoSeq1.sub_list_list
  have hne : ¬ (xs.size != ys.size) = true := by simp [hsz]
  wp_walk using wpAny_loadPart' hl, wpAny_loadPart' hb
  exact ⟨plainId_quiet plain_eq_loop _, codeAny_builtin entry_eq_loop (by
    rw [Around.under_plainId plain_eq_loop _]
    exact ik_ne_loop l b xs ys n m dx dy sx sy hsz _ 0 rfl A R _ ⟨⟨hl, hb⟩, he, h⟩)⟩
theorem ik_tuple_ne (l b : Addr) (xs ys : Array Value) (n m : Nat) (dx dy : Option Addr) (sx sy : Array (Option Value)) (hsz : xs.size = ys.size) :
    MeetsIn prog w (Builtin.«tuple.__ne__» ⟨[.ref l, .ref b], []⟩) (fun A R s => TwoOf "tuple" l b xs ys n m dx dy sx sy s ∧ AllSame prog w A s xs ys ∧ R (.ok (.ret (.bool false))) s) :=
  .of_wp fun A R s h => by
    obtain ⟨hp, g, d, tk, os⟩ := s
    obtain ⟨⟨hl, hb⟩, he, h⟩ := h
    have hl : hp.get? l = some { cls := .type "tuple", dict := dx, data := .seq xs n, slots := sx } := hl
    have hb : hp.get? b = some { cls := .type "tuple", dict := dy, data := .seq ys m, slots := sy } := hb
    have f2 := AutoSeq1.sub_tuple_tuple
    have hZ : (xs.toList.zip ys.toList).length = xs.size := by simp [hsz]
    wp_walk using wpAny_loadPart' hl, wpAny_loadPart' hb, wpAny_forIn_list _ (fun rest b s' => b.1 = none ∧ s' = ⟨hp, g, d, tk, os⟩ ∧ ∃ i, rest = (xs.toList.zip ys.toList).drop i) _
    case turn =>
      rintro ⟨y, x⟩ rest b s' ⟨hb', rfl, i, hz⟩
      have hlt : i < (xs.toList.zip ys.toList).length := by
        rcases Nat.lt_or_ge i (xs.toList.zip ys.toList).length with h' | h'
        · exact h'
        · rw [List.drop_of_length_le h'] at hz
          cases hz
      have l1 : i < xs.size := by omega
      have l2 : i < ys.size := by omega
      rw [List.drop_eq_getElem_cons hlt] at hz
      injection hz with hyx hrest
      have hy : y = xs[i] := by
        have := congrArg Prod.fst hyx
        simpa using this
      have hx : x = ys[i] := by
        have := congrArg Prod.snd hyx
        simpa using this
      subst hy hx
      refine wpAny_bind (he i l1 l2 _ _ ?_)
      wp_walk
      exact ⟨rfl, rfl, i + 1, hrest⟩
    case fin =>
      rintro ⟨b1, b2⟩ s' ⟨hb', rfl, i, hz⟩
      simp only at hb'
      subst hb'
      wp_walk
      exact ⟨_, rfl, by simpa [Builtin.Tuple.tupleCompareSizes, bne, hsz] using h⟩
    case h =>
      exact ⟨rfl, rfl, 0, rfl⟩
theorem ik_rcNe_tuples {A : Around} {s : Shared} {l b : Addr} {xs ys : Array Value} (hl : s.heap.IsTuple l xs) (hb : s.heap.IsTuple b ys) (hsz : xs.size = ys.size) (hu : A.units < cLine)
    (he : AllSame prog w A s xs ys) (E Q : Value → Shared → Prop) (h : Q (.bool false) s) : wpAny (model prog w) A (richCompare .NotEq (.ref l) (.ref b)) Q E s := by
  obtain ⟨⟨c1, d1, t1, s1⟩, g1, k1, n1, q1⟩ := id hl
  obtain ⟨⟨c2, d2, t2, s2⟩, g2, k2, n2, q2⟩ := id hb
  simp only at k1 q1 k2 q2
  subst k1 q1 k2 q2
  have ta : s.TypeIs (.ref l) "tuple" := ⟨_, g1, rfl⟩
  exact wpAny_richCompare_same_room (op := .NotEq) ta ⟨_, g2, rfl⟩ F.slot_tuple_ne (call_meetsIn F.slot_tuple_ne ta F.entry_tuple_ne (F.args_tuple_ne_2 _ _) (ik_tuple_ne l b xs ys n1 n2 d1 d2 s1 s2 hsz) ⟨⟨g1, g2⟩, he, ⟨(fun x => nomatch x), h⟩⟩) hu
theorem ik_rcNe_lists {A : Around} {s : Shared} {l b : Addr} {xs ys : Array Value} (hl : s.heap.IsList l xs) (hb : s.heap.IsList b ys) (hsz : xs.size = ys.size) (hu : A.units < cLine)
    (he : AllSame prog w A s xs ys) (E Q : Value → Shared → Prop) (h : Q (.bool false) s) : wpAny (model prog w) A (richCompare .NotEq (.ref l) (.ref b)) Q E s := by
  obtain ⟨⟨c1, d1, t1, s1⟩, g1, k1, n1, q1⟩ := id hl
  obtain ⟨⟨c2, d2, t2, s2⟩, g2, k2, n2, q2⟩ := id hb
  simp only at k1 q1 k2 q2
  subst k1 q1 k2 q2
  have ta : s.TypeIs (.ref l) "list" := ⟨_, g1, rfl⟩
  exact wpAny_richCompare_same_room (op := .NotEq) ta ⟨_, g2, rfl⟩ F.slot_list_ne (call_meetsIn F.slot_list_ne ta F.entry_list_ne (F.args_list_ne_2 _ _) (ik_list_ne l b xs ys n1 n2 d1 d2 s1 s2 hsz) ⟨⟨g1, g2⟩, he, ⟨(fun x => nomatch x), h⟩⟩) hu
end
end PySem.SeqAt
namespace Ik
open PySem PySem.Spec PyProof.Rows L2 Evl
/-- two tuples, two lists, of the same items (data, dicts among them, of nesting below n) -/
def rNeV (K : PySem.W.Frag) : R2 := fun x y H Q => ∃ n a b xs ys, n ≤ 60 ∧ x = .ref a ∧ y = .ref b ∧ ((SqT K H a xs ∧ SqT K H b ys) ∨ (SqL K H a xs ∧ SqL K H b ys)) ∧ Paired (EqV K H n) xs ys ∧ Q (.bl false) H
theorem op_neV {X : Cx} (hu : X.A.units + 64 < cLine) : OpR X (compareOp .NotEq) (rNeV X.K) := by
  intro pins s σ H x y v u Q I rx ry h
  obtain ⟨n, a, b, xs, ys, hn, rfl, rfl, hs, hp, q⟩ := h
  cases (show v = Value.ref a from rx)
  cases (show u = Value.ref b from ry)
  have go : ∀ {us ws : List Value}, Vals xs us → Vals ys ws → us.toArray.size = ws.toArray.size ∧ SeqAt.AllSame X.prog X.w X.A s us.toArray ws.toArray := fun {us ws} r1 r2 => by
    refine ⟨?_, fun j h1 h2 => ?_⟩
    · rw [List.size_toArray, List.size_toArray, ← r1.length, ← r2.length]
      exact Paired.length hp
    · have k := items_run (fun x y v u f r r' => eqV_run I n X.A.in1 (by show X.A.units + 1 + n < cLine; omega) x y v u f r r') hp r1 r2 j (by simpa using h1) (by simpa using h2)
      simpa using k
  rcases hs with ⟨ha, hb⟩ | ⟨ha, hb⟩
  · obtain ⟨us, r1, p1, _⟩ := I.tuple ha
    obtain ⟨ws, r2, p2, _⟩ := I.tuple hb
    obtain ⟨g1, g2⟩ := go r1 r2
    exact SeqAt.ik_rcNe_tuples p1 p2 g1 (by omega) g2 _ _ ⟨.bl false, H, I, rfl, q⟩
  · obtain ⟨us, r1, p1, _⟩ := I.list ha
    obtain ⟨ws, r2, p2, _⟩ := I.list hb
    obtain ⟨g1, g2⟩ := go r1 r2
    exact SeqAt.ik_rcNe_lists p1.isList p2.isList g1 (by omega) g2 _ _ ⟨.bl false, H, I, rfl, q⟩
end Ik

namespace Ik
open PySem PySem.Spec PyProof.Rows L2 Evl
/-! ### sorted(set(a list of ints)) -/
section
variable {P : Program} {w : World} {A : Around} {E : Value → Shared → Prop} {s : Shared}
set_option maxRecDepth 100000 in
set_option maxHeartbeats 3200000 in
theorem setR_list {l : Addr} {items : Array Value} (ns : List Int) {Q : Value → Shared → Prop} (hh : A.handled = none) (hl : s.heap.IsList l items) (hit : IntsAre items.toList ns) (hb : ns.length + 1 < scanBound)
    (h : ∀ (h' : Heap) (tk c : Nat), SetR w h' s.heap.objs.size (fun j => decide (j ∈ ns)) c → c ≤ ns.length → (∀ b o, s.heap.get? b = some o → h'.get? b = some o) → Q (.ref s.heap.objs.size) { s with heap := h', toks := tk }) :
    wpAny (model P w) A (call (.type "set") [.ref l]) Q E s := by
  have len : items.size = ns.length := by
    have := IntsAre.length hit
    rwa [Array.length_toList] at this
  generalize hO : ({ cls := .type "set", dict := none, data := .set #[] 0 (.fresh 0 0 (!w.params.followText "set-order")) } : Obj) = O
  obtain ⟨c0, tl0, hmro⟩ := F.called_set.mro
  have hmade := F.called_set.made
  have hsub := F.called_set.sub
  have nt := F.called_set.notType
  have cc := F.called_set.canCreate
  have ct := F.typeCall_set_1 (.ref l)
  refine wpAny_call (codeAny_of_tree ?_)
  show wpAny _ _ (callAny (.type "set") _) _ _ _
  refine wpAny_pure ⟨Code.quiet_builtin _ (by decide +kernel), codeAny_builtin F.entry_type_call ?_⟩
  rw [Around.under_plain (weight_type_call_type "set" [.ref l] []) rfl]
  repeat (any_goals (first | assumption | wp_step))
  refine codeAny_mono (code_set_led1 (.ref l) (E := E) (Q₁ := fun u s₁ => u = .ref s.heap.objs.size ∧ s₁ = { s with heap := s.heap.push O }) ⟨rfl, by rw [hO]⟩) fun r s₁ hr => ?_
  match r, hr with
  | .error _, hr => exact hr
  | .ok .next, hr | .ok .brk, hr | .ok .cont, hr => exact hr.elim
  | .ok (.ret u), hr =>
    obtain ⟨rfl, rfl⟩ := hr
    have cO : O.cls = .type "set" := by rw [← hO]
    have gS : (s.heap.push O).get? s.heap.objs.size = some O := Heap.get?_push_size _ (by rw [← hO] <;> rfl)
    have ty : Shared.TypeIs { s with heap := s.heap.push O } (.ref s.heap.objs.size) "set" := ⟨_, gS, cO⟩
    have il := F.called_set.init.lookup
    have ib := F.called_set.init.bind (.ref s.heap.objs.size)
    repeat (any_goals (first | assumption | wp_step))
    refine codeAny_mono (codeAny_call_builtin (R := wants (fun r s₂ => r = .none ∧ ∃ h' tk c, s₂ = { s with heap := h', toks := tk } ∧ SetR w h' s.heap.objs.size (fun j => decide (j ∈ ns)) c ∧ c ≤ ns.length ∧ (∀ b o, s.heap.get? b = some o → h'.get? b = some o)) E) F.called_set.init.plain F.entry_set_init (check_set_init_1 ty ?_)) fun r₂ s₂ h₂ => ?_
    · obtain ⟨⟨ocls, odict, odata, oslots⟩, ho, e1, nl, e2⟩ := hl
      simp only at e1 e2
      subst e1 e2
      have ho1 : (s.heap.push O).get? l = some { cls := .type "list", dict := odict, data := .seq items nl, slots := oslots } := Heap.get?_push_of_some _ ho
      have a1 := F.sub_list_set
      have a2 := F.sub_list_frozenset
      have a3 : (Value.type "list" == Value.type "dict") = false := by decide
      have hl1 : (s.heap.push O).IsList l items := ⟨_, ho1, rfl, nl, rfl⟩
      have hlt : l < s.heap.objs.size := Heap.lt_size ho
      have hsz : (s.heap.push O).objs.size = s.heap.objs.size + 1 := Heap.size_push ..
      subst hO
      unfold Builtin.«set.__init__» noKeywords Builtin.Frozenset.updateFrom
      generalize hPI : pyIter = PI
      wp_walk
      subst hPI
      refine wpAny_pyIter_list hl1 ?_
      refine wpAny_bind (wpAny_runValue ?_)
      refine set_update_ints ((Walks.list (by simp [hh]) _ l (Nat.ne_of_lt (by rw [hsz]; exact Nat.lt_succ_of_lt hlt)) items).toS) s.heap.objs.size ?_ ns len hb (fun i v hv => ?_) (items.size - 0) 0 _ (by omega) (Nat.zero_le _) ⟨⟨_, Heap.get?_push_size _ rfl, rfl, rfl⟩, hl1.push _⟩ ⟨0, Nat.le_refl 0, setR_new_at ?_⟩ fun s' c' hm hc hS => ?_
      · simp only [List.mem_cons, List.not_mem_nil, or_false, not_or]
        exact ⟨Nat.ne_of_lt (by rw [hsz]; exact Nat.lt_succ_self _), Nat.ne_of_gt hlt⟩
      · have hi : i < ns.length := by rw [← len]; exact (Array.getElem?_eq_some_iff.mp hv).1
        obtain ⟨t, e⟩ := PyProof.Rows.IntsAre.int_at hit i v (by rw [Array.getElem?_toList]; exact hv)
        exact ⟨ns[i], t, List.getElem?_eq_getElem hi, by rw [e, List.getD_eq_getElem?_getD, List.getElem?_eq_getElem hi] <;> rfl⟩
      · exact Heap.get?_push_of_some _ gS
      · obtain ⟨h', g', d', tk', os'⟩ := s'
        obtain rfl : g' = s.gens := hm.gens
        obtain rfl : d' = s.drawn := hm.drawn
        obtain rfl : os' = s.os := hm.os
        rw [len] at hc
        refine wpAny_pure ?_
        show wpAny _ _ (ret Value.none) _ _ _
        refine wpAny_pure ⟨rfl, h', tk', c', rfl, hS, hc, fun b o e => ?_⟩
        have lt := Heap.lt_size e
        refine hm.heap b o ?_ (Heap.get?_push_of_some _ (Heap.get?_push_of_some _ e))
        simp only [List.mem_cons, List.not_mem_nil, or_false, not_or]
        exact ⟨Nat.ne_of_lt lt, Nat.ne_of_lt (by rw [hsz]; exact Nat.lt_succ_of_lt lt)⟩
    · match r₂, h₂ with
      | .error _, h₂ => exact h₂
      | .ok .next, h₂ | .ok .brk, h₂ | .ok .cont, h₂ => exact h₂.elim
      | .ok (.ret r), h₂ =>
        obtain ⟨rfl, h', tk, c, rfl, hS, hc, hk⟩ := h₂
        repeat (any_goals (first | assumption | wp_step))
        exact h _ _ _ hS hc hk
end
def tSortSet (K : PySem.W.Frag) (ta : TE) : TE := fun σ H Q => ta σ H fun x H1 => ∃ (l : Addr) (ns : List Int), x = .ref l ∧ SqL K H1 l (ns.map V.int) ∧ ns.length < 64 ∧
  ∀ (ys : List Int) (p : Addr), ys.Pairwise (· < ·) → (∀ k : Int, k ∈ ys ↔ k ∈ ns) → H1 p = none → Q (.ref p) (upd H1 p (.lst (ys.map V.int)))
theorem pe_sortSet {X : Cx} {a : Expr} {ta : TE} {p p2 q pos : Pos} (hg : Gl X "sorted") (hm : X.mg "sorted" = none) (hg2 : Gl X "set") (hm2 : X.mg "set" = none) (ha : PE X a ta) (hc : X.calm = true := by rfl)
    (hv : bootBuiltins "sorted" = some (.builtin "sorted") := by decide +kernel) (na : starEach [a] X.env = (false, eval a X.env) :: starEach [] X.env := by rfl) : PE X (.Call (.Name "sorted" p) [.Call (.Name "set" p2) [a] [] q] [] pos) (tSortSet X.K ta) := by
  refine ⟨fun pins s σ H Q I h => ?_⟩
  refine Call_ (ld_blt I hg hm hv ?_)
  refine PyProof.Rows.callWith_builtin1 (PyProof.Rows.args_cons ?_ rfl) rfl rfl
  refine Call_ (ld_blt I hg2 hm2 boot_set ?_)
  refine PyProof.Rows.callWith_type1 (PyProof.Rows.args_cons (thn (ha.run pins s σ H _ I h) fun v s1 ⟨x, H1, I1, r1, q1⟩ => PyProof.Rows.args_nil ?_) na) na rfl
  obtain ⟨l, ns, rfl, hq, hl, q1⟩ := q1
  obtain rfl : v = Value.ref l := r1
  obtain ⟨its, r, pl, hz⟩ := I1.list hq
  refine setR_list ns (I1.ok.hd hc) pl.isList (by simpa using r.ints) (by unfold scanBound; omega) fun h' tk c hS hcn hk => PyProof.Rows.args_nil ?_
  have I2 : Inv X pins σ H1 { s1 with heap := h', toks := tk } := I1.kept fun b o e => hk b o e
  refine sorted_set (s := { s1 with heap := h', toks := tk }) hS (I2.ok.hd hc) (by omega) fun s' p out c' ys k g o hp hg' hi hs hm' hl' => ?_
  have hn : H1 p = none := I2.hok.fresh hp
  have hlen : (ys.map V.int).length ≤ sizeLine := by rw [List.length_map, hl', sizeLine_eq]; omega
  have J : Inv X pins σ (upd H1 p (.lst (ys.map V.int))) { { s1 with heap := h', toks := tk } with heap := s'.heap, gens := s'.gens, drawn := s'.drawn, toks := s'.toks } :=
    I2.call (ch := []) (Un.laid k hp hn) (I2.hok.laid k hp ⟨hlen, out.toList, c', vals_of_ints hi, hg'⟩) (by rw [g]; exact I2.bare) (fun _ z => nomatch z)
  have e : s' = { { s1 with heap := h', toks := tk } with heap := s'.heap, gens := s'.gens, drawn := s'.drawn, toks := s'.toks } := by
    cases s'
    cases s1
    cases o
    rfl
  rw [e]
  exact ⟨.ref p, _, J, rfl, q1 ys p hs (fun k => by rw [hm' k, decide_eq_true_eq]) hn⟩
section
variable {K : PySem.W.Frag} {σ : L2.St} {H : Hp} {ta tb te : TE} {D : Ends} {tz : TS} {v : V}
theorem lt_uniq : ∀ {xs ys : List Int}, xs.Pairwise (· < ·) → ys.Pairwise (· < ·) → (∀ k, k ∈ xs ↔ k ∈ ys) → xs = ys := fun hx hy h => by
  refine sorted_uniq (List.perm_ext_iff_of_nodup (hx.imp fun h => Int.ne_of_lt h) (hy.imp fun h => Int.ne_of_lt h) |>.mpr h) (hx.imp fun h => Int.le_of_lt h) (hy.imp fun h => Int.le_of_lt h)
/-- of a list that rises -/
theorem el_sortSet {p : Addr} {ns : List Int} (h : Ev ta σ H (.ref p)) (hx : SqL K H p (ns.map V.int)) (hl : ns.length < 64) (hr : ns.Pairwise (· < ·)) : EvL (tSortSet K ta) σ H (ns.map V.int) := fun H1 e Q q =>
  h H1 e _ fun H2 e2 => ⟨p, ns, rfl, ex_l (e.trans e2) hx, hl, fun ys d hs hm hd => by
    rw [lt_uniq hs hr hm]
    exact q d _ (fresh_back e2 hd) (e2.trans (Ex.new hd)) upd_same⟩
/-- the greatest of a new list -/
theorem ev_maxN {ns : List Int} {m : Int} (ha : EvL ta σ H (ns.map V.int)) (hm : m ∈ ns) (hle : ∀ y ∈ ns, y ≤ m) : Ev (tCB (rMax K) (tCons ta tNil)) σ H (.int m) := fun H1 e Q q =>
  ha H1 e _ fun p H2 _ e2 h2 => ⟨p, ns, rfl, sq_of h2, List.length_pos_of_mem hm, fun m' h1 h3 => by
    rw [Int.le_antisymm (hle m' h1) (h3 m hm)]
    exact q H2 e2⟩
/-- d.pop(k) -/
theorem s_pop {d : Addr} {kvs : List (Key × V)} {n : Int} (h : Ev ta σ H (.ref d)) (hk : Ev tb σ H (.int n)) (hd : H d = some (.dK kvs)) (hv : valV kvs (Sum.inl n) = some v) (k : ∀ H1, Ex H H1 → D.nx σ (upd H1 d (.dK (dropK kvs (Sum.inl n))))) : tDrop (tDPop1 ta tb) D σ H :=
  h H (Ex.refl H) _ fun H1 e1 => ⟨d, rfl, Or.inl ⟨kvs, Or.inl (e1 _ _ hd)⟩, hk H1 e1 _ fun H2 e2 => ⟨kvs, Sum.inl n, v, (e1.trans e2) _ _ hd, rfl, hv, k H2 (e1.trans e2)⟩⟩
theorem q_pop {d : Addr} {kvs : List (Key × V)} {n : Int} (h : Ev ta σ H (.ref d)) (hk : Ev tb σ H (.int n)) (hd : H d = some (.dK kvs)) (hv : valV kvs (Sum.inl n) = some v) (k : ∀ H1, Ex H H1 → tz D σ (upd H1 d (.dK (dropK kvs (Sum.inl n))))) : tSeq (tDrop (tDPop1 ta tb)) tz D σ H := s_pop (D := { D with nx := tz D }) h hk hd hv k
end
end Ik

namespace Ik
/-! ### houses: plain lists -/
def okC (c : Int) : Bool := decide (0 ≤ c) && decide (c ≤ 9)
def isHouse (cs : List Int) : Bool := (decide (1 ≤ (cs.length : Int)) && decide ((cs.length : Int) ≤ 6)) && cs.all okC
/-- a house, as it is used -/
structure House (cs : List Int) : Prop where
  pos : 1 ≤ cs.length
  le : cs.length ≤ 6
  ok : ∀ c ∈ cs, 0 ≤ c ∧ c ≤ 9
theorem house_of {cs : List Int} (h : isHouse cs = true) : House cs := by
  unfold isHouse at h
  rw [Bool.and_eq_true, Bool.and_eq_true, decide_eq_true_eq, decide_eq_true_eq, List.all_eq_true] at h
  refine ⟨by omega, by omega, fun c hc => ?_⟩
  have q := h.2 c hc
  unfold okC at q
  rw [Bool.and_eq_true, decide_eq_true_eq, decide_eq_true_eq] at q
  exact q
/-- the kinds of the rooms, from kind k on -/
def kindsF : Nat → List Int → List Int
  | _, [] => []
  | k, c :: r => List.replicate c.toNat (k : Int) ++ kindsF (k + 1) r
def kinds (cs : List Int) : List Int := kindsF 0 cs
theorem kindsF_append : ∀ (k : Nat) (xs ys : List Int), kindsF k (xs ++ ys) = kindsF k xs ++ kindsF (k + xs.length) ys
  | k, [], ys => by simp [kindsF]
  | k, c :: r, ys => by
    show List.replicate c.toNat (k : Int) ++ kindsF (k + 1) (r ++ ys) = (List.replicate c.toNat (k : Int) ++ kindsF (k + 1) r) ++ kindsF (k + (r.length + 1)) ys
    rw [kindsF_append (k + 1) r ys, List.append_assoc, show k + 1 + r.length = k + (r.length + 1) by omega]
theorem kindsF_snoc (k : Nat) (xs : List Int) (c : Int) : kindsF k (xs ++ [c]) = kindsF k xs ++ List.replicate c.toNat ((k + xs.length : Nat) : Int) := by
  rw [kindsF_append]
  show _ ++ (List.replicate c.toNat ((k + xs.length : Nat) : Int) ++ []) = _
  rw [List.append_nil]
theorem kindsF_len : ∀ (k : Nat) (cs : List Int), (∀ c ∈ cs, 0 ≤ c) → ((kindsF k cs).length : Int) = cs.sum
  | _, [], _ => rfl
  | k, c :: r, h => by
    have ih := kindsF_len (k + 1) r fun x hx => h x (List.mem_cons_of_mem _ hx)
    have hc := h c List.mem_cons_self
    show ((List.replicate c.toNat (k : Int) ++ kindsF (k + 1) r).length : Int) = (c :: r).sum
    rw [List.length_append, List.length_replicate, List.sum_cons]
    omega
theorem kindsF_ge : ∀ (k : Nat) (cs : List Int), ∀ x ∈ kindsF k cs, (k : Int) ≤ x ∧ x < ((k + cs.length : Nat) : Int)
  | _, [], x, h => by simp [kindsF] at h
  | k, c :: r, x, h => by
    rcases List.mem_append.mp (show x ∈ List.replicate c.toNat (k : Int) ++ kindsF (k + 1) r from h) with h | h
    · have e := List.eq_of_mem_replicate h
      subst e
      rw [List.length_cons]
      omega
    · have := kindsF_ge (k + 1) r x h
      rw [List.length_cons]
      omega
theorem kinds_lt {cs : List Int} {x : Int} (h : x ∈ kinds cs) : 0 ≤ x ∧ x < (cs.length : Int) := by
  have := kindsF_ge 0 cs x h
  omega
theorem sum_nonneg : ∀ cs : List Int, (∀ c ∈ cs, 0 ≤ c) → 0 ≤ cs.sum
  | [], _ => by simp
  | c :: r, h => by
    rw [List.sum_cons]
    have := sum_nonneg r fun x hx => h x (List.mem_cons_of_mem _ hx)
    have := h c List.mem_cons_self
    omega
theorem sum_le9 : ∀ cs : List Int, (∀ c ∈ cs, c ≤ 9) → cs.sum ≤ 9 * cs.length
  | [], _ => by simp
  | c :: r, h => by
    rw [List.sum_cons, List.length_cons]
    have := sum_le9 r fun x hx => h x (List.mem_cons_of_mem _ hx)
    have := h c List.mem_cons_self
    omega
theorem House.nn {cs : List Int} (h : House cs) : ∀ c ∈ cs, 0 ≤ c := fun c hc => (h.ok c hc).1
theorem kinds_len {cs : List Int} (h : House cs) : ((kinds cs).length : Int) = cs.sum := kindsF_len 0 cs h.nn
theorem kinds_le {cs : List Int} (h : House cs) : (kinds cs).length ≤ 54 := by
  have h1 := kinds_len h
  have h2 := sum_le9 cs fun c hc => (h.ok c hc).2
  have h3 := h.le
  omega
theorem take_sum_le : ∀ (cs : List Int) (k : Nat), (∀ c ∈ cs, 0 ≤ c) → 0 ≤ (cs.take k).sum ∧ (cs.take k).sum ≤ cs.sum
  | [], k, _ => by simp
  | c :: r, 0, h => by
    have := sum_nonneg _ h
    simp at *
    omega
  | c :: r, k + 1, h => by
    have := take_sum_le r k fun x hx => h x (List.mem_cons_of_mem _ hx)
    have := h c List.mem_cons_self
    rw [List.take_succ_cons, List.sum_cons, List.sum_cons]
    omega
/-- kind_of's walk: the rooms behind, the kind, the counts left -/
def kindGo (room : Int) : Int → Nat → List Int → Option Nat
  | _, _, [] => none
  | b, k, c :: r => if room < b + c then some k else kindGo room (b + c) (k + 1) r
theorem kindGo_eq : ∀ (cs : List Int) (k : Nat) (b : Int) (j : Nat), (∀ c ∈ cs, 0 ≤ c) → j < (kindsF k cs).length → ∃ n : Nat, kindGo (b + j) b k cs = some n ∧ (kindsF k cs)[j]? = some (n : Int)
  | [], k, b, j, _, h => by simp [kindsF] at h
  | c :: r, k, b, j, h, hj => by
    have hc := h c List.mem_cons_self
    have hj : j < (List.replicate c.toNat (k : Int) ++ kindsF (k + 1) r).length := hj
    rw [List.length_append, List.length_replicate] at hj
    show ∃ n : Nat, (if b + (j : Int) < b + c then some k else kindGo (b + j) (b + c) (k + 1) r) = some n ∧ (List.replicate c.toNat (k : Int) ++ kindsF (k + 1) r)[j]? = some (n : Int)
    by_cases q : b + (j : Int) < b + c
    · refine ⟨k, by rw [if_pos q], ?_⟩
      rw [List.getElem?_append_left (by rw [List.length_replicate]; omega), List.getElem?_replicate, if_pos (by omega)]
    · rw [if_neg q]
      obtain ⟨n, e1, e2⟩ := kindGo_eq r (k + 1) (b + c) (j - c.toNat) (fun x hx => h x (List.mem_cons_of_mem _ hx)) (by omega)
      refine ⟨n, ?_, ?_⟩
      · rw [← e1]
        congr 1
        omega
      · rw [List.getElem?_append_right (by rw [List.length_replicate]; omega), List.length_replicate]
        exact e2
theorem kindGo_le : ∀ (cs : List Int) (k : Nat) (b room : Int) (n : Nat), kindGo room b k cs = some n → n < k + cs.length
  | [], k, b, room, n, h => by simp [kindGo] at h
  | c :: r, k, b, room, n, h => by
    unfold kindGo at h
    rw [List.length_cons]
    split at h
    · have := Option.some.inj h
      omega
    · have := kindGo_le r (k + 1) (b + c) room n h
      omega
/-- the rooms of a kind -/
def roomsOf (cs : List Int) (kind : Int) : List Int :=
  if 0 ≤ kind ∧ kind < cs.length then (List.range (cs.getD kind.toNat 0).toNat).map fun i : Nat => (cs.take kind.toNat).sum + (i : Int) else []
/-- below, at, above a kind -/
theorem kinds_parts {cs : List Int} {k : Nat} (hk : k < cs.length) : kinds cs = kindsF 0 (cs.take k) ++ (List.replicate cs[k].toNat (k : Int) ++ kindsF (k + 1) (cs.drop (k + 1))) := by
  have e : cs = cs.take k ++ (cs[k] :: cs.drop (k + 1)) := by
    rw [← List.drop_eq_getElem_cons hk, List.take_append_drop]
  have hl : (cs.take k).length = k := by rw [List.length_take]; omega
  unfold kinds
  conv => lhs; rw [e]
  rw [kindsF_append, hl]
  show kindsF 0 (cs.take k) ++ (List.replicate cs[k].toNat ((0 + k : Nat) : Int) ++ kindsF (0 + k + 1) (cs.drop (k + 1))) = _
  rw [Nat.zero_add]
/-- a room is of kind k or better where it is not below k's first -/
theorem room_ge {cs : List Int} (h : House cs) {k : Nat} (hk : k ≤ cs.length) {r : Nat} {x : Int} (hr : (kinds cs)[r]? = some x) : (cs.take k).sum ≤ (r : Int) ↔ (k : Int) ≤ x := by
  have e : cs = cs.take k ++ cs.drop k := (List.take_append_drop k cs).symm
  have hl : (cs.take k).length = k := by rw [List.length_take]; omega
  have hs := kindsF_len 0 (cs.take k) fun c hc => h.nn c (List.mem_of_mem_take hc)
  have ek : kinds cs = kindsF 0 (cs.take k) ++ kindsF k (cs.drop k) := by
    unfold kinds
    conv => lhs; rw [e]
    rw [kindsF_append, hl, Nat.zero_add]
  rw [ek] at hr
  by_cases q : r < (kindsF 0 (cs.take k)).length
  · rw [List.getElem?_append_left q] at hr
    have := kindsF_ge 0 (cs.take k) x (List.mem_of_getElem? hr)
    rw [hl] at this
    omega
  · rw [List.getElem?_append_right (by omega)] at hr
    have := kindsF_ge k (cs.drop k) x (List.mem_of_getElem? hr)
    omega
/-- the rooms whose kind is k, gone through -/
def roomsAt (ks : List Int) (k : Int) : List Nat := (List.range ks.length).filter fun r => decide (ks.getD r 0 = k)
theorem filter_none {α : Type} {p : α → Bool} {l : List α} (h : ∀ x ∈ l, p x = false) : l.filter p = [] := by
  rw [List.filter_eq_nil_iff]
  intro x hx
  rw [h x hx]
  decide
theorem filter_all {α : Type} {p : α → Bool} {l : List α} (h : ∀ x ∈ l, p x = true) : l.filter p = l := by
  rw [List.filter_eq_self]
  exact h
theorem getD_left {l r : List Int} {i : Nat} (h : i < l.length) : (l ++ r).getD i 0 = l.getD i 0 := by
  rw [List.getD_eq_getElem?_getD, List.getD_eq_getElem?_getD, List.getElem?_append_left h]
theorem getD_right {l r : List Int} {i : Nat} (h : l.length ≤ i) : (l ++ r).getD i 0 = r.getD (i - l.length) 0 := by
  rw [List.getD_eq_getElem?_getD, List.getD_eq_getElem?_getD, List.getElem?_append_right h]
theorem getD_mem {l : List Int} {i : Nat} (h : i < l.length) : l.getD i 0 ∈ l := by
  rw [List.getD_eq_getElem?_getD, List.getElem?_eq_getElem h]
  exact List.getElem_mem h
theorem roomsAt_parts (A : List Int) (c : Nat) (B : List Int) (k : Int) (hA : ∀ x ∈ A, x < k) (hB : ∀ x ∈ B, k < x) : roomsAt (A ++ (List.replicate c k ++ B)) k = (List.range c).map (A.length + ·) := by
  unfold roomsAt
  have e : (A ++ (List.replicate c k ++ B)).length = A.length + (c + B.length) := by
    rw [List.length_append, List.length_append, List.length_replicate]
  rw [e, List.range_add, List.filter_append, List.range_add, List.map_append, List.filter_append]
  rw [filter_none (l := List.range A.length), List.nil_append, filter_all, filter_none, List.append_nil]
  · intro x hx
    obtain ⟨y, hy, rfl⟩ := List.mem_map.mp hx
    obtain ⟨z, hz, rfl⟩ := List.mem_map.mp hy
    have hz := List.mem_range.mp hz
    rw [getD_right (by omega), getD_right (by rw [List.length_replicate]; omega), List.length_replicate]
    have := hB _ (getD_mem (l := B) (i := A.length + (c + z) - A.length - c) (by omega))
    rw [decide_eq_false_iff_not]
    omega
  · intro x hx
    obtain ⟨y, hy, rfl⟩ := List.mem_map.mp hx
    have hy := List.mem_range.mp hy
    rw [getD_right (by omega), getD_left (by rw [List.length_replicate]; omega)]
    have hm := getD_mem (l := List.replicate c k) (i := A.length + y - A.length) (by rw [List.length_replicate]; omega)
    rw [decide_eq_true_eq]
    exact List.eq_of_mem_replicate hm
  · intro x hx
    have hx := List.mem_range.mp hx
    rw [getD_left hx]
    have := hA _ (getD_mem hx)
    rw [decide_eq_false_iff_not]
    omega
theorem roomsAt_eq {cs : List Int} (h : House cs) {k : Nat} (hk : k < cs.length) : (roomsAt (kinds cs) (k : Int)).map (fun r : Nat => (r : Int)) = roomsOf cs (k : Int) := by
  rw [kinds_parts hk, roomsAt_parts]
  · unfold roomsOf
    rw [if_pos (by omega), List.map_map]
    have hs := kindsF_len 0 (cs.take k) fun c hc => h.nn c (List.mem_of_mem_take hc)
    rw [Int.toNat_natCast, List.getD_eq_getElem?_getD, List.getElem?_eq_getElem hk]
    show List.map _ (List.range cs[k].toNat) = List.map _ (List.range cs[k].toNat)
    refine List.map_congr_left fun i _ => ?_
    show ((((kindsF 0 (cs.take k)).length + i : Nat)) : Int) = (cs.take k).sum + (i : Int)
    omega
  · intro x hx
    have := kindsF_ge 0 (cs.take k) x hx
    rw [List.length_take] at this
    omega
  · intro x hx
    have := kindsF_ge (k + 1) _ x hx
    omega
theorem roomsAt_lt {ks : List Int} {k : Int} : ∀ r ∈ roomsAt ks k, r < ks.length := fun r hr => List.mem_range.mp (List.mem_filter.mp hr).1
end Ik

namespace Ik
open PySem PySem.Spec PyProof.Rows L2 Evl
theorem rep_one (v : V) : ∀ n : Nat, (List.replicate n [v]).flatten = List.replicate n v
  | 0 => rfl
  | n + 1 => by
    rw [List.replicate_succ, List.flatten_cons, rep_one v n]
    rfl
theorem map_rep (n : Nat) (x : Int) : (List.replicate n x).map V.int = List.replicate n (V.int x) := List.map_replicate
theorem kinds_step {cs : List Int} {i : Nat} (hi : i < cs.length) : kindsF 0 (cs.take (i + 1)) = kindsF 0 (cs.take i) ++ List.replicate cs[i].toNat (i : Int) := by
  rw [take_snoc (List.getElem?_eq_getElem hi), kindsF_snoc, List.length_take, show 0 + min i cs.length = i by omega]
theorem kinds_take_le {cs : List Int} (h : House cs) (i : Nat) : (kindsF 0 (cs.take i)).length ≤ 54 := by
  have h1 := kindsF_len 0 (cs.take i) fun c hc => h.nn c (List.mem_of_mem_take hc)
  have h2 := take_sum_le cs i h.nn
  have h3 := sum_le9 cs fun c hc => (h.ok c hc).2
  have h4 := h.le
  omega
end Ik

namespace Ik
open PySem PySem.Spec PyProof.Rows L2 Evl
/-! ### dicts of spans -/
structure Ent where
  num : Int
  first : Int
  last : Int
  kind : Int
  at_ : Addr
def Ent.kv (e : Ent) : Key × V := (Sum.inl e.num, V.ref e.at_)
def Ent.tup (e : Ent) : HO := .tup [.int e.first, .int e.last, .int e.kind]
structure Sps (H : Hp) (d : Addr) (l : List Ent) : Prop where
  dc : H d = some (.dK (l.map Ent.kv))
  tp : ∀ e ∈ l, H e.at_ = some e.tup
  nd : (l.map Ent.num).Nodup
theorem Sps.mono {H H' : Hp} {d : Addr} {l : List Ent} (S : Sps H d l) (e : Ex H H') : Sps H' d l := ⟨e _ _ S.dc, fun x hx => e _ _ (S.tp x hx), S.nd⟩
def look (l : List Ent) (n : Int) : Option Ent := l.find? fun e => decide (e.num = n)
theorem look_val (n : Int) : ∀ l : List Ent, valV (l.map Ent.kv) (Sum.inl n : Key) = (look l n).map fun e => V.ref e.at_
  | [] => rfl
  | e :: r => by
    have ih := look_val n r
    unfold valV look at *
    rw [List.map_cons, List.find?_cons, List.find?_cons]
    by_cases h : e.num = n
    · rw [decide_eq_true (show (Ent.kv e).1 = (Sum.inl n : Key) by show (Sum.inl e.num : Key) = Sum.inl n; rw [h]), decide_eq_true h]
      rfl
    · rw [decide_eq_false (show ¬ (Ent.kv e).1 = (Sum.inl n : Key) from fun z => h (Sum.inl.inj z)), decide_eq_false h]
      exact ih
theorem look_some {l : List Ent} {n : Int} (h : n ∈ l.map Ent.num) : ∃ e, look l n = some e ∧ e ∈ l ∧ e.num = n := by
  obtain ⟨e, he, hn⟩ := List.mem_map.mp h
  cases q : look l n with
  | none =>
    have := List.find?_eq_none.mp q e he
    exact absurd (decide_eq_true hn) this
  | some x => exact ⟨x, rfl, List.mem_of_find?_eq_some q, of_decide_eq_true (List.find?_some (p := fun e : Ent => decide (e.num = n)) q)⟩
theorem look_mem : ∀ {l : List Ent} {e : Ent}, (l.map Ent.num).Nodup → e ∈ l → look l e.num = some e
  | x :: r, e, hn, he => by
    obtain ⟨h1, h2⟩ := List.nodup_cons.mp (show (x.num :: r.map Ent.num).Nodup from hn)
    unfold look
    rw [List.find?_cons]
    rcases List.mem_cons.mp he with rfl | he
    · rw [decide_eq_true rfl]
    · rw [decide_eq_false fun z => h1 (by rw [z]; exact List.mem_map.mpr ⟨e, he, rfl⟩)]
      exact look_mem h2 he
def act (night : Int) (e : Ent) : Bool := decide (e.first ≤ night) && decide (night < e.last)
def actN (l : List Ent) (night n : Int) : Bool := match look l n with
  | some e => act night e
  | none => false
def kindN (l : List Ent) (n : Int) : Int := match look l n with
  | some e => e.kind
  | none => 0
def nums (l : List Ent) : List Int := l.map Ent.num
/-- the wants of a night, the numbers rising -/
def wantsL (l : List Ent) (night : Int) : List (Int × Int) := ((sortI (nums l)).filter (actN l night)).map fun n => (n, kindN l n)
def kvI (p : Int × Int) : Key × V := (Sum.inl p.1, V.int p.2)
def kindsOn (l : List Ent) (night : Int) : List (Int × Int) := if 0 ≤ night ∧ night < 40 then wantsL l night else []
theorem kv_keys (l : List Ent) : (l.map Ent.kv).map (·.1) = (nums l).map Sum.inl := by
  unfold nums
  rw [List.map_map, List.map_map]
  rfl
theorem wants_nodup {l : List Ent} (h : (l.map Ent.num).Nodup) (night : Int) : ((wantsL l night).map (·.1)).Nodup := by
  have e : (wantsL l night).map (·.1) = (sortI (nums l)).filter (actN l night) := by
    unfold wantsL
    rw [List.map_map]
    exact List.map_id _
  rw [e]
  exact (sortI_nodup h).sublist List.filter_sublist
theorem wants_len (l : List Ent) (night : Int) : (wantsL l night).length ≤ l.length := by
  unfold wantsL
  rw [List.length_map]
  refine Nat.le_trans (List.length_filter_le _ _) ?_
  rw [sortI_len]
  exact Nat.le_of_eq (List.length_map _)
theorem mem_wants_kinds {l : List Ent} (hn : (l.map Ent.num).Nodup) (night k : Int) : k ∈ (wantsL l night).map (·.2) ↔ ∃ e ∈ l, act night e = true ∧ e.kind = k := by
  unfold wantsL
  rw [List.map_map]
  constructor
  · intro h
    obtain ⟨n, hm, hk⟩ := List.mem_map.mp h
    obtain ⟨h1, h2⟩ := List.mem_filter.mp hm
    obtain ⟨e, he, hmem, hnum⟩ := look_some (sortI_mem.mp h1)
    unfold actN at h2
    rw [he] at h2
    refine ⟨e, hmem, h2, ?_⟩
    rw [← hk]
    show e.kind = kindN l n
    unfold kindN
    rw [he]
  · rintro ⟨e, he, ha, hk⟩
    have hl := look_mem hn he
    refine List.mem_map.mpr ⟨e.num, List.mem_filter.mpr ⟨sortI_mem.mpr (List.mem_map.mpr ⟨e, he, rfl⟩), ?_⟩, ?_⟩
    · unfold actN
      rw [hl]
      exact ha
    · show kindN l e.num = k
      unfold kindN
      rw [hl]
      exact hk
/-- the spans are spans of a house of so many kinds -/
structure SpanOk (many : Nat) (e : Ent) : Prop where
  f0 : 0 ≤ e.first
  fl : e.first < e.last
  l40 : e.last ≤ 40
  k0 : 0 ≤ e.kind
  km : e.kind < (many : Int)
theorem kindsOn_eq {l : List Ent} {many : Nat} (hn : (l.map Ent.num).Nodup) (ho : ∀ e ∈ l, SpanOk many e) (night : Int) : kindsOn l night = wantsL l night := by
  unfold kindsOn
  by_cases h : 0 ≤ night ∧ night < 40
  · rw [if_pos h]
  · rw [if_neg h]
    unfold wantsL
    rw [filter_none (l := sortI (nums l))]
    · rfl
    · intro n hm
      obtain ⟨e, he, hmem, _⟩ := look_some (sortI_mem.mp hm)
      have q := ho e hmem
      have := q.f0
      have := q.l40
      unfold actN
      rw [he]
      show act night e = false
      unfold act
      rw [Bool.and_eq_false_iff, decide_eq_false_iff_not, decide_eq_false_iff_not]
      omega
/-- the rooms of the kinds that are not closed -/
def roomsOn (cs : List Int) (closed : List Int) : List Int := (List.range cs.length).flatMap fun k : Nat => if (k : Int) ∈ closed then [] else roomsOf cs (k : Int)
def openR (cs : List Int) (closed : List Int) : List Nat := (List.range (kinds cs).length).filter fun r => !decide ((kinds cs).getD r 0 ∈ closed)
theorem openR_parts : ∀ (k : Nat) (cs : List Int) (closed : List Int) (off : Int), (∀ c ∈ cs, 0 ≤ c) →
    ((List.range (kindsF k cs).length).filter fun r => !decide ((kindsF k cs).getD r 0 ∈ closed)).map (fun r : Nat => off + (r : Int)) =
      (List.range cs.length).flatMap fun i => if ((k + i : Nat) : Int) ∈ closed then [] else (List.range (cs.getD i 0).toNat).map fun j : Nat => off + (cs.take i).sum + (j : Int)
  | k, [], closed, off, _ => rfl
  | k, c :: r, closed, off, h => by
    have hc := h c List.mem_cons_self
    have ih := openR_parts (k + 1) r closed (off + c) fun x hx => h x (List.mem_cons_of_mem _ hx)
    have ek : kindsF k (c :: r) = List.replicate c.toNat (k : Int) ++ kindsF (k + 1) r := rfl
    rw [ek, List.length_append, List.length_replicate, List.range_add, List.filter_append, List.map_append, List.length_cons, List.range_succ_eq_map, List.flatMap_cons, List.flatMap_map]
    congr 1
    · have e1 : ∀ x ∈ List.range c.toNat, (List.replicate c.toNat (k : Int) ++ kindsF (k + 1) r).getD x 0 = (k : Int) := fun x hx => by
        have hx := List.mem_range.mp hx
        rw [getD_left (by rw [List.length_replicate]; exact hx)]
        exact List.eq_of_mem_replicate (getD_mem (by rw [List.length_replicate]; exact hx))
      by_cases q : ((k + 0 : Nat) : Int) ∈ closed
      · rw [if_pos q, filter_none]
        · rfl
        · intro x hx
          rw [e1 x hx, decide_eq_true (show (k : Int) ∈ closed from q)]
          rfl
      · rw [if_neg q, filter_all]
        · refine List.map_congr_left fun j _ => ?_
          simp
        · intro x hx
          rw [e1 x hx, decide_eq_false (show ¬ (k : Int) ∈ closed from q)]
          rfl
    · rw [List.filter_map, List.map_map]
      have e2 : ((fun x => !decide ((List.replicate c.toNat (k : Int) ++ kindsF (k + 1) r).getD x 0 ∈ closed)) ∘ fun x => c.toNat + x) = fun x => !decide ((kindsF (k + 1) r).getD x 0 ∈ closed) := by
        funext x
        show (!decide ((List.replicate c.toNat (k : Int) ++ kindsF (k + 1) r).getD (c.toNat + x) 0 ∈ closed)) = _
        rw [getD_right (by rw [List.length_replicate]; omega), List.length_replicate, Nat.add_sub_cancel_left]
      rw [e2]
      have e3 : ((fun r : Nat => off + (r : Int)) ∘ fun x => c.toNat + x) = fun r : Nat => off + c + (r : Int) := by
        funext x
        show off + ((c.toNat + x : Nat) : Int) = off + c + (x : Int)
        omega
      rw [e3, ih]
      congr 1
      funext i
      show (if ((k + 1 + i : Nat) : Int) ∈ closed then [] else (List.range (r.getD i 0).toNat).map fun j : Nat => off + c + (r.take i).sum + (j : Int)) = (if ((k + (i + 1) : Nat) : Int) ∈ closed then [] else (List.range ((c :: r).getD (i + 1) 0).toNat).map fun j : Nat => off + ((c :: r).take (i + 1)).sum + (j : Int))
      rw [show k + 1 + i = k + (i + 1) by omega, List.take_succ_cons, List.sum_cons, show (c :: r).getD (i + 1) 0 = r.getD i 0 from rfl, ← Int.add_assoc]
theorem openR_eq {cs : List Int} (h : House cs) (closed : List Int) : (openR cs closed).map (fun r : Nat => (r : Int)) = roomsOn cs closed := by
  have e := openR_parts 0 cs closed 0 h.nn
  have e1 : (openR cs closed).map (fun r : Nat => (r : Int)) = (openR cs closed).map (fun r : Nat => (0 : Int) + (r : Int)) := List.map_congr_left fun r _ => (Int.zero_add _).symm
  rw [e1]
  unfold openR kinds
  rw [e]
  unfold roomsOn
  rw [List.flatMap_def, List.flatMap_def]
  congr 1
  refine List.map_congr_left fun i hi => ?_
  have hi := List.mem_range.mp hi
  rw [Nat.zero_add]
  by_cases q : (i : Int) ∈ closed
  · rw [if_pos q, if_pos q]
  · rw [if_neg q, if_neg q]
    unfold roomsOf
    rw [if_pos (by omega), Int.toNat_natCast]
    refine List.map_congr_left fun j _ => ?_
    rw [Int.zero_add]
theorem openR_congr {cs : List Int} {c1 c2 : List Int} (h : ∀ k, k ∈ c1 ↔ k ∈ c2) : openR cs c1 = openR cs c2 := by
  unfold openR
  congr 1
  funext r
  rw [decide_eq_decide.mpr (h _)]
theorem openR_lt {cs closed : List Int} : ∀ r ∈ openR cs closed, r < (kinds cs).length := fun r hr => List.mem_range.mp (List.mem_filter.mp hr).1
theorem openR_len {cs : List Int} (h : House cs) (closed : List Int) : (openR cs closed).length ≤ 54 := by
  refine Nat.le_trans (List.length_filter_le _ _) ?_
  rw [List.length_range]
  exact kinds_le h
theorem roomsOn_take_len {cs : List Int} (h : House cs) (closed : List Int) : (roomsOn cs closed).length ≤ 54 := by
  rw [← openR_eq h, List.length_map]
  exact openR_len h closed
theorem inV_ints (x : Int) : ∀ ns : List Int, inV (.int x) (ns.map V.int) = decide (x ∈ ns)
  | [] => by simp [inV]
  | n :: r => by
    have ih := inV_ints x r
    unfold inV at *
    rw [List.map_cons, List.any_cons, ih]
    show ((n == x) || decide (x ∈ r)) = decide (x ∈ n :: r)
    by_cases h1 : n = x
    · subst h1
      simp
    · have h2 : ¬ x = n := fun z => h1 z.symm
      rw [show (n == x) = false by simp [h1], Bool.false_or, decide_eq_decide.mpr]
      rw [List.mem_cons]
      exact ⟨.inr, fun z => z.resolve_left h2⟩
theorem flat_ints (ns : List Int) : (ns.map V.int).all flatV = true := by
  rw [List.all_map]
  exact List.all_eq_true.mpr fun _ _ => rfl
def isSpan (cs : List Int) (f l k : Int) : Bool := (decide (0 ≤ f) && (decide (f < l) && decide (l ≤ 40))) && (decide (0 ≤ k) && decide (k < (cs.length : Int)))
section
variable {K : PySem.W.Frag} {σ : L2.St} {H H' : Hp} {ta tb tc td te tl : TE} {t u : TT} {x y z v : V} {R : Rel}
theorem ev_inI {p : Addr} {n : Int} {ns : List Int} (ha : Ev ta σ H (.int n)) (hb : Ev tb σ H (.ref p)) (h : SqL K H p (ns.map V.int)) : Ev (tOp (rIn K false) ta tb) σ H (.bl (decide (n ∈ ns))) := by
  have q := ev_op ha hb (rv_isL h rfl (flat_ints ns))
  rw [inV_ints] at q
  exact q
theorem ev_niI {p : Addr} {n : Int} {ns : List Int} (ha : Ev ta σ H (.int n)) (hb : Ev tb σ H (.ref p)) (h : SqL K H p (ns.map V.int)) : Ev (tOp (rIn K true) ta tb) σ H (.bl (!decide (n ∈ ns))) := by
  have q := ev_op ha hb (rv_niL h rfl (flat_ints ns))
  rw [inV_ints] at q
  exact q
variable {D : Ends} {tu tz : TS}
/-- l.extend(a new list) -/
theorem s_ext {l : Addr} {xs ys : List V} (hl : H l = some (.lst xs)) (ha : Ev ta σ H (.ref l)) (h : EvL te σ H ys) (hz : xs.length + ys.length ≤ 100000) (k : ∀ H1, Ex H H1 → D.nx σ (upd H1 l (.lst (xs ++ ys)))) :
    tDrop (tBM K "list" rExtend ta (tCons te tNil)) D σ H := ha H (Ex.refl H) _ fun H1 e1 =>
  ⟨Or.inl ⟨rfl, xs, sq_of (e1 l _ hl)⟩, h H1 e1 _ fun p H2 hp e2 h2 => ⟨l, p, xs, ys, rfl, rfl, e2 l _ (e1 l _ hl), h2, sz_of hz, k H2 (e1.trans e2)⟩⟩
end
end Ik

namespace Ik
open PySem PySem.Spec PyProof.Rows L2 Evl
/-! ### comprehensions over a dict's items; dict comprehensions; how many unlike ints -/
section
variable {K : PySem.W.Frag} {σ : L2.St} {H H1 H' : Hp} {ta tb tc td te tl tk tv : TE} {t u : TT} {x y z v : V} {d : Addr} {kvs : List (Key × V)} {od : Obj}
theorem CwA.ext {α : Type} {l : List α} {f : α → Bool} {g : α → V} {Dl : Addr} {i : Nat} {H'' : Hp} (p : CwA H l f g Dl i H') (e : Ex H' H'') : CwA H l f g Dl i H'' := ⟨p.1, p.2.1.trans e, e _ _ p.2.2⟩
/-- [.. for a, b in d.items() if ..], d of ints to ints, locked meanwhile -/
theorem lcI_core {ja jb : Nat} {vs : List Nat} {l : List (Int × Int)} (f : Int × Int → Bool) (g : Int × Int → V) (hσ : Ev td σ (upd H d (.frz od (.dK (l.map kvI)))) (.ref d)) (hz : l.length < 50000) (hw : ∀ x y, wipe (((wipe σ vs).set ja (some x)).set jb (some y)) vs = wipe σ vs)
    (ht : ∀ p ∈ l, EvT t (((wipe σ vs).set ja (some (.int p.1))).set jb (some (.int p.2))) (upd H d (.frz od (.dK (l.map kvI)))) (f p)) (he : ∀ p ∈ l, f p = true → Ev te (((wipe σ vs).set ja (some (.int p.1))).set jb (some (.int p.2))) (upd H d (.frz od (.dK (l.map kvI)))) (g p))
    (hd : H d = some (.dK (l.map kvI))) (H1 : Hp) (e : Ex H H1) (Q : VK) (q : ∀ p H', H1 p = none → Ex H1 (upd H' d (.dK (l.map kvI))) → H' d = some (.frz od (.dK (l.map kvI))) → (upd H' d (.dK (l.map kvI))) p = some (.lst ((l.filter f).map g)) → Q (.ref p) H') :
    tLc (iItems td) (gTup K 2 (gCons (gName ja) (gCons (gName jb) gNil))) t te vs σ (upd H1 d (.frz od (.dK (l.map kvI)))) Q :=
  hσ _ (ex_lock e) _ fun H2 e2 => ⟨d, od, l.map kvI, rfl, e2 _ _ upd_same, fun Dl hD =>
    lc_it (walk_items (d := d) (o := od) (kvs := l.map kvI)) (CwA H2 l f g Dl) ⟨hD, Ex.new hD, upd_same⟩ (fun i H' _ p => p.2.1 _ _ (e2 _ _ upd_same)) (fun i x H3 H' hi p y => by
      obtain ⟨T, v1, v2, rfl, nT, rfl, e3, e4⟩ := y
      have eL := (ex_lock (d := d) (kvs := l.map kvI) (od := od) e).trans e2
      cases hq : l[i]? with
      | none =>
        simp [hq] at e3
      | some b =>
        have e3 : V.int b.1 = v1 := by simpa [hq, kvI, kV] using e3
        have e4 : V.int b.2 = v2 := by simpa [hq, kvI] using e4
        subst e3 e4
        have hm : b ∈ l := List.mem_of_getElem? hq
        exact ⟨T, [.int b.1, .int b.2], rfl, .inl (.inl upd_same), rfl, _, _, rfl, _, _, rfl, rfl, hw _ _, cwA_turn (p.ext (Ex.new nT)) hq hz ((ht b hm).mono eL) fun hf => (he b hm hf).mono eL⟩)
    (fun H' p => by
      obtain ⟨p1, p2, p3⟩ := p
      rw [List.length_map, List.take_length] at p3
      have p1' := fresh_back e2 p1
      have nd : Dl ≠ d := fun z => by
        rw [z, upd_same] at p1'
        cases p1'
      have eL := e2.trans p2
      refine q Dl H' (by rw [upd_ne nd] at p1'; exact p1') (ex_unlock (e _ _ hd) eL) (eL _ _ upd_same) ?_
      rw [upd_ne nd]
      exact p3)⟩
theorem el_lcI {ja jb : Nat} {vs : List Nat} {l : List (Int × Int)} (f : Int × Int → Bool) (g : Int × Int → V) (hd : H d = some (.dK (l.map kvI))) (hz : l.length < 50000) (hw : ∀ x y, wipe (((wipe σ vs).set ja (some x)).set jb (some y)) vs = wipe σ vs) (hσ : ∀ od, Ev td σ (upd H d (.frz od (.dK (l.map kvI)))) (.ref d))
    (ht : ∀ od, ∀ p ∈ l, EvT t (((wipe σ vs).set ja (some (.int p.1))).set jb (some (.int p.2))) (upd H d (.frz od (.dK (l.map kvI)))) (f p)) (he : ∀ od, ∀ p ∈ l, f p = true → Ev te (((wipe σ vs).set ja (some (.int p.1))).set jb (some (.int p.2))) (upd H d (.frz od (.dK (l.map kvI)))) (g p)) :
    EvL (tLockE (tLc (iItems td) (gTup K 2 (gCons (gName ja) (gCons (gName jb) gNil))) t te vs)) σ H ((l.filter f).map g) := fun H1 e Q q =>
  ⟨d, .dK (l.map kvI), e _ _ hd, trivial, fun od => lcI_core f g (hσ od) hz hw (ht od) (he od) hd H1 e _ fun p H' hp e1 h1 h2 => ⟨h1, q p _ hp e1 h2⟩⟩
/-! dict comprehensions: over whatever is walked -/
theorem dc_it {J : It} {n : Nat} {G : Hp → Prop} {Y : Nat → Hp → V → Hp → Prop} (w : Walk J n G Y) {g : TG} {vs : List Nat} {D : Addr} {Qd : Hp → Prop} (Pv : Nat → Hp → Prop) (h0 : Pv 0 (upd H1 D (.dK []))) (hG : ∀ i H, i ≤ n → Pv i H → G H)
    (hs : ∀ i x H H', i < n → Pv i H → Y i H x H' → g x (wipe σ vs) H' fun σ2 H2 => wipe σ2 vs = wipe σ vs ∧ t σ2 H2 fun b H3 =>
      if b = true then tk σ2 H3 fun y H4 => tv σ2 H4 fun z H5 => ∃ kvs k, y = kV k ∧ H5 D = some (.dK kvs) ∧ kvs.length < sizeLine ∧ Pv (i + 1) (upd H5 D (.dK (putK kvs k z))) else Pv (i + 1) H3) (hd : ∀ H, Pv n H → Qd H) :
    ∃ W : Nat → Nat → Hp → Prop, (∃ m, W 0 m (upd H1 D (.dK []))) ∧ ∀ i m H, W i m H →
      (J.stop i H ∧ Qd H) ∨ (J.go i H ∧ ∃ Nx : Hp → Prop, (∀ H', Nx H' → ∃ m', m' < m ∧ W (i + 1) m' H') ∧ ∀ x H', J.yld i H x H' → g x (wipe σ vs) H' fun σ2 H2 => wipe σ2 vs = wipe σ vs ∧ t σ2 H2 fun b H3 =>
        if b = true then tk σ2 H3 fun y H4 => tv σ2 H4 fun z H5 => ∃ kvs k, y = kV k ∧ H5 D = some (.dK kvs) ∧ kvs.length < sizeLine ∧ Nx (upd H5 D (.dK (putK kvs k z))) else Nx H3) := by
  refine ⟨fun i m H => m + i = n ∧ Pv i H, ⟨n, rfl, h0⟩, ?_⟩
  rintro i m H ⟨hm, p⟩
  have q := hG i H (by omega) p
  rcases Nat.lt_or_ge i n with hlt | hge
  · exact .inr ⟨w.goes i H hlt q, Pv (i + 1), fun H' p' => ⟨m - 1, by omega, by omega, p'⟩, fun x H' y => hs i x H H' hlt p (w.yields i H x H' hlt q y)⟩
  · obtain rfl : i = n := by omega
    exact .inl ⟨w.stops H q, hd H p⟩
def DwA {α : Type} (H : Hp) (l : List α) (f : α → Bool) (g : α → Int × V) (D : Addr) (i : Nat) (H' : Hp) : Prop := H D = none ∧ Ex H H' ∧ H' D = some (.dK (((l.take i).filter f).map fun x => ((Sum.inl (g x).1 : Key), (g x).2)))
theorem dwA_turn {α : Type} {l : List α} {f : α → Bool} {g : α → Int × V} {D : Addr} {i : Nat} {x : α} {σ2 : L2.St} (p : DwA H l f g D i H') (hn : (l.map fun x => (g x).1).Nodup) (hi : l[i]? = some x) (hz : l.length < 50000) (ht : EvT t σ2 H (f x)) (hk : f x = true → Ev tk σ2 H (.int (g x).1)) (hv : f x = true → Ev tv σ2 H (g x).2) :
    t σ2 H' fun b H3 => if b = true then tk σ2 H3 fun y H4 => tv σ2 H4 fun z H5 => ∃ kvs k, y = kV k ∧ H5 D = some (.dK kvs) ∧ kvs.length < sizeLine ∧ DwA H l f g D (i + 1) (upd H5 D (.dK (putK kvs k z))) else DwA H l f g D (i + 1) H3 := by
  obtain ⟨p1, p2, p3⟩ := p
  have hlt : i < l.length := (List.getElem?_eq_some_iff.mp hi).1
  have hlen : (((l.take i).filter f).map fun x => ((Sum.inl (g x).1 : Key), (g x).2)).length ≤ l.length := by
    rw [List.length_map]
    refine Nat.le_trans (List.length_filter_le _ _) ?_
    rw [List.length_take]
    omega
  refine ht H' p2 _ fun H3 e3 => ?_
  cases hf : f x with
  | true =>
    show tk σ2 H3 fun y H4 => tv σ2 H4 fun z H5 => ∃ kvs k, y = kV k ∧ H5 D = some (.dK kvs) ∧ kvs.length < sizeLine ∧ DwA H l f g D (i + 1) (upd H5 D (.dK (putK kvs k z)))
    refine hk hf H3 (p2.trans e3) _ fun H4 e4 => hv hf H4 ((p2.trans e3).trans e4) _ fun H5 e5 => ⟨_, Sum.inl (g x).1, rfl, e5 D _ (e4 D _ (e3 D _ p3)), sz_lt (by omega), p1, Ex.mut (((p2.trans e3).trans e4).trans e5) p1, ?_⟩
    rw [upd_same, take_snoc hi, List.filter_append, List.map_append, List.filter_cons, if_pos hf, putK_new _ (valV_none fun z => ?_)]
    · rfl
    · obtain ⟨⟨k, w⟩, h1, h2⟩ := List.mem_map.mp z
      obtain ⟨y, h3, h4⟩ := List.mem_map.mp h1
      obtain ⟨j, hj⟩ := List.mem_iff_getElem?.mp (List.mem_filter.mp h3).1
      have hji : j < i := by
        have := (List.getElem?_eq_some_iff.mp hj).1
        rw [List.length_take] at this
        omega
      rw [List.getElem?_take_of_lt hji] at hj
      have h5 : (g y).1 = (g x).1 := by
        have e6 : (Sum.inl (g y).1 : Key) = k := congrArg Prod.fst h4
        have h2 : k = Sum.inl (g x).1 := h2
        exact Sum.inl.inj (e6.trans h2)
      have a1 : (l.map fun x => (g x).1)[j]? = some (g x).1 := by rw [List.getElem?_map, hj]; exact congrArg some h5
      have a2 : (l.map fun x => (g x).1)[i]? = some (g x).1 := by rw [List.getElem?_map, hi]; rfl
      have := nd_ix hn a1 a2
      omega
  | false =>
    show DwA H l f g D (i + 1) H3
    refine ⟨p1, p2.trans e3, ?_⟩
    rw [take_snoc hi, List.filter_append, List.map_append, List.filter_cons, if_neg (by rw [hf]; decide)]
    show H3 D = some (.dK (_ ++ []))
    rw [List.append_nil]
    exact e3 D _ p3
/-- {k: .. for k in d if ..}, d locked meanwhile -/
theorem ed_dcK {j : Nat} {vs : List Nat} {ks : List Int} (f : Int → Bool) (g : Int → Int × V) (hd : H d = some (.dK kvs)) (hk : kvs.map (·.1) = ks.map Sum.inl) (hn : (ks.map fun x => (g x).1).Nodup) (hz : ks.length < 50000) (hw : ∀ x, wipe ((wipe σ vs).set j (some x)) vs = wipe σ vs) (hσ : ∀ od, Ev td σ (upd H d (.frz od (.dK kvs))) (.ref d))
    (ht : ∀ od, ∀ k ∈ ks, EvT t ((wipe σ vs).set j (some (.int k))) (upd H d (.frz od (.dK kvs))) (f k)) (hkk : ∀ od, ∀ k ∈ ks, f k = true → Ev tk ((wipe σ vs).set j (some (.int k))) (upd H d (.frz od (.dK kvs))) (.int (g k).1))
    (he : ∀ od, ∀ k ∈ ks, f k = true → Ev tv ((wipe σ vs).set j (some (.int k))) (upd H d (.frz od (.dK kvs))) (g k).2) :
    EvD (tLockE (tDc (iKeys td) (gName j) t tk tv vs)) σ H ((ks.filter f).map fun n => ((Sum.inl (g n).1 : Key), (g n).2)) := fun H1 e Q q =>
  ⟨d, .dK kvs, e _ _ hd, trivial, fun od => hσ od _ (ex_lock e) _ fun H2 e2 => ⟨d, od, rfl, .inl ⟨kvs, e2 _ _ upd_same, fun Dl hD =>
    dc_it (walk_keys (d := d) (o := od) (kvs := kvs)) (DwA H2 ks f g Dl) ⟨hD, Ex.new hD, upd_same⟩ (fun i H' _ p => p.2.1 _ _ (e2 _ _ upd_same)) (fun i x H3 H' hi p y => by
      obtain ⟨rfl, k, w, hq, rfl⟩ := y
      obtain ⟨n, hn', rfl⟩ := key_at hk hq
      have hm : n ∈ ks := List.mem_of_getElem? hn'
      have eL := (ex_lock (d := d) (kvs := kvs) (od := od) e).trans e2
      exact ⟨hw _, dwA_turn p hn hn' hz ((ht od n hm).mono eL) (fun hf => (hkk od n hm hf).mono eL) fun hf => (he od n hm hf).mono eL⟩)
    (fun H' p => by
      obtain ⟨p1, p2, p3⟩ := p
      rw [keys_len hk, List.take_length] at p3
      have eL := e2.trans p2
      have p1' := fresh_back e2 p1
      have nd : Dl ≠ d := fun z => by
        rw [z, upd_same] at p1'
        cases p1'
      refine ⟨eL _ _ upd_same, q Dl _ (by rw [upd_ne nd] at p1'; exact p1') (ex_unlock (e _ _ hd) eL) ?_⟩
      rw [upd_ne nd]
      exact p3)⟩⟩⟩
/-- {k: .. for k in a new list if ..} -/
theorem ed_dcN {α : Type} {j : Nat} {vs : List Nat} (l : List α) (enc : α → V) (f : α → Bool) (g : α → Int × V) (h : EvL tl σ H (l.map enc)) (hn : (l.map fun x => (g x).1).Nodup) (hz : l.length < 50000) (hw : ∀ x, wipe ((wipe σ vs).set j (some x)) vs = wipe σ vs)
    (ht : ∀ x ∈ l, ∀ H1, Ex H H1 → EvT t ((wipe σ vs).set j (some (enc x))) H1 (f x)) (hkk : ∀ x ∈ l, f x = true → ∀ H1, Ex H H1 → Ev tk ((wipe σ vs).set j (some (enc x))) H1 (.int (g x).1)) (he : ∀ x ∈ l, f x = true → ∀ H1, Ex H H1 → Ev tv ((wipe σ vs).set j (some (enc x))) H1 (g x).2) :
    EvD (tDc (iList K tl) (gName j) t tk tv vs) σ H ((l.filter f).map fun n => ((Sum.inl (g n).1 : Key), (g n).2)) := fun H0 e Q q => h H0 e _ fun a H1 ha e1 hx => ⟨a, rfl, ⟨_, sq_of hx⟩, fun Dl hD =>
  dc_it (walk_list (K := K) (a := a) (xs := l.map enc)) (DwA H1 l f g Dl) ⟨hD, Ex.new hD, upd_same⟩ (fun i H' _ p => sq_of (p.2.1 a _ hx)) (fun i x H3 H' hi p y => by
    obtain ⟨rfl, hx'⟩ := y
    rw [List.getElem?_map] at hx'
    cases hq : l[i]? with
    | none =>
      rw [hq] at hx'
      cases hx'
    | some b =>
      rw [hq] at hx'
      have ex : enc b = x := Option.some.inj hx'
      subst ex
      have hm : b ∈ l := List.mem_of_getElem? hq
      exact ⟨hw _, dwA_turn p hn hq hz (ht b hm H1 (e.trans e1)) (fun hf => hkk b hm hf H1 (e.trans e1)) fun hf => he b hm hf H1 (e.trans e1)⟩)
    (fun H' p => by
      obtain ⟨p1, p2, p3⟩ := p
      rw [List.length_map, List.take_length] at p3
      exact q Dl H' (fresh_back e1 p1) (e1.trans p2) p3)⟩
end
/-! len(set(a list of ints)) -/
def uniq (ns : List Int) : List Int := PyProof.Rows.firstMet (fun i => ns.getD i 0) ns.length
theorem uniq_step (f : Nat → Int) : ∀ n, (PyProof.Rows.firstMet f n).Nodup ∧ ∀ x, x ∈ PyProof.Rows.firstMet f n ↔ ∃ i, i < n ∧ f i = x
  | 0 => ⟨List.nodup_nil, fun x => ⟨fun h => (nomatch h), fun ⟨i, h, _⟩ => absurd h (Nat.not_lt_zero i)⟩⟩
  | n + 1 => by
    obtain ⟨h1, h2⟩ := uniq_step f n
    rw [PyProof.Rows.firstMet_succ]
    unfold PyProof.Rows.step_dedup
    by_cases q : (PyProof.Rows.firstMet f n).any (· == f n) = true
    · rw [if_pos q]
      refine ⟨h1, fun x => ⟨fun h => ?_, fun ⟨i, hi, e⟩ => ?_⟩⟩
      · obtain ⟨i, hi, e⟩ := (h2 x).mp h
        exact ⟨i, by omega, e⟩
      · by_cases hin : i = n
        · subst hin
          obtain ⟨y, hy, ey⟩ := List.any_eq_true.mp q
          have ey : y = f i := eq_of_beq ey
          rw [← e, ← ey]
          exact hy
        · exact (h2 x).mpr ⟨i, by omega, e⟩
    · rw [if_neg q]
      have no : f n ∉ PyProof.Rows.firstMet f n := fun z => q (List.any_eq_true.mpr ⟨_, z, beq_self_eq_true _⟩)
      refine ⟨List.nodup_append.mpr ⟨h1, by simp, fun x hx y hy e => ?_⟩, fun x => ⟨fun h => ?_, fun ⟨i, hi, e⟩ => ?_⟩⟩
      · rw [List.mem_singleton] at hy
        rw [e, hy] at hx
        exact no hx
      · rcases List.mem_append.mp h with h | h
        · obtain ⟨i, hi, e⟩ := (h2 x).mp h
          exact ⟨i, by omega, e⟩
        · exact ⟨n, by omega, (List.mem_singleton.mp h).symm⟩
      · by_cases hin : i = n
        · subst hin
          exact List.mem_append_right _ (List.mem_singleton.mpr e.symm)
        · exact List.mem_append_left _ ((h2 x).mpr ⟨i, by omega, e⟩)
theorem uniq_nodup (ns : List Int) : (uniq ns).Nodup := (uniq_step _ _).1
theorem uniq_mem {ns : List Int} {x : Int} : x ∈ uniq ns ↔ x ∈ ns := by
  unfold uniq
  rw [(uniq_step _ _).2]
  constructor
  · rintro ⟨i, hi, rfl⟩
    rw [List.getD_eq_getElem?_getD, List.getElem?_eq_getElem hi]
    exact List.getElem_mem hi
  · intro h
    obtain ⟨i, hi⟩ := List.mem_iff_getElem?.mp h
    exact ⟨i, (List.getElem?_eq_some_iff.mp hi).1, by rw [List.getD_eq_getElem?_getD, hi]; rfl⟩
theorem same_len {xs ys : List Int} (h1 : xs.Nodup) (h2 : ys.Nodup) (h : ∀ x, x ∈ xs ↔ x ∈ ys) : xs.length = ys.length := (List.perm_ext_iff_of_nodup h1 h2 |>.mpr h).length_eq
theorem first_le (f : Nat → Int) : ∀ n, (PyProof.Rows.firstMet f n).length ≤ n
  | 0 => Nat.le_refl _
  | n + 1 => by
    have := first_le f n
    rw [PyProof.Rows.firstMet_succ]
    unfold PyProof.Rows.step_dedup
    split
    · omega
    · rw [List.length_append, List.length_singleton]
      omega
theorem uniq_le (ns : List Int) : (uniq ns).length ≤ ns.length := first_le _ _
def tLenSetU (K : PySem.W.Frag) (ta : TE) : TE := fun σ H Q => ta σ H fun x H1 => ∃ (l : Addr) (ns : List Int), x = .ref l ∧ SqL K H1 l (ns.map V.int) ∧ ns.length ≤ 4000 ∧ Q (.int ((uniq ns).length : Nat)) H1
theorem pe_lenSetU {X : Cx} {a : Expr} {ta : TE} {p p2 q pos : Pos} (hg : Gl X "len") (hm : X.mg "len" = none) (hg2 : Gl X "set") (hm2 : X.mg "set" = none) (ha : PE X a ta) (hc : X.calm = true := by rfl)
    (na : starEach [a] X.env = (false, eval a X.env) :: starEach [] X.env := by rfl) : PE X (.Call (.Name "len" p) [.Call (.Name "set" p2) [a] [] q] [] pos) (tLenSetU X.K ta) := by
  refine ⟨fun pins s σ H Q I h => ?_⟩
  refine Call_ (ld_blt I hg hm boot_len ?_)
  refine PyProof.Rows.callWith_builtin1 (PyProof.Rows.args_cons ?_ rfl) rfl rfl
  refine Call_ (ld_blt I hg2 hm2 boot_set ?_)
  refine PyProof.Rows.callWith_type1 (PyProof.Rows.args_cons (thn (ha.run pins s σ H _ I h) fun v s1 ⟨x, H1, I1, r1, q1⟩ => PyProof.Rows.args_nil ?_) na) na rfl
  obtain ⟨l, ns, rfl, hq, hl, q1⟩ := q1
  obtain rfl : v = Value.ref l := r1
  obtain ⟨its, r, pl, hz⟩ := I1.list hq
  have hlen : its.toArray.size = ns.length := by rw [List.size_toArray, ← r.length, List.length_map]
  have hul := uniq_le ns
  refine call_set_list (I1.ok.hd hc) pl.isList (ns := ns) (by simpa using r.ints) (by rw [hlen]; unfold scanBound; omega) fun h' tk hS hk => ?_
  refine PyProof.Rows.args_nil ?_
  rw [hlen, show PyProof.Rows.firstMet (fun i => ns.getD i 0) ns.length = uniq ns from rfl] at hS
  obtain ⟨o, es, ep, t, ho, hex, hd, _, _, _, hf, hn⟩ := hS
  have I2 : Inv X pins σ H1 { s1 with heap := h', toks := tk } := I1.kept fun b o e => hk b o (Heap.lt_size e) e
  exact call_len_set ho hex hd hf (by rw [hn] <;> omega) ⟨.int (uniq ns).length, H1, I2.tok _, ⟨_, by rw [hn]⟩, q1⟩
section
variable {K : PySem.W.Frag} {σ : L2.St} {H : Hp} {ta : TE}
theorem ev_lenSet {p : Addr} {ns : List Int} (h : Ev ta σ H (.ref p)) (hx : SqL K H p (ns.map V.int)) (hl : ns.length ≤ 4000) : Ev (tLenSetU K ta) σ H (.int ((uniq ns).length : Nat)) := fun H1 e Q q =>
  h H1 e _ fun H2 e2 => ⟨p, ns, rfl, ex_l (e.trans e2) hx, hl, q H2 e2⟩
end
end Ik

namespace Ik
open PySem PySem.Spec PyProof.Rows L2 Evl LamX
/-! ### a lambda of one parameter, handed as key= -/
structure Lam1 (sc scope : Scope) (y : Str) : Prop where
  kind : scope.kind = .function
  co : scope.isCoroutine = false
  gen : scope.isGenerator = false
  par : scope.names.lookup y = some .local
  own : ∀ z ∈ scope.names, z.2 ≠ .cell ∧ (z.2 = .local → z.1 = y)
  free : ∀ z ∈ scope.names, z.2 = .free → z.1 ≠ y ∧ (sc.names.lookup z.1 = some .cell ∨ sc.names.lookup z.1 = some .free)
def lam1B (sc scope : Scope) (y : Str) : Bool :=
  decide (scope.kind = .function) && (!scope.isCoroutine && (!scope.isGenerator && (decide (scope.names.lookup y = some .local) && (scope.names.all fun z => !decide (z.2 = .cell) && ((!decide (z.2 = .local) || decide (z.1 = y)) &&
    (!decide (z.2 = .free) || (!decide (z.1 = y) && (decide (sc.names.lookup z.1 = some .cell) || decide (sc.names.lookup z.1 = some .free)))))))))
theorem lam1_by {sc scope : Scope} {y : Str} (h : lam1B sc scope y = true) : Lam1 sc scope y := by
  unfold lam1B at h
  simp only [Bool.and_eq_true, Bool.or_eq_true, Bool.not_eq_true', decide_eq_true_eq, decide_eq_false_iff_not, List.all_eq_true] at h
  obtain ⟨h1, h2, h3, h4, h5⟩ := h
  refine ⟨h1, h2, h3, h4, fun z hz => ⟨(h5 z hz).1, fun e => ?_⟩, fun z hz e => ?_⟩
  · rcases (h5 z hz).2.1 with q | q
    · exact absurd e q
    · exact q
  · rcases (h5 z hz).2.2 with q | q
    · exact absurd e q
    · exact q
section
variable {X : Cx} {pins : List (Addr × Obj)} {σ : L2.St} {H : Hp} {s : Shared}
theorem lam_cells {sc scope : Scope} {y : Str} (L : Lam1 X.env.scope scope y) (ok : X.Ok) : ∀ z ∈ scope.names, z.2 = .free → ∃ c, X.env.cells.lookup z.1 = some c := fun z hz e => by
  rcases (L.free z hz e).2 with k | k
  · exact ok.has _ (.inl k)
  · exact ok.has _ (.inr k)
/-- the lambda's own names, at its start -/
theorem lam1_start {A : Around} {E : XK} {scope : Scope} {f c' : Addr} {h₁ : Heap} {tk j : Nat} {y : Str} {x : V} {u : Value} (I : Inv X pins σ H s) (L : Lam1 X.env.scope scope y) (hfr : A.frames = some X.stack) (hd : A.handled = none) (hN : X.N.Nodup) (hj : X.N[j]? = some y) (rx : RelV x u)
    (hns : h₁.Ns s.heap.objs.size fun z => ([(y, u)] : List (Str × Value)).reverse.lookup z) (kp : ∀ b o, s.heap.get? b = some o → h₁.get? b = some o) :
    Inv (lamCx X A X.stack s H E scope f c') [] (σ.set j (some x)) H { s with heap := h₁, toks := tk } := by
  have hfree := lam_cells (sc := X.env.scope) L I.ok
  have e0 := I.env0
  have cm : ∀ {z c}, (cloFrom X.env.cells scope.names []).lookup z = some c → X.env.cells.lookup z = some c := fun {z c} e => by
    rcases cloFrom_mem (PySem.mem_of_lookup e) with hm | ⟨h1, h2⟩
    · cases hm
    · obtain ⟨c1, hc⟩ := hfree _ h1 rfl
      have hc : X.env.cells.lookup z = some c1 := hc
      have e2 : c = c1 := by
        rw [h2, hc] <;> rfl
      rw [e2]
      exact hc
  have look : ∀ {z}, scope.names.lookup z = some .free → ∃ c, (cloFrom X.env.cells scope.names []).lookup z = some c := fun {z} hl =>
    mem_lookup (cloFrom_has (cells := X.env.cells) (acc := []) (PySem.mem_of_lookup hl))
  have noA : ∀ b : Addr, b ∉ (lamCx X A X.stack s H E scope f c').ex := fun b z => absurd (show b ∈ ([] : List Addr) from z) (by simp)
  refine ⟨⟨e0.mod, L.kind, rfl, rfl, Nat.le_refl _, fun a z c e1 e2 => I.ok.inj a z c (cm e1) (cm e2), fun z hz => ?_, fun z c q _ => ?_, fun _ => hd, Around.frames_deeper hfr, .inr ⟨rfl, rfl⟩, fun b z => absurd z (noA b), e0.bs, e0.bsz, fun b _ _ => noA b,
      fun b z => absurd z (noA b), e0.funs, e0.frf⟩,
    rfl, e0.bare, Un.kept kp, ⟨_, hns, fun i z v e1 e2 e3 => ?_⟩, fun z c e => ?_, e0.hok.fresh (Nat.le_refl _), fun z c e => ?_, fun q hq => absurd (show q ∈ ([] : List (Addr × Obj)) ++ [] from hq) (by simp), e0.hok.kept kp, ?_⟩
  · have hz : scope.names.lookup z = some .cell ∨ scope.names.lookup z = some .free := hz
    rcases hz with hz | hz
    · exact absurd rfl (L.own _ (PySem.mem_of_lookup hz)).1
    · exact look hz
  · have q : false = true := q
    cases q
  · have e1 : X.N[i]? = some z := e1
    have e3 : Vis scope z := e3
    rcases e3 with k | k | k
    · have ez : z = y := (L.own _ (PySem.mem_of_lookup k)).2 rfl
      subst ez
      have hi : i = j := by
        obtain ⟨l1, a1⟩ := List.getElem?_eq_some_iff.mp e1
        obtain ⟨l2, a2⟩ := List.getElem?_eq_some_iff.mp hj
        exact (List.getElem_inj hN).mp (a1.trans a2.symm)
      subst hi
      have hlt : i < σ.length := by
        rw [I.len]
        exact (List.getElem?_eq_some_iff.mp e1).1
      rw [List.getElem?_set_self hlt] at e2
      cases e2
      exact ⟨u, rx, .inl ⟨L.par, by simp⟩⟩
    · exact absurd rfl (L.own _ (PySem.mem_of_lookup k)).1
    · have hzy := (L.free _ (PySem.mem_of_lookup k) rfl).1
      have hij : j ≠ i := fun q => by
        rw [← q, hj] at e1
        exact hzy (Option.some.inj e1).symm
      rw [List.getElem?_set_ne hij] at e2
      obtain ⟨m, hn, hl⟩ := I.loc
      have hvis : Vis X.env.scope z := (L.free _ (PySem.mem_of_lookup k) rfl).2.elim (fun k => .inr (.inl k)) (fun k => .inr (.inr k))
      obtain ⟨w', r, q⟩ := hl i z v e1 e2 hvis
      obtain ⟨c2, h2⟩ := look k
      refine ⟨w', r, .inr ⟨.inr k, c2, h2, ?_⟩⟩
      have c1 := cm h2
      rcases q with ⟨k', _⟩ | ⟨_, c3, e', ⟨o, z1, z2⟩⟩
      · have k' : X.env.scope.names.lookup z = some .local := k'
        rcases (L.free _ (PySem.mem_of_lookup k) rfl).2 with k2 | k2 <;> rw [show X.env.scope.names.lookup z = _ from k2] at k' <;> cases k'
      · rw [c1] at e'
        cases e'
        exact ⟨o, kp _ _ z1, z2⟩
  · obtain ⟨w', o, z1, z2⟩ := I.cell z c (cm e)
    exact ⟨w', o, kp _ _ z1, z2⟩
  · exact I.freeC z c (cm e)
  · rw [List.length_set]
    exact I.len
/-- the lambda is called: what it gives is what its body reads -/
theorem lam1_call {A : Around} {scope : Scope} {params : Arguments} {body : Expr} {f c' : Addr} {j : Nat} {y : Str} {pm ctv u : Value} {x : V} {tb : TE} {Q : VK} {E : Value → Shared → Prop} {k : Nat} (I : Inv X pins σ H s) (L : Lam1 X.env.scope scope y) (hfr : A.frames = some X.stack) (hr : Room k A) (hN : X.N.Nodup) (hj : X.N[j]? = some y) (rx : RelV x u)
    (hf : s.heap.get? f = some (PySem.W.kla_obj "<lambda>" (X.env.qual ++ "<lambda>") params body scope (cloFrom X.env.cells scope.names []) pm c' ctv)) (hc : H c' = some (CodeO c' (X.env.qual ++ "<lambda>")))
    (hbind : bindArgs (PySem.W.kla_fn "<lambda>" (X.env.qual ++ "<lambda>") params body scope (cloFrom X.env.cells scope.names []) pm (.ref c') ctv) ⟨[u], []⟩ = pure [(y, u)])
    (hbody : PE (lamCx X A X.stack s H (fun _ _ _ => False) scope f c') body tb) (h : tb (σ.set j (some x)) H Q) : wpAny (model X.prog X.w) A (call (.ref f) [u]) (EP X pins σ Q) E s := by
  obtain ⟨⟨oc, vs, t, hoc, hdc, hvc⟩, _, _⟩ := I.hok c' _ hc
  have rc : codeAny (model X.prog X.w) A (.call (.ref f) ⟨[u], []⟩) (CR (L2.CX X.prog X.w) X.stack X.prog X.w H s Q (fun _ _ _ => False)) s := by
    refine PySem.W.kla_callFunE hr.depth hf rfl L.co L.gen rfl ⟨c', oc, vs, t, rfl, hoc, hdc, hvc⟩ ?_
    rw [hbind]
    refine wpAny_pure (wpAny_newFunctionEnv (fun z hz => (L.own z hz).1) (fun z hz => ?_) (fun h₁ hns hsb => ⟨I.nolimit.fresh _ hsb, ?_⟩) L.kind)
    · rw [List.mem_singleton.mp hz]
      exact L.par
    · have kp : ∀ b o, s.heap.get? b = some o → h₁.get? b = some o := fun b o e => hsb.extBut b o (Nat.ne_of_lt (Heap.lt_size e)) (Heap.get?_push_of_some _ e)
      have J := lam1_start (A := A) (E := fun _ _ _ => False) (f := f) (c' := c') (tk := s.toks + ([(y, u)] : List (Str × Value)).length) I L hfr hr.hd hN hj rx hns kp
      refine PySem.W.kla_codeExpr (wpAny_mono (hbody.run [] _ _ H Q J h) (fun v s' hq => ?_) fun e s' hq => hq)
      obtain ⟨w', H', J', rv, q⟩ := hq
      exact ⟨w', H', J'.os, J'.bare, J'.base, J'.hok, rv, q⟩
  refine wpAny_call (codeAny_mono rc fun r s' hq => ?_)
  cases r with
  | error e =>
    obtain ⟨_, _, _, _, _, _, _, _, _, _, _, _, z⟩ := hq
    exact z.elim
  | ok fl =>
    cases fl with
    | ret u => exact I.after hq
    | next => exact False.elim hq
    | brk => exact False.elim hq
    | cont => exact False.elim hq
end
end Ik

namespace Ik
open PySem PySem.Spec PyProof.Rows L2 Evl LamX
/-! ### max(xs, key=f), f whatever can be called: its calls leave what G tells -/
section
variable {X : Cx} {pins : List (Addr × Obj)} {σ : L2.St} {I S l f : Addr} {xs : List V} {kf : Nat → Int} {G : Hp → Prop}
/-- f(x) is the key -/
def KeyTurn (X : Cx) (pins : List (Addr × Obj)) (σ : L2.St) (f : Addr) (xs : List V) (kf : Nat → Int) (G : Hp → Prop) : Prop :=
  ∀ (i : Nat) (x : V) (u : Value) (pl : List (Addr × Obj)) (s : Shared) (H : Hp), xs[i]? = some x → RelV x u → Inv X (pins ++ pl) σ H s → G H → wpAny (model X.prog X.w) X.A.in1 (call (.ref f) [u]) (EP X (pins ++ pl) σ fun v H' => v = .int (kf i) ∧ G H') (fun _ _ => False) s
theorem fp_of {b : Addr} {o : Obj} {H H' : Hp} {s' : Shared} {fp : List Addr} {h : Heap} (F : FpOk X pins H b) (I' : Inv X (pins ++ pinsAt fp h) σ H' s') (hb : b ∈ fp) (e : h.get? b = some o) : FpOk X pins H' b ∧ s'.heap.get? b = some o := by
  have z := I'.pin (b, o) (List.mem_append_right _ (List.mem_append_right _ (mem_pinsAt hb e)))
  exact ⟨⟨z.2.1, F.2⟩, z.1⟩
theorem mx_loop {R : Result → Shared → Prop} (hh : X.A.handled = none) (hlI : l ≠ I) (hSI : S ≠ I) (hl : ∀ H, G H → SqL X.K H l xs) (turn : KeyTurn X pins σ f xs kf G)
    (hR : ∀ i x v s' H, xs[i]? = some x → RelV x v → (∀ j, j < xs.length → kf j ≤ kf i ∧ (j < i → kf j < kf i)) → Inv X pins σ H s' → G H → R (.ok (.ret v)) s') :
    ∀ (r j i : Nat) (s : Shared) (H : Hp) (x : V) (vb : Value) (tb : Tok) (c : Nat), xs.length - (j + 1) = r → j + 1 ≤ xs.length → Inv X pins σ H s → G H → FpOk X pins H S → FpOk X pins H I → s.heap.get? S = some (seqObj "list" #[vb, .int (kf i) tb] c) →
      s.heap.IsListIter I l (j + 1) → xs[i]? = some x → RelV x vb → i ≤ j → (∀ j', j' ≤ j → kf j' ≤ kf i ∧ (j' < i → kf j' < kf i)) → codeAny (model X.prog X.w) X.A (.builtin "max.loop" ⟨[.ref I, .ref f, .ref S], []⟩) R s := by
  have hname : (toString "max" ++ toString ".loop" : String) = "max.loop" := by decide
  intro r
  induction r with
  | zero =>
    intro j i s H x vb tb c hr hj I0 g fS fI eS hit hx rx hij hb
    obtain ⟨its, rv, pl, hz⟩ := I0.list (hl H g)
    have W := Walks.list (prog := X.prog) (w := X.w) (A := X.A.in1) hh I l hlI its.toArray
    have hsz : its.toArray.size = xs.length := by rw [List.size_toArray, ← rv.length]
    have hin : j + 1 = xs.length := by omega
    refine codeAny_builtin PySem.F.entry_max_loop ?_
    rw [Around.under_plainId PySem.F.plain_max_loop _]
    show wpAny _ X.A.in1 (seqItems? (.ref S) >>= _) _ _ _
    refine wpAny_bind (wpAny_seqItems eS rfl ?_)
    show wpAny _ X.A.in1 (tryCatch (pyNext (.ref I)) _ >>= _) _ _ _
    refine wpAny_bind (wpAny_tryCatch (W.done _ _ _ ⟨by rw [hsz, ← hin]; exact hit, pl.isList⟩ fun h' tk' hk' => ?_))
    have eS' := hk' S _ (by simpa using hSI) eS
    show wpAny _ X.A.in1 (updateSeq S (fun _ => #[]) >>= _) _ _ _
    refine wpAny_bind (wpAny_updateSeq eS' rfl (wpAny_bind (wpAny_letGo (wpAny_pure ?_))))
    have I1 := I0.turnedL (h' := h') (t' := tk') (ch := [I]) hk' fun b hbm => by
      rw [List.mem_singleton.mp hbm]
      exact fI
    refine hR i x vb _ H hx rx (fun j' hj' => hb j' (by omega)) (I1.turnedL (t' := tk') (ch := [S]) (fun b o hbn e => ?_) fun b hbm => ?_) g
    · exact ((Heap.SameBut.update h' S (Obj.mapSeq fun _ => (#[] : Array Value))).2 b fun z => hbn (by simp [z])).trans e
    · rw [List.mem_singleton.mp hbm]
      exact fS
  | succ r ih =>
    intro j i s H x vb tb c hr hj I0 g fS fI eS hit hx rx hij hb
    obtain ⟨its, rv, pl, hz⟩ := I0.list (hl H g)
    have W := Walks.list (prog := X.prog) (w := X.w) (A := X.A.in1) hh I l hlI its.toArray
    have hsz : its.toArray.size = xs.length := by rw [List.size_toArray, ← rv.length]
    have hlt : j + 1 < xs.length := by omega
    obtain ⟨x', hx'⟩ : ∃ x', xs[j + 1]? = some x' := ⟨_, List.getElem?_eq_getElem hlt⟩
    obtain ⟨u, hu, ru⟩ := rv.get hx'
    refine codeAny_builtin PySem.F.entry_max_loop ?_
    rw [Around.under_plainId PySem.F.plain_max_loop _]
    show wpAny _ X.A.in1 (seqItems? (.ref S) >>= _) _ _ _
    refine wpAny_bind (wpAny_seqItems eS rfl ?_)
    show wpAny _ X.A.in1 (tryCatch (pyNext (.ref I)) _ >>= _) _ _ _
    refine wpAny_bind (wpAny_tryCatch (W.item (j + 1) _ _ _ (by rw [hsz]; exact hlt) ⟨hit, pl.isList⟩ fun v h' tk' hP hst' hk' => ?_))
    have hv : v = u := by
      have a : its[j + 1]? = some v := by simpa using hP
      rw [hu] at a
      exact (Option.some.inj a).symm
    subst hv
    have eS' := hk' S _ (by simpa using hSI) eS
    obtain ⟨oI', hoI', hoc, hod⟩ := id hst'.1
    have I1 : Inv X pins σ H { s with heap := h', toks := tk' } := I0.turnedL (t' := tk') (ch := [I]) hk' fun b hbm => by
      rw [List.mem_singleton.mp hbm]
      exact fI
    have fps : ∀ b ∈ [S, I], FpOk X pins H b := fun b hbm => by
      rcases List.mem_cons.mp hbm with rfl | hbm
      · exact fS
      · rw [List.mem_singleton.mp hbm]
        exact fI
    have I1p := I1.pinned (fp := [S, I]) fps fun b hbm => by
      rcases List.mem_cons.mp hbm with rfl | hbm
      · exact ⟨_, eS', fun v q => nomatch q⟩
      · rw [List.mem_singleton.mp hbm]
        exact ⟨_, hoI', fun v q => by rw [hod] at q; cases q⟩
    show wpAny _ X.A.in1 (tryCatch (holding [v] (call (.ref f) [v])) _ >>= _) _ _ _
    refine wpAny_bind (wpAny_tryCatch (wpAny_holding (wpAny_mono (turn (j + 1) x' v _ _ H hx' ru I1p g) (fun k s2 he => ?_) fun _ _ hF => hF.elim)))
    obtain ⟨y, H2, I2, ry, ey, g2⟩ := he
    subst ey
    obtain ⟨t2, rfl⟩ := ry
    obtain ⟨fS2, eS2⟩ := fp_of fS I2 (by simp) eS'
    obtain ⟨fI2, eI2⟩ := fp_of fI I2 (by simp) hoI'
    have I3 := I2.unpinned
    have hit2 : s2.heap.IsListIter I l (j + 1 + 1) := ⟨oI', eI2, hoc, hod⟩
    show wpAny _ X.A.in1 (tryCatch (holding [v, .int (kf (j + 1)) t2] (richCompare .Gt (.int (kf (j + 1)) t2) (.int (kf i) tb) >>= _)) _ >>= _) _ _ _
    refine wpAny_bind (wpAny_tryCatch (wpAny_holding (wpAny_bind (CmpOf.ints_gt (prog := X.prog) (w := X.w) (A := X.A.in1) (P := fun i v => ∃ t, v = .int (kf i) t) kf (fun i v h => h) (j + 1) i _ _ _ _ _ ⟨t2, rfl⟩ ⟨tb, rfl⟩ ?_))))
    refine wpAny_bind (wpAny_holding (wpAny_truthy_bool ?_))
    refine wpAny_bind (wpAny_letGo (wpAny_pure ?_))
    by_cases hb' : kf (j + 1) > kf i
    · have sb := Heap.SameBut.update s2.heap S (Obj.mapSeq fun _ => #[v, .int (kf (j + 1)) t2])
      obtain ⟨c2, hc2⟩ : ∃ c2, (s2.heap.update S (Obj.mapSeq fun _ => #[v, .int (kf (j + 1)) t2])).get? S = some (seqObj "list" #[v, .int (kf (j + 1)) t2] c2) := ⟨_, get?_update_seq eS2 fun _ => #[v, .int (kf (j + 1)) t2]⟩
      simp only [hb', decide_true, if_true]
      refine wpAny_bind (wpAny_updateSeq eS2 rfl (wpAny_bind (wpAny_letGo ?_)))
      rw [hname]
      refine wpAny_pure ⟨plainId_quiet PySem.F.plain_max_loop _, ih (j + 1) (j + 1) _ H2 x' v t2 c2 (by omega) hlt (I3.turnedL (t' := s2.toks) (ch := [S]) (fun b o hbn e => ?_) fun b hbm => ?_) g2 fS2 fI2 hc2 ⟨oI', (sb.2 I hSI.symm).trans eI2, hoc, hod⟩ hx' ru (Nat.le_refl _) fun j' hj' => ?_⟩
      · exact (sb.2 b fun z => hbn (by simp [z])).trans e
      · rw [List.mem_singleton.mp hbm]
        exact fS2
      · by_cases e : j' = j + 1
        · subst e
          exact ⟨Int.le_refl _, fun z => absurd z (Nat.lt_irrefl _)⟩
        · have q := (hb j' (by omega)).1
          exact ⟨by omega, fun _ => by omega⟩
    · simp only [hb', decide_false, Bool.false_eq_true, if_false]
      refine wpAny_bind (wpAny_letGo ?_)
      rw [hname]
      refine wpAny_pure ⟨plainId_quiet PySem.F.plain_max_loop _, ih (j + 1) i _ H2 x vb tb c (by omega) hlt I3 g2 fS2 fI2 eS2 hit2 hx rx (by omega) fun j' hj' => ?_⟩
      by_cases e : j' = j + 1
      · subst e
        exact ⟨by omega, fun _ => by omega⟩
      · exact hb j' (by omega)
theorem mx_call {s : Shared} {H : Hp} {Q : Value → Shared → Prop} {E : Value → Shared → Prop} (hh : X.A.handled = none) (I0 : Inv X pins σ H s) (g : G H) (hl : ∀ H, G H → SqL X.K H l xs) (hne : 0 < xs.length) (turn : KeyTurn X pins σ f xs kf G)
    (hQ : ∀ i x v s' H, xs[i]? = some x → RelV x v → (∀ j, j < xs.length → kf j ≤ kf i ∧ (j < i → kf j < kf i)) → Inv X pins σ H s' → G H → Q v s') :
    wpAny (model X.prog X.w) X.A (call (.builtin "max") [.ref l] [(Str.ofString "key", .ref f)]) Q E s := by
  have hname : (toString "max" ++ toString ".loop" : String) = "max.loop" := by decide
  obtain ⟨its, rv, pl, hz⟩ := I0.list (hl H g)
  have hll : l < s.heap.objs.size := pl.lt
  refine kmk_tree PySem.F.kind_max PySem.F.plain_max PySem.F.entry_max (kmk_max_key _ _) ?_
  show wpAny _ X.A.in1 (Builtin.Builtins.bindParams "max" ["key", "default"] 0 ⟨[], [(Str.ofString "key", .ref f)]⟩ >>= _) _ _ s
  refine wpAny_bind (wpAny_of_eq (show Builtin.Builtins.bindParams "max" ["key", "default"] 0 ⟨[], [(Str.ofString "key", .ref f)]⟩ = pure [some (.ref f), none] from rfl) ?_)
  refine wpAny_bind (wpAny_pure ?_)
  refine wpAny_bind (wpAny_pyIter_list pl.isList ?_)
  refine wpAny_bind (wpAny_newList ?_ (Nat.zero_le _))
  rw [hname]
  generalize hh1 : s.heap.push { cls := .type "list_iterator", data := .fields #[.ref l, .int 0 0] } = h1
  have hS : h1.objs.size = s.heap.objs.size + 1 := by rw [← hh1]; exact size_push' ..
  have hlI : l ≠ s.heap.objs.size := Nat.ne_of_lt hll
  have hSI : h1.objs.size ≠ s.heap.objs.size := by rw [hS]; exact Nat.ne_of_gt (Nat.lt_succ_self _)
  have k1 : ∀ b o, s.heap.get? b = some o → h1.get? b = some o := fun b o e => by rw [← hh1]; exact Heap.get?_push_of_some _ e
  have kk : ∀ b o, s.heap.get? b = some o → (h1.push (seqObj "list" #[] 0)).get? b = some o := fun b o e => Heap.get?_push_of_some _ (k1 b o e)
  have gI : (h1.push (seqObj "list" #[] 0)).get? s.heap.objs.size = some { cls := .type "list_iterator", data := .fields #[.ref l, .int 0 0] } := Heap.get?_push_of_some _ (by rw [← hh1]; exact Heap.get?_push_size _ rfl)
  have gS : (h1.push (seqObj "list" #[] 0)).get? h1.objs.size = some (seqObj "list" #[] 0) := Heap.get?_push_size _ rfl
  have nI : H s.heap.objs.size = none := I0.hok.fresh (Nat.le_refl _)
  have nS : H h1.objs.size = none := I0.hok.fresh (by rw [hS]; exact Nat.le_succ _)
  have fI : FpOk X pins H s.heap.objs.size := I0.fpOk (Nat.le_refl _) nI
  have fS : FpOk X pins H h1.objs.size := I0.fpOk (by rw [hS]; exact Nat.le_succ _) nS
  have J : Inv X pins σ H { s with heap := h1.push (seqObj "list" #[] 0) } := I0.kept (t' := s.toks) kk
  refine wpAny_pure ⟨plainId_quiet PySem.F.plain_max_loop _, ?_⟩
  obtain ⟨x', hx'⟩ : ∃ x', xs[0]? = some x' := ⟨_, List.getElem?_eq_getElem hne⟩
  obtain ⟨its2, rv2, pl2, hz2⟩ := J.list (hl H g)
  obtain ⟨u, hu, ru⟩ := rv2.get hx'
  have W := Walks.list (prog := X.prog) (w := X.w) (A := X.A.in1) hh s.heap.objs.size l hlI its2.toArray
  have hsz : its2.toArray.size = xs.length := by rw [List.size_toArray, ← rv2.length]
  refine codeAny_builtin PySem.F.entry_max_loop ?_
  rw [Around.under_plainId PySem.F.plain_max_loop _]
  show wpAny _ X.A.in1 (seqItems? (.ref _) >>= _) _ _ _
  refine wpAny_bind (wpAny_seqItems gS rfl ?_)
  show wpAny _ X.A.in1 (tryCatch (pyNext (.ref s.heap.objs.size)) _ >>= _) _ _ _
  refine wpAny_bind (wpAny_tryCatch (W.item 0 _ _ _ (by rw [hsz]; exact hne) ⟨⟨_, gI, rfl, rfl⟩, pl2.isList⟩ fun v h' tk' hP hst' hk' => ?_))
  have hv : v = u := by
    have a : its2[0]? = some v := by simpa using hP
    rw [hu] at a
    exact (Option.some.inj a).symm
  subst hv
  have eS' := hk' _ _ (by simpa using hSI) gS
  obtain ⟨oI', hoI', hoc, hod⟩ := id hst'.1
  have I1 := J.turnedL (h' := h') (t' := tk') (ch := [s.heap.objs.size]) hk' fun b hbm => by
    rw [List.mem_singleton.mp hbm]
    exact fI
  have I1p := I1.pinned (fp := [h1.objs.size, s.heap.objs.size]) (fun b hbm => by
    rcases List.mem_cons.mp hbm with rfl | hbm
    · exact fS
    · rw [List.mem_singleton.mp hbm]
      exact fI) fun b hbm => by
    rcases List.mem_cons.mp hbm with rfl | hbm
    · exact ⟨_, eS', fun v q => nomatch q⟩
    · rw [List.mem_singleton.mp hbm]
      exact ⟨_, hoI', fun v q => by rw [hod] at q; cases q⟩
  show wpAny _ X.A.in1 (tryCatch (holding [v] (call (.ref f) [v])) _ >>= _) _ _ _
  refine wpAny_bind (wpAny_tryCatch (wpAny_holding (wpAny_mono (turn 0 x' v _ _ H hx' ru I1p g) (fun k s2 he => ?_) fun _ _ hF => hF.elim)))
  obtain ⟨y, H2, I2, ry, ey, g2⟩ := he
  subst ey
  obtain ⟨t2, rfl⟩ := ry
  obtain ⟨fS2, eS2⟩ := fp_of fS I2 (by simp) eS'
  obtain ⟨fI2, eI2⟩ := fp_of fI I2 (by simp) hoI'
  have sb := Heap.SameBut.update s2.heap h1.objs.size (Obj.mapSeq fun _ => #[v, .int (kf 0) t2])
  obtain ⟨c2, hc2⟩ : ∃ c2, (s2.heap.update h1.objs.size (Obj.mapSeq fun _ => #[v, .int (kf 0) t2])).get? h1.objs.size = some (seqObj "list" #[v, .int (kf 0) t2] c2) := ⟨_, get?_update_seq eS2 fun _ => #[v, .int (kf 0) t2]⟩
  show wpAny _ X.A.in1 (updateSeq h1.objs.size (fun _ => #[v, .int (kf 0) t2]) >>= _) _ _ _
  refine wpAny_bind (wpAny_updateSeq eS2 rfl ?_)
  rw [hname]
  refine wpAny_pure ⟨plainId_quiet PySem.F.plain_max_loop _, mx_loop hh hlI hSI hl turn (fun i x v s' H a1 a2 a3 a4 a5 => hQ i x v s' H a1 a2 a3 a4 a5) _ 0 0 _ H2 x' v t2 c2 rfl hne (I2.unpinned.turnedL (t' := s2.toks) (ch := [h1.objs.size]) (fun b o hbn e => ?_) fun b hbm => ?_) g2 fS2 fI2 hc2 ⟨oI', (sb.2 _ hSI.symm).trans eI2, hoc, hod⟩ hx' ru (Nat.le_refl _) fun j' hj' => ?_⟩
  · exact (sb.2 b fun z => hbn (by simp [z])).trans e
  · rw [List.mem_singleton.mp hbm]
    exact fS2
  · obtain rfl : j' = 0 := by omega
    exact ⟨Int.le_refl _, fun z => absurd z (Nat.lt_irrefl _)⟩
end
end Ik

namespace Ik
open PySem PySem.Spec PyProof.Rows L2 Evl LamX
/-! ### sorted(xs, key=..), the key read off a dict -/
section
variable {prog : Program} {w : World} {A : Around} {E : Value → Shared → Prop} {s : Shared} {q : Str} {params : Arguments} {scope sc : Scope} {cl : List (Str × Addr)} {pm ctv : Value} {f c' cc d : Addr} {y dn : Str} {p1 p2 p3 p4 p5 p6 : Pos} {kk : Nat} {vs : List (Key × Value)} {n r : Int} {tn tr : Tok}
theorem noSl_name {x : Str} {p : Pos} : NoSl (.Name x p) := fun _ _ => rfl
/-- d[n], within the lambda -/
theorem keyD_eval {env : Env} {Q : Value → Shared → Prop} {m : Str → Option Value} (hk : env.scope.kind = .function) (hl : env.kindOf y = some .local) (hns : s.heap.Ns env.locals m) (hy : m y = some (.int n tn)) (hdn : env.kindOf dn = some .free) (hcl : env.cells.lookup dn = some cc) (hcell : s.heap.IsCell cc (some (.ref d)))
    (hD : s.heap.DictOf (mixKind prog w) d vs) (hv : valueAt vs (Sum.inl n) = some (.int r tr)) (h : ∀ tk, Q (.int r tr) { s with toks := tk }) (h1 : (dn == ("__debug__" : Str)) = false) (h2 : (y == ("__debug__" : Str)) = false) (h3 : (dn == ("__classdict__" : Str)) = false) :
    wpAny (model prog w) A (eval (.Subscript (.Name dn p1) (.Name y p2) p3) env) Q E s := by
  refine subD_of PySem.F.slot_dict_getitem.lookup noSl_name (wpAny_Name (wpAny_loadName_free hk hdn hcl hcell ?_ h3) h1)
  refine wpAny_Name (wpAny_loadName_local hk hl hns hy ⟨hD.mapOf.typeIs, ?_⟩) h2
  exact wpAny_getItem_of (kV_is (k := Sum.inl n) ⟨tn, rfl⟩) hD.mapOf hv (h _)
theorem keyD_pure (L : Lam1 sc scope y) (hroom : A.depth < recursionLimit) (hlim : s.heap.NoLimit) (hf : s.heap.get? f = some (PySem.W.kla_obj "<lambda>" q params (.Subscript (.Name dn p1) (.Name y p2) p3) scope cl pm c' ctv)) (hcd : s.heap.CodeRec (.ref c') q)
    (hbind : bindArgs (PySem.W.kla_fn "<lambda>" q params (.Subscript (.Name dn p1) (.Name y p2) p3) scope cl pm (.ref c') ctv) ⟨[.int n tn], []⟩ = pure [(y, .int n tn)]) (hdn : scope.names.lookup dn = some .free) (hcl : cl.lookup dn = some cc) (hcell : s.heap.IsCell cc (some (.ref d)))
    (hD : s.heap.DictOf (mixKind prog w) d vs) (hv : valueAt vs (Sum.inl n) = some (.int r tr)) (h1 : (dn == ("__debug__" : Str)) = false := by decide) (h2 : (y == ("__debug__" : Str)) = false := by decide) (h3 : (dn == ("__classdict__" : Str)) = false := by decide) :
    wpAny (model prog w) A (call (.ref f) [.int n tn]) (PySem.W.KeyPure (.int r) s) E s := by
  refine wpAny_call (PySem.W.kla_callFunE hroom hf rfl L.co L.gen rfl hcd ?_)
  rw [hbind]
  refine wpAny_pure (wpAny_newFunctionEnv (fun z hz => (L.own z hz).1) (fun z hz => ?_) (fun h₁ hns hsb => ⟨hlim.fresh _ hsb, ?_⟩) L.kind)
  · rw [List.mem_singleton.mp hz]
    exact L.par
  · have kp : ∀ b o, s.heap.get? b = some o → h₁.get? b = some o := fun b o e => hsb.extBut b o (Nat.ne_of_lt (Heap.lt_size e)) (Heap.get?_push_of_some _ e)
    obtain ⟨oc, z1, z2⟩ := hcell
    obtain ⟨od, es, ep, z3, z4⟩ := hD
    refine PySem.W.kla_codeExpr (keyD_eval (cc := cc) (d := d) (vs := vs) (n := n) (r := r) (tn := tn) (tr := tr) L.kind L.par hns (by simp) hdn hcl ⟨oc, kp _ _ z1, z2⟩ ⟨od, es, ep, kp _ _ z3, z4⟩ hv (fun tk => ?_) h1 h2 h3)
    exact ⟨h₁, tk, rfl, kp, .int r tr⟩
/-- (-d[n], n) -/
theorem keyT_pure (L : Lam1 sc scope y) (hroom : A.depth < recursionLimit) (hlim : s.heap.NoLimit) (hf : s.heap.get? f = some (PySem.W.kla_obj "<lambda>" q params (.Tuple [.UnaryOp .USub (.Subscript (.Name dn p1) (.Name y p2) p3) p4, .Name y p5] kk p6) scope cl pm c' ctv)) (hcd : s.heap.CodeRec (.ref c') q)
    (hbind : bindArgs (PySem.W.kla_fn "<lambda>" q params (.Tuple [.UnaryOp .USub (.Subscript (.Name dn p1) (.Name y p2) p3) p4, .Name y p5] kk p6) scope cl pm (.ref c') ctv) ⟨[.int n tn], []⟩ = pure [(y, .int n tn)]) (hdn : scope.names.lookup dn = some .free) (hcl : cl.lookup dn = some cc) (hcell : s.heap.IsCell cc (some (.ref d)))
    (hD : s.heap.DictOf (mixKind prog w) d vs) (hv : valueAt vs (Sum.inl n) = some (.int r tr)) (h1 : (dn == ("__debug__" : Str)) = false := by decide) (h2 : (y == ("__debug__" : Str)) = false := by decide) (h3 : (dn == ("__classdict__" : Str)) = false := by decide) :
    wpAny (model prog w) A (call (.ref f) [.int n tn]) (PySem.W.KeyPure (.tuple [.int (-r), .int n]) s) E s := by
  refine wpAny_call (PySem.W.kla_callFunE hroom hf rfl L.co L.gen rfl hcd ?_)
  rw [hbind]
  refine wpAny_pure (wpAny_newFunctionEnv (fun z hz => (L.own z hz).1) (fun z hz => ?_) (fun h₁ hns hsb => ⟨hlim.fresh _ hsb, ?_⟩) L.kind)
  · rw [List.mem_singleton.mp hz]
    exact L.par
  · have kp : ∀ b o, s.heap.get? b = some o → h₁.get? b = some o := fun b o e => hsb.extBut b o (Nat.ne_of_lt (Heap.lt_size e)) (Heap.get?_push_of_some _ e)
    obtain ⟨oc, z1, z2⟩ := hcell
    obtain ⟨od, es, ep, z3, z4⟩ := hD
    refine PySem.W.kla_codeExpr (wpAny_Tuple_spliced ?_)
    refine Calls.spliced_cons (UnaryOp_ (keyD_eval (cc := cc) (d := d) (vs := vs) (n := n) (r := r) (tn := tn) (tr := tr) L.kind L.par hns (by simp) hdn hcl ⟨oc, kp _ _ z1, z2⟩ ⟨od, es, ep, kp _ _ z3, z4⟩ hv (fun tk => neg_int ?_) h1 h2 h3))
    refine Calls.spliced_cons (wpAny_Name (wpAny_loadName_local (v := .int n tn) (m := fun z => ([(y, Value.int n tn)] : List (Str × Value)).reverse.lookup z) L.kind L.par hns (by simp) ?_) h2)
    refine Calls.spliced_nil ⟨by show 2 ≤ sizeLine; decide, ?_⟩
    refine ⟨_, _, rfl, fun b o e => Heap.get?_push_of_some _ (kp b o e), ?_⟩
    exact .tuple (as := []) (Heap.get?_push_size _ rfl) rfl rfl (.cons (as := []) (bs := []) (.int _ _) (.cons (as := []) (bs := []) (.int _ _) .nil))
end
theorem each_ints : ∀ {ns : List Int} {us : List Value}, Vals (ns.map V.int) us → PySem.W.EachIs (fun v n => ∃ t, v = Value.int n t) us ns
  | [], _, .nil => .nil
  | n :: ns, _, .cons r t => by
    obtain ⟨k, rfl⟩ := r
    exact .cons ⟨k, rfl⟩ (each_ints t)
theorem vals_each : ∀ {ns : List Int} {us : List Value}, PySem.W.EachIs (fun v n => ∃ t, v = Value.int n t) us ns → Vals (ns.map V.int) us
  | _, _, .nil => .nil
  | _, _, .cons r t => .cons r (vals_each t)
end Ik

namespace Ik
def leDn (g : Int → Int) (a b : Int) : Bool := decide (g b ≤ g a)
def leUp (g : Int → Int) (a b : Int) : Bool := decide (-g a < -g b ∨ (-g a = -g b ∧ a ≤ b))
end Ik

namespace Ik
open PySem PySem.Spec PyProof.Rows L2 Evl LamX
section
variable {X : Cx} {pins : List (Addr × Obj)} {σ : L2.St} {H : Hp} {s : Shared} {T : List (Addr × Str)} {c P : Addr} {params : Arguments} {body : Expr} {scope : Scope} {pos lpos kp p : Pos} {y : Str}
/-- what the making of a lambda here asks -/
structure LamHere (X : Cx) (T : List (Addr × Str)) (c P : Addr) : Prop where
  tb : TabB X.base X.mg c P
  code : X.env.code = .ref c
  mem : (P, X.env.qual ++ "<lambda>") ∈ T
  uni : ∀ p ∈ T, p.1 = P → p.2 = X.env.qual ++ "<lambda>"
  stk : X.stack = X.env :: X.outer
  frm : X.env.frame = some X.env.locals
theorem lam_made {E : Value → Shared → Prop} {Q : Value → Shared → Prop} (I : Inv X pins σ H s) (L : Lam1 X.env.scope scope y) (M : LamHere X T c P) (hT : Tabs T H) (hdef : defaultsOf params X.env = ([], []))
    (h : ∀ (f c' : Addr) (pm ctv : Value) (H1 : Hp) (s' : Shared), Inv X (pins ++ [(f, PySem.W.kla_obj "<lambda>" (X.env.qual ++ "<lambda>") params body scope (cloFrom X.env.cells scope.names []) pm c' ctv)]) σ H1 s' → ExtN H H1 → Tabs T H1 → H1 c' = some (CodeO c' (X.env.qual ++ "<lambda>")) → Q (.ref f) s') :
    wpAny (model X.prog X.w) X.A (eval (.Lambda params body scope pos) X.env) Q E s := by
  refine lam_make2 I M.tb M.code M.mem M.uni hT hdef (lam_cells (sc := X.env.scope) L I.ok) fun f c' pm ctv H1 s' I1 eN T1 hf hfn hfr hco => h f c' pm ctv H1 s' (I1.pins_of fun q hq => ?_) eN T1 hco
  rcases List.mem_append.mp hq with hq | hq
  · exact I1.pin q (List.mem_append_right _ hq)
  · rw [List.mem_singleton.mp hq]
    rw [M.stk] at hfr
    refine ⟨hf, hfn, fun z => hfr (List.mem_filterMap.mpr ⟨X.env, List.mem_cons_self, by rw [M.frm]; exact congrArg some z.symm⟩), fun z => ?_, fun v z => nomatch z⟩
    obtain ⟨e, he, q⟩ := List.mem_filterMap.mp z
    exact hfr (List.mem_filterMap.mpr ⟨e, List.mem_cons_of_mem _ he, q⟩)
/-- a captured name that is a dict: the lambda's cell of it -/
theorem cap_cell {dn : Str} {i : Nat} {d : Addr} (I : Inv X pins σ H s) (L : Lam1 X.env.scope scope y) (hdn : scope.names.lookup dn = some .free) (hi : X.N[i]? = some dn) (hσ : σ[i]? = some (some (.ref d))) :
    ∃ cc, (cloFrom X.env.cells scope.names []).lookup dn = some cc ∧ s.heap.IsCell cc (some (.ref d)) := by
  have hmem := PySem.mem_of_lookup hdn
  have hvis : Vis X.env.scope dn := (L.free _ hmem rfl).2.elim (fun k => .inr (.inl k)) (fun k => .inr (.inr k))
  obtain ⟨m, hn, hl⟩ := I.loc
  obtain ⟨u, r, q⟩ := hl i dn _ hi hσ hvis
  obtain rfl : u = Value.ref d := r
  obtain ⟨cc, hcc⟩ : ∃ c, (cloFrom X.env.cells scope.names []).lookup dn = some c := mem_lookup (cloFrom_has (cells := X.env.cells) (acc := []) hmem)
  have c1 : X.env.cells.lookup dn = some cc := by
    rcases cloFrom_mem (PySem.mem_of_lookup hcc) with hm | ⟨h1, h2⟩
    · cases hm
    · obtain ⟨c1, hc⟩ := lam_cells (sc := X.env.scope) L I.ok _ h1 rfl
      have hc : X.env.cells.lookup dn = some c1 := hc
      have e2 : cc = c1 := by
        rw [h2, hc] <;> rfl
      rw [e2]
      exact hc
  rcases q with ⟨k', _⟩ | ⟨_, c3, e', z⟩
  · have k' : X.env.scope.names.lookup dn = some .local := k'
    rcases (L.free _ hmem rfl).2 with k2 | k2 <;> rw [show X.env.scope.names.lookup dn = _ from k2] at k' <;> cases k'
  · rw [c1] at e'
    cases e'
    exact ⟨cc, hcc, z⟩
end
/-! ### max(xs, key=lambda y: ..) -/
def tMaxK (K : PySem.W.Frag) (T : List (Addr × Str)) (t : TA) (tb : TE) (j : Nat) : TE := fun σ H Q => t σ H fun vs H1 => Tabs T H1 ∧ ∃ (l : Addr) (xs : List V) (kf : Nat → Int) (G : Hp → Prop), vs = [.ref l] ∧ 0 < xs.length ∧ (∀ H2, ExtN H1 H2 → Tabs T H2 → G H2) ∧ (∀ H, G H → SqL K H l xs) ∧
  (∀ (i : Nat) (x : V) (H : Hp), xs[i]? = some x → G H → tb (σ.set j (some x)) H fun v H' => v = .int (kf i) ∧ ExtN H H' ∧ G H') ∧
  ∀ (i : Nat) (x : V) (H : Hp), xs[i]? = some x → (∀ n, n < xs.length → kf n ≤ kf i ∧ (n < i → kf n < kf i)) → G H → Q x H
section
variable {X : Cx} {T : List (Addr × Str)} {c P : Addr} {params : Arguments} {body : Expr} {scope : Scope} {pos lpos kp p : Pos} {y : Str}
theorem pe_maxK {e : Expr} {t : TA} {tb : TE} {j k : Nat} (M : LamHere X T c P) (L : Lam1 X.env.scope scope y) (hr : Room (k + 2) X.A) (hN : X.N.Nodup) (hj : X.N[j]? = some y) (hg : Gl X "max") (hm : X.mg "max" = none) (hv : bootBuiltins "max" = some (.builtin "max")) (ha : PA X [e] t)
    (hbody : ∀ (A : Around) (s : Shared) (H : Hp) (f c' : Addr), Room k (lamCx X A X.stack s H (fun _ _ _ => False) scope f c').A → PE (lamCx X A X.stack s H (fun _ _ _ => False) scope f c') body tb) (hdef : defaultsOf params X.env = ([], []) := by rfl)
    (hbind : ∀ (q : Str) (cl : List (Str × Addr)) (pm cv ctv u : Value), bindArgs (PySem.W.kla_fn "<lambda>" q params body scope cl pm cv ctv) ⟨[u], []⟩ = pure [(y, u)] := by intro _ _ _ _ _ _; rfl)
    (he : backTo pos (starEach [e] X.env) = (false, eval e X.env) :: backTo pos (starEach [] X.env) := by rfl) (hpl : (backTo pos (starEach [e] X.env)).any (·.1) = false := by rfl) :
    PE X (.Call (.Name "max" p) [e] [⟨some "key", .Lambda params body scope lpos, kp⟩] pos) (tMaxK X.K T t tb j) := by
  refine ⟨fun pins s σ H Q I h => ?_⟩
  refine wpAny_Call_Name_kw (ld_blt I hg hm hv ?_ (by decide) (by decide))
  refine PyProof.Rows.callWith_kw (thn (ha.run pos pins s σ H _ I h) fun us s1 ⟨vs, H1, I1, r1, hT, l, xs, kf, G, ev, hne, g0, gl, turn, fin⟩ => ?_) he hpl rfl rfl
  subst ev
  obtain rfl := Vals.ref1 r1
  show wpAny _ _ (evalAll ((do let v ← eval (.Lambda params body scope lpos) X.env; standAt pos; pure v) :: [])) _ _ s1
  refine wpAny_evalAll_cons (wpAny_bind (lam_made I1 L M hT hdef fun f c' pm ctv H2 s2 I2 eN T2 hco => wpAny_bind (wpAny_standAt (wpAny_pure (wpAny_evalAll_nil ?_)))))
  show wpAny _ _ (call (.builtin "max") [.ref l] [(Str.ofString "key", .ref f)]) _ _ s2
  refine mx_call (G := fun H => G H ∧ H c' = some (CodeO c' (X.env.qual ++ "<lambda>"))) (xs := xs) (kf := kf) hr.hd I2 ⟨g0 _ eN T2, hco⟩ (fun H z => gl H z.1) hne (fun i x u pl s3 H3 hx rx I3 g => ?_) fun i x v s' H' hx rx hb I' g => ?_
  · have hf := (I3.pin (f, _) (List.mem_append_right _ (List.mem_append_left _ (List.mem_append_right _ (List.mem_singleton.mpr rfl))))).1
    refine wpAny_mono (lam1_call (A := X.A.in1) (k := k + 1) (j := j) (tb := tb) (Q := fun v H' => v = .int (kf i) ∧ ExtN H3 H' ∧ G H') (E := fun _ _ => False) I3 L I3.ok.frames (Room.in1 hr) hN hj rx hf g.2 (hbind _ _ _ _ _ _) (hbody _ _ _ _ _ (Room.deeper (Room.in1 hr) _)) (turn i x H3 hx g.1)) (fun v s' hq => ?_) fun _ _ z => z
    obtain ⟨w', H', J', rv, q1, q2, q3⟩ := hq
    exact ⟨w', H', J', rv, q1, q3, q2 _ _ g.2 codeO_ne⟩
  · exact ⟨x, H', I'.unpinned, rx, fin i x H' hx hb g.1⟩
/-! ### sorted(xs, key=lambda y: d[y], reverse=True); sorted(xs, key=lambda y: (-d[y], y)) -/
def tSortK (K : PySem.W.Frag) (T : List (Addr × Str)) (t : TA) (i : Nat) (le : (Int → Int) → Int → Int → Bool) : TE := fun σ H Q => t σ H fun vs H1 => Tabs T H1 ∧ ∃ (l d : Addr) (ns : List Int) (kvs : List (Key × V)) (g : Int → Int), vs = [.ref l] ∧ SqL K H1 l (ns.map V.int) ∧ ns.length ≤ 1000 ∧
  σ[i]? = some (some (.ref d)) ∧ H1 d = some (.dK kvs) ∧ (∀ n ∈ ns, valV kvs (Sum.inl n) = some (.int (g n))) ∧ ∀ H2, ExtN H1 H2 → Tabs T H2 → ∀ p, H2 p = none → Q (.ref p) (upd H2 p (.lst ((ns.mergeSort (le g)).map V.int)))
theorem xn_at {H H' : Hp} (e : ExtN H H') {a : Addr} {o : HO} (h : H a = some o) (n : ∀ ps, o ≠ .tbl ps) : H' a = some o := e a o h n
theorem xn_l {K : PySem.W.Frag} {H H' : Hp} {a : Addr} {xs : List V} (e : ExtN H H') (h : SqL K H a xs) : SqL K H' a xs := by
  rcases h with (h | ⟨o, h⟩) | h
  · exact .inl (.inl (e _ _ h fun _ z => nomatch z))
  · exact .inl (.inr ⟨o, e _ _ h fun _ z => nomatch z⟩)
  · exact .inr h
theorem val_at {kvs : List (Key × V)} {vs : List (Key × Value)} {n r : Int} (h : KV kvs vs) (hv : valV kvs (Sum.inl n) = some (.int r)) : ∃ t, valueAt vs (Sum.inl n) = some (.int r t) := by
  obtain ⟨w', hw, t, rfl⟩ := RelO.some_of (v := .int r) (o := valueAt vs (Sum.inl n)) (by have z := h.val (Sum.inl n); rw [hv] at z; exact z)
  exact ⟨t, hw⟩
/-- the rest, behind the lambda's making -/
theorem sortK_run {pins : List (Addr × Obj)} {σ : L2.St} {H2 : Hp} {s2 : Shared} {Q : VK} {k i : Nat} {l d f c' : Addr} {pm ctv : Value} {ns : List Int} {kvs : List (Key × V)} {g : Int → Int} {b : Bool} {kw : List (Str × Value)} {dn : Str} {kd : Int → PyData} {le : Int → Int → Bool}
    (I2 : Inv X (pins ++ [(f, PySem.W.kla_obj "<lambda>" (X.env.qual ++ "<lambda>") params body scope (cloFrom X.env.cells scope.names []) pm c' ctv)]) σ H2 s2) (L : Lam1 X.env.scope scope y) (hco : H2 c' = some (CodeO c' (X.env.qual ++ "<lambda>"))) (hr : Room (k + 2) X.A) (hl : SqL X.K H2 l (ns.map V.int)) (hz : ns.length ≤ 1000)
    (hdn : scope.names.lookup dn = some .free) (hi : X.N[i]? = some dn) (hσ : σ[i]? = some (some (.ref d))) (hd : H2 d = some (.dK kvs)) (hg : ∀ n ∈ ns, valV kvs (Sum.inl n) = some (.int (g n)))
    (hal : PySem.W.AllAlike (ns.map kd)) (hsk : PySem.W.Sortable (ns.map kd)) (hdep : ∀ n, (kd n).depth ≤ 2) (hle : PySem.W.dataLe b kd = le) (ha1 : argsOk "sorted" ⟨[.ref l], kw⟩) (ha2 : ∀ x, argsOk "list.sort" ⟨[.ref x], kw⟩) (ht : ∀ x, Builtin.«list.sort» ⟨[.ref x], kw⟩ = ksk_tree x (.ref f) b)
    (key : ∀ (A : Around) (s : Shared) (cc : Addr) (vs : List (Key × Value)) (n : Int) (tn tr : Tok), A.depth < recursionLimit → s.heap.NoLimit → s.heap.get? f = some (PySem.W.kla_obj "<lambda>" (X.env.qual ++ "<lambda>") params body scope (cloFrom X.env.cells scope.names []) pm c' ctv) → s.heap.CodeRec (.ref c') (X.env.qual ++ "<lambda>") →
      (cloFrom X.env.cells scope.names []).lookup dn = some cc → s.heap.IsCell cc (some (.ref d)) → s.heap.DictOf (mixKind X.prog X.w) d vs → valueAt vs (Sum.inl n) = some (.int (g n) tr) → wpAny (model X.prog X.w) A (call (.ref f) [.int n tn]) (PySem.W.KeyPure (kd n) s) (fun _ _ => False) s)
    (q : ∀ p, H2 p = none → Q (.ref p) (upd H2 p (.lst ((ns.mergeSort le).map V.int)))) : wpAny (model X.prog X.w) X.A (call (.builtin "sorted") [.ref l] kw) (EP X pins σ Q) X.xe s2 := by
  obtain ⟨its, rv, pl, hzz⟩ := I2.list hl
  have hf := (I2.pin (f, _) (List.mem_append_right _ (List.mem_append_right _ (List.mem_singleton.mpr rfl)))).1
  obtain ⟨⟨oc, fvs, tc, hoc, hdc, hvc⟩, _, _⟩ := I2.hok c' _ hco
  obtain ⟨cc, hcc, ⟨ocl, z1, z2⟩⟩ := cap_cell I2 L hdn hi hσ
  obtain ⟨_, _, vs, kv, ⟨od, es, ep, z3, z4⟩⟩ := dk_of I2.hok hd
  have hun := hr.un
  have hdp := hr.dp
  refine PySem.W.sorted_key_data (b := b) kd pl.isList (each_ints rv) hal hsk (by rw [sizeLine_eq]; omega) (fun n _ => ?_) ha1 ha2 ht (fun v n hR hn h tk kp => ?_) fun out c h' tk kp fr hD _ eo => ?_
  · have := hdep n
    show X.A.units + 2 + (kd n).depth < cLine
    omega
  · obtain ⟨tn, rfl⟩ := hR
    obtain ⟨tr, hv⟩ := val_at kv (hg n hn)
    exact key X.A.in1.in1 { s2 with heap := h, toks := tk } cc vs n tn tr (by show X.A.depth < recursionLimit; omega) (I2.nolimit.keeps kp) (kp _ _ hf) ⟨c', oc, fvs, tc, rfl, kp _ _ hoc, hdc, hvc⟩ hcc ⟨ocl, kp _ _ z1, z2⟩ ⟨od, es, ep, kp _ _ z3, z4⟩ hv
  · rw [hle] at eo
    have fresh : H2 (s2.heap.objs.size + 1) = none := I2.hok.fresh (Nat.le_succ _)
    refine ⟨.ref _, upd H2 (s2.heap.objs.size + 1) (.lst ((ns.mergeSort le).map V.int)), (I2.unpinned).laid (t' := tk) kp (Nat.le_succ _) ⟨?_, out, c, vals_each eo, hD⟩, rfl, q _ fresh⟩
    rw [List.length_map, List.length_mergeSort, sizeLine_eq]
    omega
theorem pe_sortDn {e : Expr} {t : TA} {i k kk : Nat} {dn : Str} {p1 p2 p3 p4 kp2 : Pos} (M : LamHere X T c P) (L : Lam1 X.env.scope scope y) (hr : Room (k + 2) X.A) (hdn : scope.names.lookup dn = some .free) (hi : X.N[i]? = some dn) (hg : Gl X "sorted") (hm : X.mg "sorted" = none) (hv : bootBuiltins "sorted" = some (.builtin "sorted")) (ha : PA X [e] t)
    (h1 : (dn == ("__debug__" : Str)) = false := by decide) (h2 : (y == ("__debug__" : Str)) = false := by decide) (h3 : (dn == ("__classdict__" : Str)) = false := by decide) (hdef : defaultsOf params X.env = ([], []) := by rfl)
    (hbind : ∀ (q : Str) (cl : List (Str × Addr)) (pm cv ctv u : Value), bindArgs (PySem.W.kla_fn "<lambda>" q params (.Subscript (.Name dn p1) (.Name y p2) p3) scope cl pm cv ctv) ⟨[u], []⟩ = pure [(y, u)] := by intro _ _ _ _ _ _; rfl)
    (he : backTo pos (starEach [e] X.env) = (false, eval e X.env) :: backTo pos (starEach [] X.env) := by rfl) (hpl : (backTo pos (starEach [e] X.env)).any (·.1) = false := by rfl) :
    PE X (.Call (.Name "sorted" p) [e] [⟨some "key", .Lambda params (.Subscript (.Name dn p1) (.Name y p2) p3) scope lpos, kp⟩, ⟨some "reverse", .Constant (.bool true) kk p4, kp2⟩] pos) (tSortK X.K T t i leDn) := by
  refine ⟨fun pins s σ H Q I h => ?_⟩
  refine wpAny_Call_Name_kw (ld_blt I hg hm hv ?_ (by decide) (by decide))
  refine PyProof.Rows.callWith_kw (thn (ha.run pos pins s σ H _ I h) fun us s1 ⟨vs, H1, I1, r1, hT, l, d, ns, kvs, g, ev, hl, hz, hσ, hd, hgn, q⟩ => ?_) he hpl rfl rfl
  subst ev
  obtain rfl := Vals.ref1 r1
  show wpAny _ _ (evalAll ((do let v ← eval (.Lambda params (.Subscript (.Name dn p1) (.Name y p2) p3) scope lpos) X.env; standAt pos; pure v) :: (backToKw pos (keywordEach [⟨some "reverse", .Constant (.bool true) kk p4, kp2⟩] X.env)).map (·.2))) _ _ s1
  refine wpAny_evalAll_cons (wpAny_bind (lam_made I1 L M hT hdef fun f c' pm ctv H2 s2 I2 eN T2 hco => wpAny_bind (wpAny_standAt (wpAny_pure ?_))))
  refine thn ((pk_cons (nm := some "reverse") (kpos := kp2) (pe_bl (b := true) (j := kk) (pos := p4)) pk_nil).run pos _ s2 σ H2 (fun zs H3 => zs = [.bl true] ∧ H3 = H2) I2 ⟨rfl, rfl⟩) fun ws s3 ⟨zs, H3, I3, r3, ez, eh⟩ => ?_
  subst ez eh
  obtain ⟨w1, rfl, e1⟩ := vals1 r3
  obtain rfl : w1 = Value.bool true := e1
  show wpAny _ _ (call (.builtin "sorted") [.ref l] [(Str.ofString "key", .ref f), (Str.ofString "reverse", .bool true)]) _ _ s3
  refine sortK_run (b := true) (kd := fun n => .int (g n)) (le := leDn g) (dn := dn) I3 L hco hr (xn_l eN hl) hz hdn hi hσ (eN _ _ hd fun _ z => nomatch z) hgn (PySem.W.AllAlike.of fun _ _ => by simp [PySem.W.alike]) ?_ (fun n => by simp [PyData.depth]) (PySem.W.dataGe_int g) (ksk_s2 _ _ _) (fun _ => ksk_l2 _ _ _) (fun _ => ksk_t2 _ _ _)
    (fun A s cc vs n tn tr a1 a2 a3 a4 a5 a6 a7 a8 => keyD_pure L a1 a2 a3 a4 (hbind _ _ _ _ _ _) hdn a5 a6 a7 a8 h1 h2 h3) (q H3 eN T2)
  exact PySem.W.Sortable.others fun n => by simp
theorem pe_sortUp {e : Expr} {t : TA} {i k kk : Nat} {dn : Str} {p1 p2 p3 p4 p5 p6 : Pos} (M : LamHere X T c P) (L : Lam1 X.env.scope scope y) (hr : Room (k + 2) X.A) (hdn : scope.names.lookup dn = some .free) (hi : X.N[i]? = some dn) (hg : Gl X "sorted") (hm : X.mg "sorted" = none) (hv : bootBuiltins "sorted" = some (.builtin "sorted")) (ha : PA X [e] t)
    (h1 : (dn == ("__debug__" : Str)) = false := by decide) (h2 : (y == ("__debug__" : Str)) = false := by decide) (h3 : (dn == ("__classdict__" : Str)) = false := by decide) (hdef : defaultsOf params X.env = ([], []) := by rfl)
    (hbind : ∀ (q : Str) (cl : List (Str × Addr)) (pm cv ctv u : Value), bindArgs (PySem.W.kla_fn "<lambda>" q params (.Tuple [.UnaryOp .USub (.Subscript (.Name dn p1) (.Name y p2) p3) p4, .Name y p5] kk p6) scope cl pm cv ctv) ⟨[u], []⟩ = pure [(y, u)] := by intro _ _ _ _ _ _; rfl)
    (he : backTo pos (starEach [e] X.env) = (false, eval e X.env) :: backTo pos (starEach [] X.env) := by rfl) (hpl : (backTo pos (starEach [e] X.env)).any (·.1) = false := by rfl) :
    PE X (.Call (.Name "sorted" p) [e] [⟨some "key", .Lambda params (.Tuple [.UnaryOp .USub (.Subscript (.Name dn p1) (.Name y p2) p3) p4, .Name y p5] kk p6) scope lpos, kp⟩] pos) (tSortK X.K T t i leUp) := by
  refine ⟨fun pins s σ H Q I h => ?_⟩
  refine wpAny_Call_Name_kw (ld_blt I hg hm hv ?_ (by decide) (by decide))
  refine PyProof.Rows.callWith_kw (thn (ha.run pos pins s σ H _ I h) fun us s1 ⟨vs, H1, I1, r1, hT, l, d, ns, kvs, g, ev, hl, hz, hσ, hd, hgn, q⟩ => ?_) he hpl rfl rfl
  subst ev
  obtain rfl := Vals.ref1 r1
  show wpAny _ _ (evalAll ((do let v ← eval (.Lambda params (.Tuple [.UnaryOp .USub (.Subscript (.Name dn p1) (.Name y p2) p3) p4, .Name y p5] kk p6) scope lpos) X.env; standAt pos; pure v) :: [])) _ _ s1
  refine wpAny_evalAll_cons (wpAny_bind (lam_made I1 L M hT hdef fun f c' pm ctv H2 s2 I2 eN T2 hco => wpAny_bind (wpAny_standAt (wpAny_pure (wpAny_evalAll_nil ?_)))))
  show wpAny _ _ (call (.builtin "sorted") [.ref l] [(Str.ofString "key", .ref f)]) _ _ s2
  refine sortK_run (b := false) (kd := fun n => .tuple [.int (-g n), .int n]) (le := leUp g) (dn := dn) I2 L hco hr (xn_l eN hl) hz hdn hi hσ (eN _ _ hd fun _ z => nomatch z) hgn (PySem.W.AllAlike.of fun _ _ => by simp [PySem.W.alike, PySem.W.alikeAll]) (PySem.W.Sortable.tuples fun _ => ⟨_, _, rfl⟩) (fun n => by simp [PyData.depth, PyData.depthAll]) (PySem.W.dataLe_ii (fun n => -g n) fun n => n) (ksk_s1 _ _) (fun _ => ksk_l1 _ _) (fun _ => ksk_t1 _ _)
    (fun A s cc vs n tn tr a1 a2 a3 a4 a5 a6 a7 a8 => keyT_pure L a1 a2 a3 a4 (hbind _ _ _ _ _ _) hdn a5 a6 a7 a8 h1 h2 h3) (q H2 eN T2)
end
end Ik

namespace Ik
open PySem PySem.Spec PyProof.Rows L2 Evl LamX
/-! ### defs that make a lambda -/
def lamQ (x : Str) : Str := (x ++ ".<locals>.") ++ "<lambda>"
structure DnC (K : PySem.W.Frag) (mg : Str → Option Value) (x : Str) (st : Stmt) (ps : List Str) (c : Addr) : Prop where
  ex : ∃ (f : Addr) (fd : FuncData), Fun K x x st f fd ∧ fd.code = .ref c ∧ mg x = some (.ref f) ∧ Binds K fd ps []
/-- the program's three, their code objects, their tables -/
structure Lams (mg : Str → Option Value) (base : Heap) where
  cG : Addr
  pG : Addr
  cW : Addr
  pW : Addr
  cR : Addr
  pR : Addr
  tG : TabB base mg cG pG
  tW : TabB base mg cW pW
  tR : TabB base mg cR pR
  n1 : pG ≠ pW
  n2 : pG ≠ pR
  n3 : pW ≠ pR
def Lams.T {mg : Str → Option Value} {base : Heap} (Z : Lams mg base) : List (Addr × Str) := [(Z.pG, lamQ "greatest_paper"), (Z.pW, lamQ "who_stays"), (Z.pR, lamQ "give_rooms")]
theorem Lams.uniG {mg : Str → Option Value} {base : Heap} (Z : Lams mg base) : ∀ p ∈ Z.T, p.1 = Z.pG → p.2 = lamQ "greatest_paper" := fun p hp e => by
  unfold Lams.T at hp
  simp only [List.mem_cons, List.not_mem_nil, or_false] at hp
  rcases hp with rfl | rfl | rfl
  · rfl
  · exact absurd e.symm Z.n1
  · exact absurd e.symm Z.n2
theorem Lams.uniW {mg : Str → Option Value} {base : Heap} (Z : Lams mg base) : ∀ p ∈ Z.T, p.1 = Z.pW → p.2 = lamQ "who_stays" := fun p hp e => by
  unfold Lams.T at hp
  simp only [List.mem_cons, List.not_mem_nil, or_false] at hp
  rcases hp with rfl | rfl | rfl
  · exact absurd e Z.n1
  · rfl
  · exact absurd e.symm Z.n3
theorem Lams.uniR {mg : Str → Option Value} {base : Heap} (Z : Lams mg base) : ∀ p ∈ Z.T, p.1 = Z.pR → p.2 = lamQ "give_rooms" := fun p hp e => by
  unfold Lams.T at hp
  simp only [List.mem_cons, List.not_mem_nil, or_false] at hp
  rcases hp with rfl | rfl | rfl
  · exact absurd e Z.n2
  · exact absurd e Z.n3
  · rfl
section
variable {P : Program} {w : World} {K : PySem.W.Frag} {mg : Str → Option Value} {base : Heap}
theorem cal_ofC {x : Str} {st : Stmt} {N ps : List Str} {k : Nat} {sp : Sp} {c : Addr} (D : DnC K mg x st ps c) (S : FnScope N ps (defScope st)) (len : ∀ vs H Q E, sp vs H Q E → vs.length = ps.length)
    (hbody : ∀ (f : Addr) (A : Around) (outer : List Env) (s : Shared) (H : Hp) (vs : List V) (Q : VK) (E : XK), Room k (A.deeper (envOfC x (defScope st) s.heap.objs.size f (.ref c))) → sp vs H Q E →
      ∃ t, PSs (cxOf CX0 P w K mg base N x (defScope st) f (.ref c) A outer s H E).nox (defBody st) t ∧ t { nx := fun _ H' => Q .non H', rt := Q } (start N vs) H) : Cal P w K mg base x (k + 1) ps sp := by
  obtain ⟨f, fd, F, hc, g, b⟩ := D.ex
  have kp := F.kp
  obtain ⟨oc, od, kV, doc, pm, an, cdv, ct, osl, rfl, lk, hcd⟩ := F.ex
  have hc : cdv = .ref c := hc
  subst hc
  exact ⟨f, _, fn_of lk hcd S len fun A outer s H vs Q E hr h => by
    obtain ⟨t, z, q⟩ := hbody f A outer s H vs Q E hr h
    exact ⟨t, z.nox, q⟩, g, kp, b⟩
/-- fresh, tables aside -/
def Fn (H : Hp) (p : Addr) : Prop := ∀ o, H p = some o → ∃ ps, o = .tbl ps
theorem Fn.of {H : Hp} {p : Addr} (h : H p = none) : Fn H p := fun o e => by
  rw [h] at e
  cases e
theorem Fn.back {H H' : Hp} {p : Addr} (e : ExtN H H') (h : Fn H' p) : Fn H p := fun o ho => by
  cases o with
  | tbl ps => exact ⟨ps, rfl⟩
  | _ =>
    obtain ⟨ps, z⟩ := h _ (e _ _ ho fun _ z => nomatch z)
    cases z
theorem Fn.ne {H : Hp} {p q : Addr} {o : HO} (h : Fn H p) (hq : H q = some o) (n : ∀ ps, o ≠ .tbl ps) : q ≠ p := fun z => by
  rw [z] at hq
  obtain ⟨ps, e⟩ := h o hq
  exact n ps e
theorem _root_.LamX.ExtN.ex {H H' : Hp} (e : Ex H H') : ExtN H H' := fun b o h _ => e b o h
theorem Tabs.ex {T : List (Addr × Str)} {H H' : Hp} (t : Tabs T H) (e : Ex H H') : Tabs T H' := Tabs.ext t fun b o h => e b o h
theorem ExtN.mut {H H' : Hp} {p : Addr} {o : HO} (e : ExtN H H') (h : Fn H p) : ExtN H (upd H' p o) := fun b u hb n => by
  rw [upd_ne (h.ne hb n)]
  exact e b u hb n
theorem Tabs.mut {T : List (Addr × Str)} {H : Hp} {p : Addr} {o u : HO} (t : Tabs T H) (h : H p = some o) (n : ∀ ps, o ≠ .tbl ps) (nc : ∀ c q, o ≠ CodeO c q) : Tabs T (upd H p u) := fun x hx => by
  obtain ⟨ps, h1, h2, h3⟩ := t x hx
  refine ⟨ps, ?_, h2, fun pos cv hc => ?_⟩
  · rw [upd_ne fun z => by rw [z, h] at h1; exact n ps (Option.some.inj h1)]
    exact h1
  · obtain ⟨c, e1, e2⟩ := h3 pos cv hc
    refine ⟨c, e1, ?_⟩
    rw [upd_ne fun z => by rw [z, h] at e2; exact nc _ _ (Option.some.inj e2)]
    exact e2
theorem tabs_new {T : List (Addr × Str)} {H : Hp} {p : Addr} {u : HO} (t : Tabs T H) (h : H p = none) : Tabs T (upd H p u) := Tabs.ex t (Ex.new h)
end
section
variable {K : PySem.W.Frag} {σ : L2.St} {H H1 H' : Hp} {ta tb tc td te tl : TE} {t u : TT} {x y z v : V} {D : Ends} {tu tz : TS}
/-! calls that make lambdas: what is told of the heap is told by the promise -/
theorem q_asgX {i : Nat} {sp : Sp} {vs : List V} {E : XK} {ta : TA} (ha : EvA ta σ H vs) (hs : ∀ H1, Ex H H1 → sp vs H1 (fun v H2 => tz D (σ.set i (some v)) H2) E) : tSeq (tAsg (tCall sp [] E ta) (gName i)) tz D σ H :=
  ha H (Ex.refl H) _ fun H1 e1 => by
    rw [List.append_nil]
    exact hs H1 e1
theorem s_retX {sp : Sp} {vs : List V} {E : XK} {ta : TA} (ha : EvA ta σ H vs) (hs : ∀ H1, Ex H H1 → sp vs H1 D.rt E) : tRet (tCall sp [] E ta) D σ H :=
  ha H (Ex.refl H) _ fun H1 e1 => by
    rw [List.append_nil]
    exact hs H1 e1
theorem s_appX {l : Addr} {sp : Sp} {vs xs : List V} {E : XK} {tb : TA} (hl : H l = some (.lst xs)) (ha : Ev ta σ H (.ref l)) (hv : EvA tb σ H vs) (hs : ∀ H1, Ex H H1 → sp vs H1 (fun v H2 => rAppend (.ref l) [v] H2 fun _ H3 => D.nx σ H3) E) :
    tDrop (tBM K "list" rAppend ta (tCons (tCall sp [] E tb) tNil)) D σ H := ha H (Ex.refl H) _ fun H1 e1 =>
  ⟨Or.inl ⟨rfl, xs, sq_of (e1 l _ hl)⟩, hv H1 e1 _ fun H2 e2 => by
    rw [List.append_nil]
    exact hs H2 (e1.trans e2)⟩
/-! [[.., x] for x in xs]: a new list of new lists -/
def CwL {α : Type} (H : Hp) (l : List α) (g : α → List V) (Dl : Addr) (i : Nat) (H' : Hp) : Prop := H Dl = none ∧ Ex H H' ∧ ∃ ps : List Addr, H' Dl = some (.lst (ps.map V.ref)) ∧ Paired (fun p x => H p = none ∧ p ≠ Dl ∧ H' p = some (.lst (g x))) ps (l.take i)
theorem cwL_turn {α : Type} {l : List α} {g : α → List V} {Dl : Addr} {i : Nat} {x : α} {σ2 : L2.St} (p : CwL H l g Dl i H') (hi : l[i]? = some x) (hz : l.length < 50000) (he : EvL te σ2 H (g x)) :
    tYes σ2 H' fun b H3 => if b = true then te σ2 H3 fun y H4 => ∃ acc, H4 Dl = some (.lst acc) ∧ acc.length < sizeLine ∧ CwL H l g Dl (i + 1) (upd H4 Dl (.lst (acc ++ [y]))) else CwL H l g Dl (i + 1) H3 := by
  obtain ⟨p1, p2, ps, p3, p4⟩ := p
  have hlt : i < l.length := (List.getElem?_eq_some_iff.mp hi).1
  have hlen : (ps.map V.ref).length ≤ l.length := by
    rw [List.length_map, paired_len p4, List.length_take]
    omega
  show te σ2 H' fun y H4 => ∃ acc, H4 Dl = some (.lst acc) ∧ acc.length < sizeLine ∧ CwL H l g Dl (i + 1) (upd H4 Dl (.lst (acc ++ [y])))
  refine he H' p2 _ fun q H4 hq e4 h4 => ⟨_, e4 Dl _ p3, sz_lt (by omega), p1, Ex.mut (p2.trans e4) p1, ps ++ [q], ?_, ?_⟩
  · rw [upd_same, List.map_append]
    rfl
  · have nq : q ≠ Dl := fun z => by
      rw [z, p3] at hq
      cases hq
    rw [take_snoc hi]
    refine paired_snoc ⟨fresh_back p2 hq, nq, by rw [upd_ne nq]; exact h4⟩ (paired_imp (fun a kv z => ⟨z.1, z.2.1, ?_⟩) p4)
    rw [upd_ne z.2.1]
    exact e4 _ _ z.2.2
/-- what is made of it -/
def EvLs (te : TE) (σ : L2.St) (H : Hp) (xss : List (List V)) : Prop := ∀ H1, Ex H H1 → ∀ Q : VK, (∀ d H2 ps, H1 d = none → Ex H1 H2 → H2 d = some (.lst (ps.map V.ref)) → Paired (fun p xs => H1 p = none ∧ p ≠ d ∧ H2 p = some (.lst xs)) ps xss → Q (.ref d) H2) → te σ H1 Q
theorem paired_map {α β γ : Type} {F : α → γ → Prop} (f : β → γ) : ∀ {xs : List α} {ys : List β}, Paired (fun x y => F x (f y)) xs ys → Paired F xs (ys.map f)
  | _, _, .nil => .nil
  | _, _, .cons a t => .cons a (paired_map f t)
theorem paired_unmap {α β γ : Type} {F : α → γ → Prop} (f : β → γ) : ∀ {xs : List α} {ys : List β}, Paired F xs (ys.map f) → Paired (fun x y => F x (f y)) xs ys
  | [], [], _ => .nil
  | x :: xs, y :: ys, h => by
    cases h with
    | cons a t => exact .cons a (paired_unmap f t)
theorem el_lcLs {α : Type} {a : Addr} {j : Nat} {vs : List Nat} (l : List α) (enc : α → V) (g : α → List V) (h : Ev tl σ H (.ref a)) (hx : SqL K H a (l.map enc)) (hz : l.length < 50000) (hw : ∀ x, wipe ((wipe σ vs).set j (some x)) vs = wipe σ vs)
    (he : ∀ x ∈ l, ∀ H1, Ex H H1 → EvL te ((wipe σ vs).set j (some (enc x))) H1 (g x)) : EvLs (tLc (iList K tl) (gName j) tYes te vs) σ H (l.map g) := fun H0 e Q q => h H0 e _ fun H1 e1 => ⟨a, rfl, ⟨_, ex_l (e.trans e1) hx⟩, fun Dl hD =>
  lc_list (xs := l.map enc) (CwL H1 l g Dl) ⟨hD, Ex.new hD, [], upd_same, .nil⟩ (fun i H' _ p => ex_l ((e.trans e1).trans p.2.1) hx) (fun i x H' hi p => by
    rw [List.getElem?_map] at hi
    cases hq : l[i]? with
    | none =>
      rw [hq] at hi
      cases hi
    | some b =>
      rw [hq] at hi
      have ex : enc b = x := Option.some.inj hi
      subst ex
      exact ⟨hw _, cwL_turn p hq hz (he b (List.mem_of_getElem? hq) H1 (e.trans e1))⟩)
    (fun H' p => by
      obtain ⟨p1, p2, ps, p3, p4⟩ := p
      rw [List.length_map, List.take_length] at p4
      refine q Dl H' ps (fresh_back e1 p1) (e1.trans p2) p3 (paired_map g (paired_imp (fun _ _ z => ⟨fresh_back e1 z.1, z.2⟩) p4)))⟩
theorem q_asgLs {i : Nat} {xss : List (List V)} (h : EvLs te σ H xss) (k : ∀ d H1 ps, H d = none → Ex H H1 → H1 d = some (.lst (ps.map V.ref)) → Paired (fun p xs => H p = none ∧ p ≠ d ∧ H1 p = some (.lst xs)) ps xss → tz D (σ.set i (some (.ref d))) H1) : tSeq (tAsg te (gName i)) tz D σ H := h H (Ex.refl H) _ k
theorem pa_starK {X : Cx} {K : PySem.W.Frag} {e : Expr} {es : List Expr} {te : TE} {t : TA} {p : Pos} (hK : X.K = K) (he : PE X e te) (hr : PA X es t) (hs : starEach (.Starred e p :: es) X.env = (true, eval e X.env) :: starEach es X.env := by rfl) : PA X (.Starred e p :: es) (StX.tStar K te t) := by
  subst hK
  exact StX.pa_star he hr hs
/-- [*xs, y] -/
theorem el_star {p : Addr} {xs : List V} (h : Ev ta σ H (.ref p)) (hx : SqL K H p xs) (hy : Ev tb σ H y) (hz : xs.length < 1000) : EvL (tLst (StX.tStar K ta (tCons tb tNil))) σ H (xs ++ [y]) := fun H1 e Q q =>
  h H1 e _ fun H2 e2 => ⟨p, xs, rfl, .inr (ex_l (e.trans e2) hx), hy H2 (e.trans e2) _ fun H3 e3 => ⟨sz_of (by rw [List.length_append, List.length_singleton]; omega), fun d hd => q d _ (fresh_back (e2.trans e3) hd) ((e2.trans e3).trans (Ex.new hd)) upd_same⟩⟩
end
end Ik

namespace Ik
open PySem PySem.Spec PyProof.Rows L2 Evl LamX
/-! ### the end, where defs with lambdas stand: their tables are known to be empty -/
theorem tabIn_of {K : PySem.W.Frag} {x : Str} {f c P : Addr} {o1 o2 : Value} {d1 d2 : Option Addr} {fd : FuncData} {vs : Array Value} {s1 s2 : Array (Option Value)} (h1 : PySem.W.nsIn K mainGlobals x = some (some (.ref f))) (h2 : K.lookup f = some ⟨o1, d1, .func fd, s1⟩) (h3 : fd.code = .ref c) (h4 : K.lookup c = some ⟨o2, d2, .fields vs, s2⟩) (h5 : vs[11]? = some (.ref P)) :
    PySem.W.tabIn K x = some (c, P) := by
  unfold PySem.W.tabIn
  rw [h1]
  dsimp only
  rw [h2]
  dsimp only
  rw [h3]
  dsimp only
  rw [h4]
  dsimp only
  rw [h5]
theorem tab_not {K : PySem.W.Frag} {h : Heap} {P : Addr} (X : K.In h) (hn : PySem.W.noTabs K = true) (hp : h.get? P = some { cls := .none, data := .fields #[] }) : K.lookup P = none := by
  cases e : K.lookup P with
  | none => rfl
  | some o =>
    have e1 := X P o e
    rw [hp] at e1
    cases e1
    exact absurd (show false = true from List.all_eq_true.mp hn _ (PySem.W.mem_of_lookupK e)) Bool.false_ne_true
theorem walk_ofTab {l : PySem.W.OpenLaw} {n k : Nat} {q : Program} {loose : List Str} {XP : (Str → Option Value) → Heap → Prop} {YP : World → Heap → Prop} {d : DefRec} {K : Params → PySem.W.Frag} {CX : World → CXT} {x : Str} (xs : List Str)
    (hn : l.most = some n) (hn2 : n ≤ sizeLine) (hdf : d.params.defaults = []) (hr : Room k callerA) (hxs : (xs.all fun x => (PyProof.Rows.recsOf q).any fun e => e.name == x) = true) (hY : ∀ (w : World) (h : Heap), YP w h → (K w.params).In h)
    (F : ∀ (w : World) (mg : Str → Option Value) (fa : Addr) (h : Heap), (K w.params).In h → h.Ns mainGlobals mg → mg d.name = some (.ref fa) → (∀ x ∈ xs, ∀ c P, PySem.W.tabIn (K w.params) x = some (c, P) → PySem.W.CodeHd h c P ∧ h.get? P = some { cls := .none, data := .fields #[] }) → LawAtS l w (K w.params) (CX w) k n x mg fa h)
    (hCX : ∀ (w : World) (H : Hp) (s : Shared) (e : Value) (s' : Shared), CX w [] H s (fun _ _ _ => False) e s' → False) :
    PySem.W.WalkO q loose XP YP l.row.toRowW d [] (fun f vs => PySem.call f vs) := by
  refine Att.attach_callB hn hdf fun w s₀ s₁ mg mb fa o pm cd doc a vs ns G Y ho hd hcd hmg hobj hints hlen hbits hg => ?_
  have KX := hY w _ Y
  obtain ⟨fd, cs, sp, hT, nT, C, hb, hsp, hF⟩ := F w mg fa _ KX G.T.g hmg fun x hx c P ht => by
    obtain ⟨e, he⟩ : ∃ e, (PyProof.Rows.recsOf q).find? (fun e => e.name == x) = some e := by
      have z := List.all_eq_true.mp hxs x hx
      exact Option.isSome_iff_exists.mp (by rw [List.find?_isSome]; obtain ⟨e, h1, h2⟩ := List.any_eq_true.mp z; exact ⟨e, h1, h2⟩)
    exact PySem.W.tab_of G.T KX he ht
  exact law_callTs KX G.T.g G.T.b G.T.builtins G.T.nolimit hg hT nT C G.T.bmain hobj hints (Nat.le_trans hlen hn2) hr hF hb (fun H hH hS => hsp H a ns hlen hbits hH hS) fun H e s' => hCX w H s₁ e s'
def tabsT (pG pW pR : Addr) : List (Addr × Str) := [(pG, lamQ "greatest_paper"), (pW, lamQ "who_stays"), (pR, lamQ "give_rooms")]
theorem tabs_start {H : Hp} {cG pG cW pW cR pR : Addr} (h : ∀ p ∈ ([(cG, pG), (cW, pW), (cR, pR)] : List (Addr × Addr)), H p.2 = some (.tbl #[])) : Tabs (tabsT pG pW pR) H := fun p hp => by
  unfold tabsT at hp
  simp only [List.mem_cons, List.not_mem_nil, or_false] at hp
  rcases hp with rfl | rfl | rfl
  · exact TabS.nil (h (cG, pG) (by simp))
  · exact TabS.nil (h (cW, pW) (by simp))
  · exact TabS.nil (h (cR, pR) (by simp))
def lams_of {mg : Str → Option Value} {base : Heap} {cG pG cW pW cR pR : Addr} (h : ∀ p ∈ ([(cG, pG), (cW, pW), (cR, pR)] : List (Addr × Addr)), TabB base mg p.1 p.2) (n1 : pG ≠ pW) (n2 : pG ≠ pR) (n3 : pW ≠ pR) : Lams mg base :=
  ⟨cG, pG, cW, pW, cR, pR, h (cG, pG) (by simp), h (cW, pW) (by simp), h (cR, pR) (by simp), n1, n2, n3⟩
def spLawT (pG pW pR : Addr) (K : PySem.W.Frag) : Sp := fun vs H Q _ => ∃ (a : Addr) (ns : List Int), vs = [.ref a] ∧ SqL K H a (ns.map V.int) ∧ ns.length ≤ 63 ∧ Tabs (tabsT pG pW pR) H ∧ ∀ H', Q (.bl true) H'
section
variable {σ : L2.St} {H : Hp} {D : Ends} {tz : TS}
/-- a call whose arguments P tells -/
theorem q_asgXP {i : Nat} {sp : Sp} {E : XK} {ta : TA} {P : List V → Hp → Prop} (h : ∀ Q : List V → Hp → Prop, (∀ vs H1, Ex H H1 → P vs H1 → Q vs H1) → ta σ H Q) (hs : ∀ vs H1, Ex H H1 → P vs H1 → sp vs H1 (fun v H2 => tz D (σ.set i (some v)) H2) E) : tSeq (tAsg (tCall sp [] E ta) (gName i)) tz D σ H :=
  h _ fun vs H1 e1 hp => by
    rw [List.append_nil]
    exact hs vs H1 e1 hp
end
end Ik

namespace Ik
open PySem PySem.Spec PyProof.Rows L2 Evl
/-! ### pairs made over a range, sorted; calls whose arguments are new -/
section
variable {K : PySem.W.Frag} {σ : L2.St} {H H1 H' : Hp} {ta : TA} {tb te tl : TE} {t : TT} {v z : V} {D : Ends} {tz : TS}
theorem ep_lcR {j : Nat} {vs : List Nat} {n : Nat} (g : Nat → Int × Int) (h : EvA ta σ H [.int (n : Int)]) (hn : n < 50000) (hw : ∀ x, wipe ((wipe σ vs).set j (some x)) vs = wipe σ vs) (he : ∀ i : Nat, i < n → ∀ H1, Ex H H1 → EvU te ((wipe σ vs).set j (some (.int (i : Int)))) H1 [.int (g i).1, .int (g i).2]) :
    EvP (tLc (iRng1 ta) (gName j) tYes te vs) σ H ((List.range n).map fun i => ((Sum.inl (g i).1 : Key), V.int (g i).2)) := fun H0 e Q q => h H0 e _ fun H1 e1 => ⟨(n : Int), rfl, by omega, by omega, fun Dl hD =>
  lc_range (lo := 0) (n := (n : Int).toNat) (CwU H1 (List.range n) (fun _ => true) (fun i => ((Sum.inl (g i).1 : Key), V.int (g i).2)) Dl) ⟨hD, Ex.new hD, [], upd_same, .nil⟩ (fun i H' hi p => by
    have e0 : (0 : Int) + (i : Int) = (i : Int) := Int.zero_add _
    have hi : i < n := by omega
    have hq : (List.range n)[i]? = some i := by rw [List.getElem?_range hi]
    show wipe ((wipe σ vs).set j (some (.int ((0 : Int) + (i : Int))))) vs = wipe σ vs ∧ tYes ((wipe σ vs).set j (some (.int ((0 : Int) + (i : Int))))) H' fun b H3 => if b = true then te ((wipe σ vs).set j (some (.int ((0 : Int) + (i : Int))))) H3 fun y H4 => ∃ acc, H4 Dl = some (.lst acc) ∧ acc.length < sizeLine ∧ CwU H1 (List.range n) (fun _ => true) (fun i => ((Sum.inl (g i).1 : Key), V.int (g i).2)) Dl (i + 1) (upd H4 Dl (.lst (acc ++ [y]))) else CwU H1 (List.range n) (fun _ => true) (fun i => ((Sum.inl (g i).1 : Key), V.int (g i).2)) Dl (i + 1) H3
    rw [e0]
    exact ⟨hw _, cwU_turn p hq (by rw [List.length_range]; omega) et_yes (fun _ => he i hi H1 (e.trans e1))⟩) (fun H' p => by
      obtain ⟨p1, p2, ps, p3, p4⟩ := p
      rw [List.take_of_length_le (by rw [List.length_range]; omega), filter_tt] at p4
      exact q Dl H' ps (fresh_back e1 p1) (e1.trans p2) p3 p4)⟩
def EvPP (te : TE) (σ : L2.St) (H : Hp) (xs : List (Int × Int)) : Prop := ∀ H1, Ex H H1 → ∀ Q : VK, (∀ p H2 ps ys, H1 p = none → Ex H1 H2 → H2 p = some (.lst (ps.map V.ref)) → ys.Perm xs → Paired (fun t (q : Int × Int) => H2 t = some (.tup [.int q.1, .int q.2])) ps ys → Q (.ref p) H2) → te σ H1 Q
theorem paired_perm {α β : Type} {F : α → β → Prop} {xs xs' : List α} (p : xs'.Perm xs) : ∀ {ys : List β}, Paired F xs ys → ∃ ys', ys'.Perm ys ∧ Paired F xs' ys' := by
  induction p with
  | nil => exact fun h => ⟨_, .refl _, h⟩
  | cons x _ ih =>
    intro ys h
    cases h with
    | cons a t =>
      obtain ⟨zs, z1, z2⟩ := ih t
      exact ⟨_ :: zs, z1.cons _, .cons a z2⟩
  | swap x y l =>
    intro ys h
    cases h with
    | cons a t =>
      cases t with
      | cons b t => exact ⟨_, .swap _ _ _, .cons b (.cons a t)⟩
  | trans _ _ ih1 ih2 =>
    intro ys h
    obtain ⟨zs, z1, z2⟩ := ih2 h
    obtain ⟨us, u1, u2⟩ := ih1 z2
    exact ⟨us, u1.trans z1, u2⟩
def unref : V → Addr
  | .ref a => a
  | _ => 0
theorem refs_of {ys : List V} {ps : List Addr} (p : ys.Perm (ps.map V.ref)) : ∃ qs : List Addr, ys = qs.map V.ref ∧ qs.Perm ps := by
  refine ⟨ys.map unref, ?_, ?_⟩
  · rw [List.map_map]
    have e : ys.map (V.ref ∘ unref) = ys.map id := List.map_congr_left fun y hy => by
      obtain ⟨a, _, rfl⟩ := List.mem_map.mp (p.subset hy)
      rfl
    rw [e, List.map_id]
  · have z := p.map unref
    rw [List.map_map] at z
    have e : ps.map (unref ∘ V.ref) = ps := by
      have e' : ps.map (unref ∘ V.ref) = ps.map id := List.map_congr_left fun _ _ => rfl
      rw [e', List.map_id]
    rwa [e] at z
theorem epp_sort {xs : List (Int × Int)} (h : EvP te σ H (xs.map fun q => ((Sum.inl q.1 : Key), V.int q.2))) : EvPP (tCB (rSortedP K) (tCons te tNil)) σ H xs := fun H1 e Q q => h H1 e _ fun a H2 ps ha e2 h2 hp => by
  have hp : Paired (fun t (q : Int × Int) => H2 t = some (.tup [.int q.1, .int q.2])) ps xs := paired_unmap (F := fun t (kv : Key × V) => H2 t = some (.tup [kV kv.1, kv.2])) (fun q : Int × Int => ((Sum.inl q.1 : Key), V.int q.2)) hp
  refine ⟨a, ps.map V.ref, rfl, sq_of h2, fun x hx => ?_, fun ys p pm hn => ?_⟩
  · obtain ⟨t, ht, rfl⟩ := List.mem_map.mp hx
    obtain ⟨i, hi⟩ := List.mem_iff_getElem?.mp ht
    obtain ⟨y, _, hy⟩ := paired_at hp hi
    exact ⟨t, y.1, y.2, rfl, hy⟩
  · obtain ⟨qs, rfl, hq⟩ := refs_of pm
    obtain ⟨zs, z1, z2⟩ := paired_perm hq hp
    exact q p _ qs zs (fresh_back e2 hn) (e2.trans (Ex.new hn)) upd_same z1 (paired_imp (fun t q z => Ex.new hn _ _ z) z2)
theorem q_asgPP {i : Nat} {xs : List (Int × Int)} (h : EvPP te σ H xs) (k : ∀ p H1 ps ys, H p = none → Ex H H1 → H1 p = some (.lst (ps.map V.ref)) → ys.Perm xs → Paired (fun t (q : Int × Int) => H1 t = some (.tup [.int q.1, .int q.2])) ps ys → tz D (σ.set i (some (.ref p))) H1) : tSeq (tAsg te (gName i)) tz D σ H := h H (Ex.refl H) _ k
theorem EvP.congr {xs ys : List (Key × V)} (h : EvP te σ H xs) (e : xs = ys) : EvP te σ H ys := e ▸ h
/-- a call whose arguments P tells -/
theorem ev_callP {sp : Sp} {E : XK} {P : List V → Hp → Prop} (h : ∀ H0, Ex H H0 → ∀ Q : List V → Hp → Prop, (∀ vs H1, Ex H0 H1 → P vs H1 → Q vs H1) → ta σ H0 Q) (hs : ∀ vs H1, Ex H H1 → P vs H1 → SpV sp vs H1 z) : Ev (tCall sp [] E ta) σ H z := fun H0 e Q q =>
  h H0 e _ fun vs H1 e1 hp => by
    rw [List.append_nil]
    exact hs vs H1 (e.trans e1) hp H1 (Ex.refl _) Q (fun H2 e2 => q H2 (e1.trans e2)) E
/-- name = len(f(..)[j]) -/
theorem q_asgLenX {i : Nat} {j : Int} {sp : Sp} {E : XK} {P : List V → Hp → Prop} (h : ∀ Q : List V → Hp → Prop, (∀ vs H1, Ex H H1 → P vs H1 → Q vs H1) → ta σ H Q)
    (hs : ∀ vs H1, Ex H H1 → P vs H1 → sp vs H1 (fun x H2 => rIxT K x (.int j) H2 fun y H3 => rLenS K [y] H3 fun u H4 => tz D (σ.set i (some u)) H4) E) : tSeq (tAsg (tCB (rLenS K) (tCons (tOp (rIxT K) (tCall sp [] E ta) (tC (.int j))) tNil)) (gName i)) tz D σ H :=
  h _ fun vs H1 e1 hp => by
    rw [List.append_nil]
    exact hs vs H1 e1 hp
/-- if f(..) < n: never so -/
theorem et_ltNo {sp : Sp} {E : XK} {vs : List V} {n : Int} (h : EvA ta σ H vs) (hs : ∀ H1, Ex H H1 → ∀ Q : VK, (∀ (m : Int) H2, Ex H1 H2 → n ≤ m → Q (.int m) H2) → sp vs H1 Q E) (hb : Ev tb σ H (.int n)) : EvT (tTest (tOp (rI0 fun i j => .bl (decide (i < j))) (tCall sp [] E ta) tb)) σ H false := fun H1 e Q q =>
  h H1 e _ fun H2 e2 => by
    rw [List.append_nil]
    refine hs H2 (e.trans e2) _ fun m H3 e3 hm => hb H3 ((e.trans e2).trans e3) _ fun H4 e4 => ⟨m, n, rfl, rfl, false, ?_, q H4 ((e2.trans e3).trans e4)⟩
    show V.bl (decide (m < n)) = V.bl false
    rw [decide_eq_false (by omega)]
theorem s_asgC {i : Nat} {R : Rel} {sp : Sp} {vs : List V} {E : XK} (ha : EvA ta σ H vs) (hs : SpR sp vs H R) (k : ∀ v H1 H2, Ex H H1 → Ex H1 H2 → R v H1 H2 → D.nx (σ.set i (some v)) H2) : tAsg (tCall sp [] E ta) (gName i) D σ H :=
  ha H (Ex.refl H) _ fun H1 e1 => by
    rw [List.append_nil]
    exact hs H1 e1 _ (fun v H2 e2 r => k v H1 H2 e1 e2 r) E
/-- if f(..) is None: name = .. : told by the call -/
theorem s_ifC {sp : Sp} {E : XK} {vs : List V} {tu : TS} (h : EvA ta σ H vs) (hs : ∀ H1, Ex H H1 → ∀ Q : VK, (∀ H2, tu D σ H2 → Q .non H2) → (∀ q H2, D.nx σ H2 → Q (.ref q) H2) → sp vs H1 Q E) : tIfS (tTest (tOp rIsN (tCall sp [] E ta) (tC .non))) tu tNext D σ H :=
  h H (Ex.refl H) _ fun H1 e1 => by
    rw [List.append_nil]
    exact hs H1 e1 _ (fun H2 h2 => ⟨rfl, true, by simp, h2⟩) (fun q H2 h2 => ⟨rfl, false, by simp, h2⟩)
end
end Ik

namespace Ik
open PySem PySem.Spec PyProof.Rows L2 Evl
/-! ### max(a list of ints, default=n); min of two; d.values() in a comprehension -/
def maxL (d : Int) : List Int → Int
  | [] => d
  | y :: ys => ys.foldl max y
def rMaxDf (K : PySem.W.Frag) : List V → List V → Hp → VK → Prop := fun vs zs H Q => ∃ (a : Addr) (ns : List Int) (d : Int), vs = [V.ref a] ∧ zs = [.int d] ∧ SqL K H a (ns.map V.int) ∧ Q (.int (maxL d ns)) H
theorem readsA_ints {h : Heap} : ∀ {vs : List Value} {ns : List Int}, IntsAre vs ns → ReadsAll h vs (ns.map PyData.int) []
  | _, _, .nil => .nil
  | _, _, .cons k t r => by
    have z := ReadsAll.cons (Reads.int (h := h) k t) (readsA_ints r)
    exact z
theorem alike_ints (ns : List Int) : W.AlikeAll (ns.map PyData.int) := ⟨fun x hx y hy => by
  obtain ⟨i, _, rfl⟩ := List.mem_map.mp hx
  obtain ⟨j, _, rfl⟩ := List.mem_map.mp hy
  rfl, fun x hx => by
  obtain ⟨i, _, rfl⟩ := List.mem_map.mp hx
  exact fun z => nomatch z⟩
theorem cr_maxDf {X : Cx} (hu : X.A.units + 64 < cLine) (hc : X.calm = true := by rfl) : CallRK X (.builtin "max") [Str.ofString "default"] (rMaxDf X.K) := by
  intro pins s σ H vs zs us ws Q I r rz h
  obtain ⟨a, ns, d, rfl, rfl, hs, q⟩ := h
  obtain rfl := Vals.ref1 r
  obtain ⟨w1, rfl, td, rfl⟩ := vals1 rz
  obtain ⟨its, rv, hl, hz⟩ := I.list hs
  refine W.max_list_default (xs := ns.map PyData.int) (as := []) (I.ok.hd hc) hl.isList (by simpa using readsA_ints rv.ints) (alike_ints ns) (by rw [il_depth]; omega) (fun e h' tk hk => ?_) fun y ys i v h' tk bs e hv hr hk => ?_
  · have e : ns = [] := List.map_eq_nil_iff.mp e
    subst e
    exact ⟨.int d, H, I.kept hk, ⟨_, rfl⟩, q⟩
  · cases ns with
    | nil => cases e
    | cons n ns =>
      rw [List.map_cons] at e
      injection e with e1 e2
      subst e1 e2
      rw [W.maxD_ints] at hr
      cases hr with
      | int i t => exact ⟨.int _, H, I.kept hk, ⟨_, rfl⟩, q⟩
section
variable {K : PySem.W.Frag} {σ : L2.St} {H : Hp} {ta tb td te : TE} {t : TT} {d : Addr} {kvs : List (Key × V)}
theorem ev_maxDf {ns : List Int} {d : Int} (h : EvL ta σ H (ns.map V.int)) : Ev (tCKw (rMaxDf K) (tCons ta tNil) (tCons (tC (.int d)) tNil)) σ H (.int (maxL d ns)) := fun H1 e Q q =>
  h H1 e _ fun p H2 _ e2 h2 => ⟨p, ns, d, rfl, rfl, sq_of h2, q H2 e2⟩
def rMin2 : List V → Hp → VK → Prop := fun xs H Q => ∃ i j, xs = [.int i, .int j] ∧ Q (.int (if j < i then j else i)) H
theorem ev_min2 {i j : Int} (ha : Ev ta σ H (.int i)) (hb : Ev tb σ H (.int j)) : Ev (tCB rMin2 (tCons ta (tCons tb tNil))) σ H (.int (if j < i then j else i)) := fun H1 e Q q =>
  ha H1 e _ fun H2 e2 => hb H2 (e.trans e2) _ fun H3 e3 => ⟨i, j, rfl, q H3 (e2.trans e3)⟩
theorem el_lcV {α : Type} {j : Nat} {vs : List Nat} (l : List α) (enc : α → V) (f : α → Bool) (g : α → V) (hd : H d = some (.dK kvs)) (hk : kvs.map (·.2) = l.map enc) (hz : l.length < 50000) (hw : ∀ x, wipe ((wipe σ vs).set j (some x)) vs = wipe σ vs) (hσ : ∀ od, Ev td σ (upd H d (.frz od (.dK kvs))) (.ref d))
    (ht : ∀ od, ∀ x ∈ l, EvT t ((wipe σ vs).set j (some (enc x))) (upd H d (.frz od (.dK kvs))) (f x)) (he : ∀ od, ∀ x ∈ l, f x = true → Ev te ((wipe σ vs).set j (some (enc x))) (upd H d (.frz od (.dK kvs))) (g x)) :
    EvL (tLockE (tLc (iVals td) (gName j) t te vs)) σ H ((l.filter f).map g) := fun H1 e Q q =>
  ⟨d, .dK kvs, e _ _ hd, trivial, fun od => lcV_core l enc f g (hσ od) hk hz hw (ht od) (he od) hd H1 e _ fun p H' hp e1 h1 h2 => ⟨h1, q p _ hp e1 h2⟩⟩
end
theorem maxL_le : ∀ {ns : List Int} {d b : Int}, d ≤ b → (∀ n ∈ ns, n ≤ b) → maxL d ns ≤ b
  | [], d, b, h, _ => h
  | y :: ys, d, b, _, h => by
    have key : ∀ (l : List Int) (a : Int), a ≤ b → (∀ n ∈ l, n ≤ b) → l.foldl max a ≤ b := by
      intro l
      induction l with
      | nil => exact fun a h _ => h
      | cons x l ih => exact fun a h hx => ih _ (Int.max_le.mpr ⟨h, hx x List.mem_cons_self⟩) fun n hn => hx n (List.mem_cons_of_mem _ hn)
    exact key ys y (h y List.mem_cons_self) fun n hn => h n (List.mem_cons_of_mem _ hn)
theorem maxL_ge : ∀ {ns : List Int} {d : Int} {n : Int}, n ∈ ns → n ≤ maxL d ns
  | y :: ys, d, n, h => by
    have key : ∀ (l : List Int) (a : Int), a ≤ l.foldl max a ∧ ∀ n ∈ l, n ≤ l.foldl max a := by
      intro l
      induction l with
      | nil => exact fun a => ⟨Int.le_refl _, fun _ h => (by cases h)⟩
      | cons x l ih =>
        intro a
        obtain ⟨h1, h2⟩ := ih (max a x)
        refine ⟨Int.le_trans (Int.le_max_left _ _) h1, fun n hn => ?_⟩
        rcases List.mem_cons.mp hn with rfl | hn
        · exact Int.le_trans (Int.le_max_right _ _) h1
        · exact h2 n hn
    rcases List.mem_cons.mp h with rfl | h
    · exact (key ys n).1
    · exact (key ys y).2 n h
end Ik

namespace Ik
open PySem PySem.Spec PyProof.Rows L2 Evl
/-! ### == of two lists of tuples -/
def TupEq (K : PySem.W.Frag) (H : Hp) (n : Nat) (x y : V) : Prop := ∃ a b xs ys, x = .ref a ∧ y = .ref b ∧ SqT K H a xs ∧ SqT K H b ys ∧ Paired (EqV K H n) xs ys
section
variable {X : Cx} {pins : List (Addr × Obj)} {σ : L2.St} {H : Hp} {s : Shared}
theorem tupEq_run (I : Inv X pins σ H s) {n : Nat} {A : Around} (hu : A.units + 1 + n < cLine) : ∀ (x y : V) (v u : Value), TupEq X.K H n x y → RelV x v → RelV y u → SeqAt.EqP X.prog X.w A s v u true := by
  intro x y v u h rx ry
  obtain ⟨a, b, xs, ys, rfl, rfl, ha, hb, hp⟩ := h
  cases (show v = Value.ref a from rx)
  cases (show u = Value.ref b from ry)
  by_cases e : a = b
  · subst e
    exact (SeqAt.EqAt.same _).eqP
  · refine SeqAt.eqP_refs e fun E Q q => ?_
    obtain ⟨us, r1, p1, _⟩ := I.tuple ha
    obtain ⟨ws, r2, p2, _⟩ := I.tuple hb
    have hsz : us.toArray.size = ws.toArray.size := by
      rw [List.size_toArray, List.size_toArray, ← r1.length, ← r2.length]
      exact Paired.length hp
    refine SeqAt.rcIn_tuples (e := fun _ => true) p1 p2 (by omega) (fun j h1 h2 => ?_) ?_
    · have k := items_run (fun x y v u f r r' => eqV_run I n A.in1 (by show A.units + 1 + n < cLine; omega) x y v u f r r') hp r1 r2 j (by simpa using h1) (by simpa using h2)
      show SeqAt.EqP X.prog X.w A.in1 s us.toArray[j] ws.toArray[j] true
      simpa using k
    · rw [show ((List.range (min us.toArray.size ws.toArray.size)).all fun _ => true) = true from List.all_eq_true.mpr fun _ _ => rfl, hsz, beq_self_eq_true]
      exact q
end
def rEqLT (K : PySem.W.Frag) : R2 := fun x y H Q => ∃ n a b xs ys, n ≤ 50 ∧ x = .ref a ∧ y = .ref b ∧ SqL K H a xs ∧ SqL K H b ys ∧ Paired (TupEq K H n) xs ys ∧ Q (.bl true) H
theorem op_eqLT {X : Cx} (hu : X.A.units + 64 < cLine) : OpR X (compareOp .Eq) (rEqLT X.K) := by
  intro pins s σ H x y v u Q I rx ry h
  obtain ⟨n, a, b, xs, ys, hn, rfl, rfl, ha, hb, hp, q⟩ := h
  cases (show v = Value.ref a from rx)
  cases (show u = Value.ref b from ry)
  obtain ⟨us, r1, p1, _⟩ := I.list ha
  obtain ⟨ws, r2, p2, _⟩ := I.list hb
  have hsz : us.toArray.size = ws.toArray.size := by
    rw [List.size_toArray, List.size_toArray, ← r1.length, ← r2.length]
    exact Paired.length hp
  refine SeqAt.rcP_lists (e := fun _ => true) p1.isList p2.isList hsz (by omega) (fun j h1 h2 => ?_) _ _ ?_
  · have k := items_run (tupEq_run I (A := X.A.in1) (by show X.A.units + 1 + 1 + n < cLine; omega)) hp r1 r2 j (by simpa using h1) (by simpa using h2)
    simpa using k
  · rw [show ((List.range us.toArray.size).all fun _ => true) = true from List.all_eq_true.mpr fun _ _ => rfl]
    exact ⟨.bl true, H, I, rfl, q⟩
/-! ### a new list of new triples: a dict, a list, a list -/
structure Trip where
  g : List (Key × V)
  m : List V
  p : List V
def TripAt (H H' : Hp) (Dl : Addr) (t : Addr) (x : Trip) : Prop := ∃ d l1 l2, H' t = some (.tup [.ref d, .ref l1, .ref l2]) ∧ H' d = some (.dK x.g) ∧ H' l1 = some (.lst x.m) ∧ H' l2 = some (.lst x.p) ∧ H t = none ∧ H d = none ∧ H l1 = none ∧ H l2 = none ∧ l1 ≠ Dl ∧ l2 ≠ Dl
def CwT {α : Type} (H : Hp) (l : List α) (g : α → Trip) (Dl : Addr) (i : Nat) (H' : Hp) : Prop := H Dl = none ∧ Ex H H' ∧ ∃ ps : List Addr, H' Dl = some (.lst (ps.map V.ref)) ∧ Paired (TripAt H H' Dl) ps ((l.take i).map g)
section
variable {K : PySem.W.Frag} {σ : L2.St} {H H' : Hp} {te tl : TE} {D : Ends} {tz : TS}
/-- what makes one triple -/
def EvTr (te : TE) (σ : L2.St) (H : Hp) (x : Trip) : Prop := ∀ H1, Ex H H1 → ∀ Q : VK, (∀ t d l1 l2 H2, H1 t = none → H1 d = none → H1 l1 = none → H1 l2 = none → Ex H1 H2 → H2 t = some (.tup [.ref d, .ref l1, .ref l2]) → H2 d = some (.dK x.g) → H2 l1 = some (.lst x.m) → H2 l2 = some (.lst x.p) → Q (.ref t) H2) → te σ H1 Q
theorem etr_mk {ta tb tc : TE} {x : Trip} (ha : EvD ta σ H x.g) (hb : EvL tb σ H x.m) (hc : EvL tc σ H x.p) : EvTr (tTup (tCons ta (tCons tb (tCons tc tNil)))) σ H x := fun H1 e Q q =>
  ha H1 e _ fun d H2 hd e2 g2 => hb H2 (e.trans e2) _ fun l1 H3 h1 e3 g3 => hc H3 ((e.trans e2).trans e3) _ fun l2 H4 h2 e4 g4 => ⟨sz_of (by show 3 ≤ 100000; decide), fun t ht => by
    have e14 := (e2.trans e3).trans e4
    have e5 : Ex H4 (upd H4 t (.tup [.ref d, .ref l1, .ref l2])) := Ex.new ht
    exact q t d l1 l2 _ (fresh_back e14 ht) hd (fresh_back e2 h1) (fresh_back (e2.trans e3) h2) (e14.trans e5) upd_same (((e3.trans e4).trans e5) _ _ g2) ((e4.trans e5) _ _ g3) (e5 _ _ g4)⟩
theorem cwT_turn {α : Type} {l : List α} {g : α → Trip} {Dl : Addr} {i : Nat} {x : α} {σ2 : L2.St} (p : CwT H l g Dl i H') (hi : l[i]? = some x) (hz : l.length < 50000) (he : EvTr te σ2 H (g x)) :
    tYes σ2 H' fun b H3 => if b = true then te σ2 H3 fun y H4 => ∃ acc, H4 Dl = some (.lst acc) ∧ acc.length < sizeLine ∧ CwT H l g Dl (i + 1) (upd H4 Dl (.lst (acc ++ [y]))) else CwT H l g Dl (i + 1) H3 := by
  obtain ⟨p1, p2, ps, p3, p4⟩ := p
  have hlt : i < l.length := (List.getElem?_eq_some_iff.mp hi).1
  have hlen : (ps.map V.ref).length ≤ l.length := by
    rw [List.length_map, paired_len p4, List.length_map, List.length_take]
    omega
  show te σ2 H' fun y H4 => ∃ acc, H4 Dl = some (.lst acc) ∧ acc.length < sizeLine ∧ CwT H l g Dl (i + 1) (upd H4 Dl (.lst (acc ++ [y])))
  refine he H' p2 _ fun t d l1 l2 H4 ht hd h1 h2 e4 g0 g1 g2 g3 => ⟨_, e4 Dl _ p3, sz_lt (by omega), p1, Ex.mut (p2.trans e4) p1, ps ++ [t], ?_, ?_⟩
  · rw [upd_same, List.map_append]
    rfl
  · have keep : ∀ {b o}, b ≠ Dl → H4 b = some o → upd H4 Dl (.lst (ps.map V.ref ++ [.ref t])) b = some o := fun hb z => by
      rw [upd_ne hb]
      exact z
    have ne : ∀ {b}, H' b = none → b ≠ Dl := fun hb z => by
      rw [z, p3] at hb
      cases hb
    rw [take_snoc hi, List.map_append]
    refine paired_snoc ⟨d, l1, l2, keep (ne ht) g0, keep (ne hd) g1, keep (ne h1) g2, keep (ne h2) g3, fresh_back p2 ht, fresh_back p2 hd, fresh_back p2 h1, fresh_back p2 h2, ne h1, ne h2⟩ (paired_imp (fun a kv z => ?_) p4)
    obtain ⟨d', l1', l2', z0, z1, z2, z3, f0, f1, f2, f3, n1, n2⟩ := z
    have n0 : a ≠ Dl := fun z => by
      rw [z, p3] at z0
      cases z0
    have n3 : d' ≠ Dl := fun z => by
      rw [z, p3] at z1
      cases z1
    exact ⟨d', l1', l2', keep n0 (e4 _ _ z0), keep n3 (e4 _ _ z1), keep n1 (e4 _ _ z2), keep n2 (e4 _ _ z3), f0, f1, f2, f3, n1, n2⟩
def EvTs (te : TE) (σ : L2.St) (H : Hp) (xs : List Trip) : Prop := ∀ H1, Ex H H1 → ∀ Q : VK, (∀ p H2 ps, H1 p = none → Ex H1 H2 → H2 p = some (.lst (ps.map V.ref)) → Paired (TripAt H1 H2 p) ps xs → Q (.ref p) H2) → te σ H1 Q
theorem trip_back {H0 : Hp} {p : Addr} (e : Ex H0 H) {t : Addr} {x : Trip} (h : TripAt H H' p t x) : TripAt H0 H' p t x := by
  obtain ⟨d, l1, l2, z0, z1, z2, z3, f0, f1, f2, f3, n1, n2⟩ := h
  exact ⟨d, l1, l2, z0, z1, z2, z3, fresh_back e f0, fresh_back e f1, fresh_back e f2, fresh_back e f3, n1, n2⟩
theorem ets_lc {α : Type} {a : Addr} {j : Nat} {vs : List Nat} (l : List α) (enc : α → V) (g : α → Trip) (h : Ev tl σ H (.ref a)) (hx : SqL K H a (l.map enc)) (hz : l.length < 50000) (hw : ∀ x, wipe ((wipe σ vs).set j (some x)) vs = wipe σ vs)
    (he : ∀ x ∈ l, ∀ H1, Ex H H1 → EvTr te ((wipe σ vs).set j (some (enc x))) H1 (g x)) : EvTs (tLc (iList K tl) (gName j) tYes te vs) σ H (l.map g) := fun H0 e Q q => h H0 e _ fun H1 e1 => ⟨a, rfl, ⟨_, ex_l (e.trans e1) hx⟩, fun Dl hD =>
  lc_list (xs := l.map enc) (CwT H1 l g Dl) ⟨hD, Ex.new hD, [], upd_same, .nil⟩ (fun i H' _ p => ex_l ((e.trans e1).trans p.2.1) hx) (fun i x H' hi p => by
    rw [List.getElem?_map] at hi
    cases hq : l[i]? with
    | none =>
      rw [hq] at hi
      cases hi
    | some b =>
      rw [hq] at hi
      have ex : enc b = x := Option.some.inj hi
      subst ex
      have hm : b ∈ l := List.mem_of_getElem? hq
      exact ⟨hw _, cwT_turn p hq hz (he b hm H1 (e.trans e1))⟩)
    (fun H' p => by
      obtain ⟨p1, p2, ps, p3, p4⟩ := p
      rw [List.length_map, List.take_length] at p4
      exact q Dl H' ps (fresh_back e1 p1) (e1.trans p2) p3 (paired_imp (fun t x z => trip_back e1 z) p4))⟩
theorem s_retTs {xs : List Trip} (h : EvTs te σ H xs) (k : ∀ p H1 ps, H p = none → Ex H H1 → H1 p = some (.lst (ps.map V.ref)) → Paired (TripAt H H1 p) ps xs → D.rt (.ref p) H1) : tRet te D σ H := h H (Ex.refl H) _ k
/-- name[j].clear() -/
theorem q_clear {d : Addr} {kvs : List (Key × V)} {to : TE} (hd : H d = some (.dK kvs)) (h : Ev to σ H (.ref d)) (k : ∀ H1, Ex H H1 → tz D σ (upd H1 d (.dK []))) : tSeq (tDrop (tBM0 K "dict" rDClear to)) tz D σ H :=
  h H (Ex.refl H) _ fun H1 e => ⟨.inr (.inr (.inl ⟨rfl, .inl ⟨_, e _ _ hd⟩⟩)), d, kvs, rfl, rfl, e _ _ hd, k H1 e⟩
end
end Ik

namespace Ik
open PySem PySem.Spec PyProof.Rows L2 Evl
/-! ### a night: rooms, wants, who was there ahead -/
def kd (cs : List Int) (r : Int) : Int := (kinds cs).getD r.toNat 0
/-- rooms of the house, rising -/
structure RoomsOk (cs rs : List Int) : Prop where
  ok : ∀ r ∈ rs, 0 ≤ r ∧ r < ((kinds cs).length : Int)
  inc : rs.Pairwise (· < ·)
/-- rooms of the house, each once -/
structure RoomsIn (cs rs : List Int) : Prop where
  ok : ∀ r ∈ rs, 0 ≤ r ∧ r < ((kinds cs).length : Int)
  nd : rs.Nodup
theorem RoomsOk.rin {cs rs : List Int} (h : RoomsOk cs rs) : RoomsIn cs rs := ⟨h.ok, h.inc.imp fun h => Int.ne_of_lt h⟩
/-- wants and what was had ahead, as pairs of a number and a kind, a number and a room -/
structure NightOk (cs rs : List Int) (wl al : List (Int × Int)) : Prop where
  rooms : RoomsOk cs rs
  wn : (wl.map (·.1)).Nodup
  an : (al.map (·.1)).Nodup
  wk : ∀ p ∈ wl, 0 ≤ p.2 ∧ p.2 < (cs.length : Int)
  ar : RoomsIn cs (al.map (·.2))
  had : ∀ p ∈ wl, ∀ q ∈ al, p.1 = q.1 → p.2 ≤ kd cs q.2
  few : wl.length ≤ 80
  fewa : al.length ≤ 80
theorem rooms_len {cs rs : List Int} (hh : House cs) (h : RoomsOk cs rs) : rs.length ≤ 54 := by
  -- rising, from 0 on, below 54
  have hk := kinds_le hh
  have key : ∀ (l : List Int) (b : Int), l.Pairwise (· < ·) → (∀ r ∈ l, b ≤ r ∧ r < ((kinds cs).length : Int)) → (l.length : Int) ≤ max 0 (((kinds cs).length : Int) - b) := by
    intro l
    induction l with
    | nil =>
      intro b _ _
      show (0 : Int) ≤ _
      omega
    | cons x r ih =>
      intro b hp hb
      obtain ⟨h1, h2⟩ := List.pairwise_cons.mp hp
      have hx := hb x List.mem_cons_self
      have := ih (x + 1) h2 fun y hy => ⟨by have := h1 y hy; omega, (hb y (List.mem_cons_of_mem _ hy)).2⟩
      rw [List.length_cons]
      omega
  have := key rs 0 h.inc h.ok
  omega
/-- how many of a list are of kind k or better -/
def atLeast (ks : List Int) (k : Int) : Nat := (ks.filter fun x => decide (k ≤ x)).length
/-- the least short kind: by what the wants are, and what the kinds of the rooms -/
def shortL (n : Nat) (ws ks : List Int) : Option Nat := (List.range n).find? fun k : Nat => decide (atLeast ks (k : Int) < atLeast ws (k : Int))
/-- the program's look: rooms from the first of a kind on -/
def shortP (cs rs ws : List Int) : Option Nat := (List.range cs.length).find? fun k : Nat => decide (atLeast rs (cs.take k).sum < atLeast ws (k : Int))
theorem filter_len_map {α β : Type} (f : α → β) (p : β → Bool) (l : List α) : ((l.map f).filter p).length = (l.filter (p ∘ f)).length := by
  rw [List.filter_map, List.length_map]
theorem atLeast_kd {cs rs : List Int} (hh : House cs) (h : RoomsOk cs rs) {k : Nat} (hk : k ≤ cs.length) : atLeast rs (cs.take k).sum = atLeast (rs.map (kd cs)) (k : Int) := by
  unfold atLeast
  rw [filter_len_map]
  congr 1
  refine List.filter_congr fun r hr => ?_
  have hb := h.ok r hr
  have hlt : r.toNat < (kinds cs).length := by omega
  have e := room_ge hh hk (r := r.toNat) (x := (kinds cs)[r.toNat]) (List.getElem?_eq_getElem hlt)
  have er : ((r.toNat : Nat) : Int) = r := by omega
  rw [er] at e
  show decide ((cs.take k).sum ≤ r) = decide ((k : Int) ≤ kd cs r)
  unfold kd
  rw [List.getD_eq_getElem?_getD, List.getElem?_eq_getElem hlt]
  exact decide_eq_decide.mpr e
theorem find_congr {α : Type} {p q : α → Bool} : ∀ {l : List α}, (∀ x ∈ l, p x = q x) → l.find? p = l.find? q
  | [], _ => rfl
  | x :: r, h => by
    rw [List.find?_cons, List.find?_cons, h x List.mem_cons_self, find_congr fun y hy => h y (List.mem_cons_of_mem _ hy)]
theorem shortP_eq {cs rs : List Int} (hh : House cs) (h : RoomsOk cs rs) (ws : List Int) : shortP cs rs ws = shortL cs.length ws (rs.map (kd cs)) :=
  find_congr fun k hk => by
    rw [atLeast_kd hh h (Nat.le_of_lt (List.mem_range.mp hk))]
theorem find_range {p : Nat → Bool} {n i : Nat} (hi : i < n) (hp : p i = true) (hn : ∀ j, j < i → p j = false) : (List.range n).find? p = some i := by
  obtain ⟨m, rfl⟩ : ∃ m, n = i + (m + 1) := ⟨n - i - 1, by omega⟩
  rw [List.range_add, List.find?_append, List.find?_eq_none.mpr fun x hx => by rw [hn x (List.mem_range.mp hx)]; decide, List.range_succ_eq_map, List.map_cons, List.find?_cons, Nat.add_zero, hp]
  rfl
theorem find_range_none {p : Nat → Bool} {n : Nat} (hn : ∀ j, j < n → p j = false) : (List.range n).find? p = none := List.find?_eq_none.mpr fun x hx => by rw [hn x (List.mem_range.mp hx)]; decide
/-! giving rooms, the greatest wants first -/
def Hall (n : Nat) (ws ks : List Int) : Prop := ∀ k : Nat, k < n → atLeast ws (k : Int) ≤ atLeast ks (k : Int)
theorem hall_iff {n : Nat} {ws ks : List Int} : Hall n ws ks ↔ shortL n ws ks = none := by
  unfold Hall shortL
  rw [List.find?_eq_none]
  constructor
  · intro h x hx
    have := h x (List.mem_range.mp hx)
    rw [decide_eq_true_eq]
    omega
  · intro h k hk
    have := h k (List.mem_range.mpr hk)
    rw [decide_eq_true_eq] at this
    omega
theorem atLeast_cons (x : Int) (r : List Int) (k : Int) : atLeast (x :: r) k = (if k ≤ x then 1 else 0) + atLeast r k := by
  unfold atLeast
  rw [List.filter_cons]
  by_cases h : k ≤ x
  · rw [if_pos (decide_eq_true h), if_pos h, List.length_cons, Nat.add_comm]
  · rw [if_neg (by rw [decide_eq_false h]; decide), if_neg h, Nat.zero_add]
theorem atLeast_erase : ∀ {ks : List Int} {j : Nat} {x : Int} (k : Int), ks[j]? = some x → atLeast ks k = (if k ≤ x then 1 else 0) + atLeast (ks.eraseIdx j) k
  | [], j, x, k, h => by simp at h
  | y :: r, 0, x, k, h => by
    have e : y = x := Option.some.inj h
    subst e
    exact atLeast_cons y r k
  | y :: r, j + 1, x, k, h => by
    have ih := atLeast_erase k (ks := r) (j := j) (x := x) h
    show atLeast (y :: r) k = _ + atLeast (y :: r.eraseIdx j) k
    rw [atLeast_cons, atLeast_cons, ih]
    omega
theorem atLeast_zero {ws : List Int} {k : Int} (h : ∀ w ∈ ws, w < k) : atLeast ws k = 0 := by
  unfold atLeast
  rw [filter_none]
  · rfl
  · intro w hw
    have := h w hw
    rw [decide_eq_false_iff_not]
    omega
/-- one want more, the greatest, with a room that will do -/
theorem hall_step {n : Nat} {w x : Int} {ws ks : List Int} {j : Nat} (hge : ∀ y ∈ ws, y ≤ w) (hj : ks[j]? = some x) (hx : w ≤ x) : Hall n (w :: ws) ks ↔ Hall n ws (ks.eraseIdx j) := by
  unfold Hall
  refine forall_congr' fun k => forall_congr' fun _ => ?_
  have e1 := atLeast_cons w ws (k : Int)
  have e2 := atLeast_erase (k : Int) hj
  rw [e1, e2]
  by_cases h1 : (k : Int) ≤ w
  · rw [if_pos h1, if_pos (by omega)]
    omega
  · rw [if_neg h1]
    have e0 : atLeast ws (k : Int) = 0 := atLeast_zero fun y hy => by
      have := hge y hy
      omega
    rw [e0]
    constructor <;> intro _ <;> omega
theorem hall_none {n : Nat} {w : Int} {ws ks : List Int} (h0 : 0 ≤ w) (hw : w < (n : Int)) (hx : ∀ x ∈ ks, ¬ w ≤ x) : ¬ Hall n (w :: ws) ks := fun h => by
  have q := h w.toNat (by omega)
  rw [show ((w.toNat : Nat) : Int) = w by omega, atLeast_cons, if_pos (Int.le_refl w), atLeast_zero (ws := ks) fun x hm => by have := hx x hm; omega] at q
  omega
theorem atLeast_perm {xs ys : List Int} (p : xs.Perm ys) (k : Int) : atLeast xs k = atLeast ys k := (p.filter _).length_eq
theorem hall_perm {n : Nat} {xs ys ks : List Int} (p : xs.Perm ys) : Hall n xs ks ↔ Hall n ys ks := by
  unfold Hall
  refine forall_congr' fun k => forall_congr' fun _ => ?_
  rw [atLeast_perm p]
theorem first_at : ∀ {ns : List Int} {k : Int}, k ∈ ns → ∃ j : Nat, ns[j]? = some k ∧ ∀ m : Nat, m < j → ns[m]? ≠ some k
  | x :: r, k, h => by
    by_cases e : x = k
    · subst e
      exact ⟨0, rfl, fun m hm => absurd hm (Nat.not_lt_zero m)⟩
    · rcases List.mem_cons.mp h with h | h
      · exact absurd h.symm e
      · obtain ⟨j, h1, h2⟩ := first_at h
        refine ⟨j + 1, h1, fun m hm => ?_⟩
        cases m with
        | zero => exact fun z => e (Option.some.inj z)
        | succ m => exact h2 m (by omega)
theorem map_eraseIdx {α β : Type} (f : α → β) : ∀ (l : List α) (j : Nat), (l.eraseIdx j).map f = (l.map f).eraseIdx j
  | [], _ => rfl
  | _ :: _, 0 => rfl
  | x :: r, j + 1 => by
    show f x :: (r.eraseIdx j).map f = f x :: (r.map f).eraseIdx j
    rw [map_eraseIdx f r j]
theorem short_nil (n : Nat) (ks : List Int) : shortL n [] ks = none := by
  unfold shortL
  refine List.find?_eq_none.mpr fun k _ => ?_
  rw [decide_eq_true_eq]
  exact Nat.not_lt_zero _
end Ik

namespace Ik
/-! ### papers: plain lists. A reach is (want, kind of the room ahead), of one whose room ahead is among the rooms -/
def inWay (k : Int) (p : Int × Int) : Bool := decide (p.1 < k) && decide (k ≤ p.2)
/-- how many of the paper's kinds one stands in the way of -/
def often (P : List Int) (p : Int × Int) : Nat := (P.filter fun k => inWay k p).length
/-- how many stand in the way of a kind -/
def cnt (S : List (Int × Int)) (k : Int) : Nat := (S.filter (inWay k)).length
def hit (P : List Int) (p : Int × Int) : Bool := decide (0 < often P p)
theorem often_cons (k : Int) (P : List Int) (p : Int × Int) : often (k :: P) p = (if inWay k p = true then 1 else 0) + often P p := by
  unfold often
  rw [List.filter_cons]
  split
  · rw [List.length_cons, Nat.add_comm]
  · rw [Nat.zero_add]
theorem cnt_cons (p : Int × Int) (S : List (Int × Int)) (k : Int) : cnt (p :: S) k = (if inWay k p = true then 1 else 0) + cnt S k := by
  unfold cnt
  rw [List.filter_cons]
  split
  · rw [List.length_cons, Nat.add_comm]
  · rw [Nat.zero_add]
theorem sum_cnt_cons (p : Int × Int) (S : List (Int × Int)) : ∀ P : List Int, (P.map (cnt (p :: S))).sum = often P p + (P.map (cnt S)).sum
  | [] => rfl
  | k :: P => by
    rw [List.map_cons, List.map_cons, List.sum_cons, List.sum_cons, sum_cnt_cons p S P, cnt_cons, often_cons]
    omega
/-- counted by kinds or by guests -/
theorem sum_cnt (P : List Int) : ∀ S : List (Int × Int), (P.map (cnt S)).sum = (S.map (often P)).sum
  | [] => by
    have e : P.map (cnt []) = P.map fun _ => 0 := rfl
    rw [e]
    induction P with
    | nil => rfl
    | cons k r ih =>
      rw [List.map_cons, List.sum_cons, ih rfl]
      rfl
  | p :: S => by
    rw [sum_cnt_cons, sum_cnt P S, List.map_cons, List.sum_cons]
theorem len_le_hits (P : List Int) : ∀ S : List (Int × Int), S.length ≤ (S.map (often P)).sum + (S.filter fun p => !hit P p).length
  | [] => Nat.le_refl _
  | p :: S => by
    have ih := len_le_hits P S
    rw [List.length_cons, List.map_cons, List.sum_cons, List.filter_cons]
    by_cases h : 0 < often P p
    · rw [if_neg (by unfold hit; rw [decide_eq_true h]; decide)]
      omega
    · rw [if_pos (by unfold hit; rw [decide_eq_false h]; rfl), List.length_cons]
      omega
/-- the number of a paper: both: how many want and were there; rch: the reaches; ws, ks: kinds wanted, kinds of rooms -/
def paperN (both : Nat) (rch : List (Int × Int)) (ws ks P : List Int) : Int :=
  ((both : Int) - rch.length) + (P.map fun k => (atLeast ws k : Int) - atLeast ks k).sum + (rch.map fun p => (often P p : Int) - max 0 ((often P p : Int) - 1)).sum
theorem hits_sum (P : List Int) : ∀ rch : List (Int × Int), (rch.map fun p => (often P p : Int) - max 0 ((often P p : Int) - 1)).sum = ((rch.filter (hit P)).length : Int)
  | [] => rfl
  | p :: r => by
    rw [List.map_cons, List.sum_cons, hits_sum P r, List.filter_cons]
    by_cases h : 0 < often P p
    · rw [if_pos (show hit P p = true from decide_eq_true h), List.length_cons]
      omega
    · rw [if_neg (show ¬ hit P p = true by unfold hit; rw [decide_eq_false h]; decide)]
      omega
theorem filter_both {α : Type} (f : α → Bool) : ∀ l : List α, (l.filter f).length + (l.filter fun x => !f x).length = l.length
  | [] => rfl
  | x :: r => by
    have ih := filter_both f r
    rw [List.filter_cons, List.filter_cons]
    cases f x with
    | true =>
      rw [if_pos rfl, if_neg (by decide), List.length_cons, List.length_cons]
      omega
    | false =>
      rw [if_neg (by decide), if_pos (show (!false) = true from rfl), List.length_cons, List.length_cons]
      omega
theorem sum_neg (ws ks : List Int) : ∀ P : List Int, (P.map fun k => (atLeast ws k : Int) - atLeast ks k).sum = - (P.map fun k => (atLeast ks k : Int) - atLeast ws k).sum
  | [] => rfl
  | k :: P => by
    rw [List.map_cons, List.map_cons, List.sum_cons, List.sum_cons, sum_neg ws ks P]
    omega
theorem sum_le_cap {S : List (Int × Int)} {ws ks : List Int} : ∀ {P : List Int}, (∀ k ∈ P, (cnt S k : Int) ≤ (atLeast ks k : Int) - atLeast ws k) → (((P.map (cnt S)).sum : Nat) : Int) ≤ (P.map fun k => (atLeast ks k : Int) - atLeast ws k).sum
  | [], _ => Int.le_refl _
  | k :: P, h => by
    have ih := sum_le_cap (P := P) fun x hx => h x (List.mem_cons_of_mem _ hx)
    have hk := h k List.mem_cons_self
    rw [List.map_cons, List.map_cons, List.sum_cons, List.sum_cons]
    omega
/-- those who stay: of the reaches, and at each kind of the paper there is room for those in its way. No fewer are moved than the paper's number -/
theorem paper_le {both : Nat} {rch S : List (Int × Int)} {ws ks P : List Int} (hS : ∀ f : Int × Int → Bool, (S.filter f).length ≤ (rch.filter f).length) (hP : ∀ k ∈ P, (cnt S k : Int) ≤ (atLeast ks k : Int) - atLeast ws k) :
    paperN both rch ws ks P ≤ (both : Int) - S.length := by
  unfold paperN
  rw [hits_sum, sum_neg]
  have h1 := sum_le_cap hP
  have h2 := len_le_hits P S
  have h3 := filter_both (hit P) rch
  have h4 := hS fun p => !hit P p
  rw [sum_cnt] at h1
  omega
/-- and just that many, where each who stays is in the way of one kind or none, each other of one at least, and each kind is full -/
theorem hits_one {P : List Int} : ∀ {S : List (Int × Int)}, (∀ p ∈ S, often P p ≤ 1) → (S.map (often P)).sum + (S.filter fun p => !hit P p).length = S.length
  | [], _ => rfl
  | p :: S, h => by
    have ih := hits_one (P := P) (S := S) fun x hx => h x (List.mem_cons_of_mem _ hx)
    have hp := h p List.mem_cons_self
    rw [List.length_cons, List.map_cons, List.sum_cons, List.filter_cons]
    by_cases q : 0 < often P p
    · rw [if_neg (by unfold hit; rw [decide_eq_true q]; decide)]
      omega
    · rw [if_pos (by unfold hit; rw [decide_eq_false q]; rfl), List.length_cons]
      omega
theorem sum_eq_cap {S : List (Int × Int)} {ws ks : List Int} : ∀ {P : List Int}, (∀ k ∈ P, (cnt S k : Int) = (atLeast ks k : Int) - atLeast ws k) → (((P.map (cnt S)).sum : Nat) : Int) = (P.map fun k => (atLeast ks k : Int) - atLeast ws k).sum
  | [], _ => rfl
  | k :: P, h => by
    have ih := sum_eq_cap (P := P) fun x hx => h x (List.mem_cons_of_mem _ hx)
    have hk := h k List.mem_cons_self
    rw [List.map_cons, List.map_cons, List.sum_cons, List.sum_cons]
    omega
theorem paper_eq {both : Nat} {rch S : List (Int × Int)} {ws ks P : List Int} (hN : (S.filter fun p => !hit P p).length = (rch.filter fun p => !hit P p).length) (h1 : ∀ p ∈ S, often P p ≤ 1) (hP : ∀ k ∈ P, (cnt S k : Int) = (atLeast ks k : Int) - atLeast ws k) :
    paperN both rch ws ks P = (both : Int) - S.length := by
  unfold paperN
  rw [hits_sum, sum_neg]
  have e1 := sum_eq_cap hP
  have e2 := hits_one h1
  have e3 := filter_both (hit P) rch
  rw [sum_cnt] at e1
  omega
/-- of a list without one twice, all in another one, no more are so and so than there -/
theorem nodup_count {α : Type} [DecidableEq α] (f : α → Bool) : ∀ {xs ys : List α}, xs.Nodup → (∀ x ∈ xs, x ∈ ys) → (xs.filter f).length ≤ (ys.filter f).length
  | [], _, _, _ => Nat.zero_le _
  | x :: r, ys, hn, hs => by
    obtain ⟨h1, h2⟩ := List.nodup_cons.mp hn
    have hx : x ∈ ys := hs x List.mem_cons_self
    have p := List.perm_cons_erase hx
    have ih := nodup_count f (xs := r) (ys := ys.erase x) h2 fun y hy => by
      have hne : y ≠ x := fun z => h1 (z ▸ hy)
      exact (List.mem_erase_of_ne hne).mpr (hs y (List.mem_cons_of_mem _ hy))
    rw [(p.filter f).length_eq, List.filter_cons, List.filter_cons]
    split
    · rw [List.length_cons, List.length_cons]
      omega
    · exact ih
/-- who has a room: (want, kind of the room that is given). At each kind: those who stay and are in its way have rooms that those who want it or better have not -/
theorem room_for {A : List (Int × Int)} {ks : List Int} {k : Int} (hA : ∀ p ∈ A, p.1 ≤ p.2) (hr : ((A.filter fun p => decide (k ≤ p.2)).length : Int) ≤ atLeast ks k) : (cnt A k : Int) ≤ (atLeast ks k : Int) - atLeast (A.map fun p => p.1) k := by
  have e : ∀ B : List (Int × Int), (∀ p ∈ B, p.1 ≤ p.2) → cnt B k + atLeast (B.map fun p => p.1) k = (B.filter fun p => decide (k ≤ p.2)).length := by
    intro B
    induction B with
    | nil =>
      intro _
      rfl
    | cons p r ih =>
      intro h
      have hp := h p List.mem_cons_self
      have ih := ih fun x hx => h x (List.mem_cons_of_mem _ hx)
      rw [cnt_cons, List.map_cons, atLeast_cons, List.filter_cons]
      unfold inWay
      by_cases q1 : k ≤ p.2
      · by_cases q2 : p.1 < k
        · rw [if_pos (by rw [decide_eq_true q1, decide_eq_true q2]; rfl), if_neg (by omega), if_pos (decide_eq_true q1), List.length_cons]
          omega
        · rw [if_neg (by rw [decide_eq_false q2, Bool.false_and]; decide), if_pos (by omega), if_pos (decide_eq_true q1), List.length_cons]
          omega
      · rw [if_neg (by rw [decide_eq_false q1, Bool.and_false]; decide), if_neg (by omega), if_neg (by rw [decide_eq_false q1]; decide)]
        omega
  have := e A hA
  omega
end Ik

namespace Ik
/-! ### kind by kind: where too many would stay, those whose rooms are best leave; a paper for that -/
/-- c: how many may stay in the way of a kind. Those who are there, who stay in the end, who left -/
inductive Sweep (c : Int → Int) : List Int → List (Int × Int) → List (Int × Int) → List (Int × Int) → Prop where
  | nil {A : List (Int × Int)} : Sweep c [] A A []
  | cons {k : Int} {ks : List Int} {A A' D S Ds : List (Int × Int)} (p : A.Perm (A' ++ D)) (fits : (cnt A' k : Int) ≤ c k) (full : D ≠ [] → (cnt A' k : Int) = c k) (inD : ∀ d ∈ D, inWay k d = true) (best : ∀ d ∈ D, ∀ q ∈ A', inWay k q = true → q.2 ≤ d.2)
      (s : Sweep c ks A' S Ds) : Sweep c (k :: ks) A S (D ++ Ds)
variable {c : Int → Int}
theorem Sweep.perm {ks : List Int} {A S Ds : List (Int × Int)} (h : Sweep c ks A S Ds) : A.Perm (S ++ Ds) := by
  induction h with
  | nil => rw [List.append_nil]
  | @cons k ks A A' D S Ds p _ _ _ _ _ ih =>
    refine p.trans ?_
    refine (ih.append_right D).trans ?_
    rw [List.append_assoc]
    exact List.Perm.append_left S List.perm_append_comm
theorem cnt_perm {A B : List (Int × Int)} (p : A.Perm B) (k : Int) : cnt A k = cnt B k := (p.filter _).length_eq
theorem cnt_append (A B : List (Int × Int)) (k : Int) : cnt (A ++ B) k = cnt A k + cnt B k := by
  unfold cnt
  rw [List.filter_append, List.length_append]
theorem Sweep.fit {ks : List Int} {A S Ds : List (Int × Int)} (h : Sweep c ks A S Ds) : ∀ k ∈ ks, (cnt S k : Int) ≤ c k := by
  induction h with
  | nil =>
    intro k hk
    cases hk
  | @cons k ks A A' D S Ds p fits _ _ _ s ih =>
    intro x hx
    rcases List.mem_cons.mp hx with rfl | hx
    · have e := cnt_perm s.perm x
      rw [cnt_append] at e
      omega
    · exact ih x hx
theorem often_pos {P : List Int} {p : Int × Int} : hit P p = true ↔ ∃ k ∈ P, inWay k p = true := by
  unfold hit often
  rw [decide_eq_true_eq, List.length_pos_iff_exists_mem]
  constructor
  · rintro ⟨k, hk⟩
    obtain ⟨h1, h2⟩ := List.mem_filter.mp hk
    exact ⟨k, h1, h2⟩
  · rintro ⟨k, h1, h2⟩
    exact ⟨k, List.mem_filter.mpr ⟨h1, h2⟩⟩
theorem inWay_iff {k : Int} {p : Int × Int} : inWay k p = true ↔ p.1 < k ∧ k ≤ p.2 := by
  unfold inWay
  rw [Bool.and_eq_true, decide_eq_true_eq, decide_eq_true_eq]
/-- the paper: each who left is in the way of one of its kinds, each who stays of one at most, its kinds are full -/
theorem Sweep.paper {ks : List Int} {A S Ds : List (Int × Int)} (h : Sweep c ks A S Ds) : ks.Pairwise (· < ·) → ∃ P : List Int, P.Sublist ks ∧ (∀ d ∈ Ds, hit P d = true) ∧ (∀ p ∈ S, often P p ≤ 1) ∧ ∀ k ∈ P, (cnt S k : Int) = c k := by
  induction h with
  | nil =>
    intro _
    refine ⟨[], List.Sublist.slnil, fun d hd => ?_, fun p _ => Nat.zero_le _, fun k hk => ?_⟩
    · cases hd
    · cases hk
  | @cons k ks A A' D S Ds p fits full inD best s ih =>
    intro hs
    obtain ⟨hlt, hs'⟩ := List.pairwise_cons.mp hs
    obtain ⟨P, h1, h2, h3, h4⟩ := ih hs'
    have hmem : ∀ x, x ∈ S ++ Ds → x ∈ A' := fun x hx => s.perm.symm.subset hx
    by_cases hD : D = []
    · subst hD
      exact ⟨P, h1.cons k, fun d hd => h2 d hd, h3, h4⟩
    · by_cases hq : ∃ q ∈ A', inWay k q = true ∧ hit P q = true
      · obtain ⟨q, hqA, hqk, hqP⟩ := hq
        obtain ⟨y, hy, hyq⟩ := often_pos.mp hqP
        refine ⟨P, h1.cons k, fun d hd => ?_, h3, h4⟩
        rcases List.mem_append.mp hd with hd | hd
        · have hb := best d hd q hqA hqk
          have hk := inWay_iff.mp (inD d hd)
          have hyq := inWay_iff.mp hyq
          have hky := hlt y (h1.subset hy)
          exact often_pos.mpr ⟨y, hy, inWay_iff.mpr ⟨by omega, by omega⟩⟩
        · exact h2 d hd
      · have hno : ∀ q ∈ A', inWay k q = true → hit P q = false := fun q hqA hqk => by
          cases e : hit P q with
          | false => rfl
          | true => exact absurd ⟨q, hqA, hqk, e⟩ hq
        refine ⟨k :: P, h1.cons_cons k, fun d hd => ?_, fun x hx => ?_, fun y hy => ?_⟩
        · rcases List.mem_append.mp hd with hd | hd
          · exact often_pos.mpr ⟨k, List.mem_cons_self, inD d hd⟩
          · obtain ⟨y, hy, e⟩ := often_pos.mp (h2 d hd)
            exact often_pos.mpr ⟨y, List.mem_cons_of_mem _ hy, e⟩
        · rw [often_cons]
          by_cases e : inWay k x = true
          · have z := hno x (hmem x (List.mem_append_left _ hx)) e
            unfold hit at z
            rw [decide_eq_false_iff_not] at z
            rw [if_pos e]
            omega
          · rw [if_neg e, Nat.zero_add]
            exact h3 x hx
        · rcases List.mem_cons.mp hy with rfl | hy
          · have e := cnt_perm s.perm y
            rw [cnt_append] at e
            have e0 : cnt Ds y = 0 := by
              unfold cnt
              rw [filter_none]
              · rfl
              · intro d hd
                cases z : inWay y d with
                | false => rfl
                | true =>
                  have := hno d (hmem d (List.mem_append_right _ hd)) z
                  rw [h2 d hd] at this
                  cases this
            have := full hD
            omega
          · exact h4 y hy
/-- those of greatest second part can leave one by one, till no more than so many are left -/
theorem leave (k : Int) (m : Nat) : ∀ (n : Nat) (A : List (Int × Int)), cnt A k ≤ m + n → ∃ A' D : List (Int × Int), A.Perm (A' ++ D) ∧ cnt A' k ≤ m ∧ (D ≠ [] → cnt A' k = m) ∧ (∀ d ∈ D, inWay k d = true) ∧ ∀ d ∈ D, ∀ q ∈ A', inWay k q = true → q.2 ≤ d.2
  | 0, A, h => ⟨A, [], by rw [List.append_nil], by omega, fun z => absurd rfl z, fun d hd => (by cases hd), fun d hd => (by cases hd)⟩
  | n + 1, A, h => by
    by_cases hle : cnt A k ≤ m
    · exact ⟨A, [], by rw [List.append_nil], hle, fun z => absurd rfl z, fun d hd => (by cases hd), fun d hd => (by cases hd)⟩
    · -- the one with the best room
      have best : ∀ B : List (Int × Int), 0 < cnt B k → ∃ d ∈ B, inWay k d = true ∧ ∀ q ∈ B, inWay k q = true → q.2 ≤ d.2 := by
        intro B
        induction B with
        | nil =>
          intro z
          exact absurd z (Nat.lt_irrefl 0)
        | cons x r ih =>
          intro hpos
          by_cases hr : 0 < cnt r k
          · obtain ⟨d, hd, h1, h2⟩ := ih hr
            by_cases e : inWay k x = true ∧ d.2 ≤ x.2
            · refine ⟨x, List.mem_cons_self, e.1, fun q hq hk => ?_⟩
              rcases List.mem_cons.mp hq with rfl | hq
              · exact Int.le_refl _
              · have := h2 q hq hk
                omega
            · refine ⟨d, List.mem_cons_of_mem _ hd, h1, fun q hq hk => ?_⟩
              rcases List.mem_cons.mp hq with rfl | hq
              · have : ¬ d.2 ≤ q.2 := fun z => e ⟨hk, z⟩
                omega
              · exact h2 q hq hk
          · rw [cnt_cons] at hpos
            have hx : inWay k x = true := by
              by_cases e : inWay k x = true
              · exact e
              · rw [if_neg e] at hpos
                omega
            refine ⟨x, List.mem_cons_self, hx, fun q hq hk => ?_⟩
            rcases List.mem_cons.mp hq with rfl | hq
            · exact Int.le_refl _
            · exfalso
              refine hr ?_
              unfold cnt
              exact List.length_pos_iff_exists_mem.mpr ⟨q, List.mem_filter.mpr ⟨hq, hk⟩⟩
      obtain ⟨d, hd, hdk, hdb⟩ := best A (by omega)
      have p := List.perm_cons_erase hd
      have ec := cnt_perm p k
      rw [cnt_cons, if_pos hdk] at ec
      obtain ⟨A', D, p2, f1, f2, f3, f4⟩ := leave k m n (A.erase d) (by omega)
      have sub : ∀ x ∈ A' ++ D, x ∈ A := fun x hx => List.mem_of_mem_erase (p2.symm.subset hx)
      refine ⟨A', d :: D, ?_, f1, fun _ => ?_, fun x hx => ?_, fun x hx q hq hk => ?_⟩
      · exact p.trans ((p2.cons d).trans List.perm_middle.symm)
      · by_cases e : D = []
        · subst e
          rw [List.append_nil] at p2
          have := cnt_perm p2 k
          omega
        · exact f2 e
      · rcases List.mem_cons.mp hx with rfl | hx
        · exact hdk
        · exact f3 x hx
      · rcases List.mem_cons.mp hx with rfl | hx
        · exact hdb q (sub q (List.mem_append_left _ hq)) hk
        · exact f4 x hx q hq hk
theorem sweep_ex (hc : ∀ k, 0 ≤ c k) : ∀ (ks : List Int) (A : List (Int × Int)), ∃ S Ds, Sweep c ks A S Ds
  | [], A => ⟨A, [], .nil⟩
  | k :: ks, A => by
    obtain ⟨A', D, p, f1, f2, f3, f4⟩ := leave k (c k).toNat (cnt A k) A (by omega)
    obtain ⟨S, Ds, s⟩ := sweep_ex hc ks A'
    have h0 := hc k
    exact ⟨S, D ++ Ds, .cons p (by omega) (fun h => by have := f2 h; omega) f3 f4 s⟩
/-- a paper for those who stay (S), where each other one (Ds) stands in the way of a full kind, all who stay in whose way having no better rooms than it had -/
theorem paper_of {S Ds : List (Int × Int)} : ∀ {ks : List Int}, ks.Pairwise (· < ·) → ∃ P : List Int, P.Sublist ks ∧ (∀ d ∈ Ds, (∃ k ∈ ks, inWay k d = true ∧ (cnt S k : Int) = c k ∧ ∀ q ∈ S, inWay k q = true → q.2 ≤ d.2) → hit P d = true) ∧ (∀ p ∈ S, often P p ≤ 1) ∧ ∀ k ∈ P, (cnt S k : Int) = c k
  | [], _ => ⟨[], List.Sublist.slnil, fun d _ ⟨k, hk, _⟩ => (by cases hk), fun p _ => Nat.zero_le _, fun k hk => (by cases hk)⟩
  | k :: ks, hs => by
    obtain ⟨hlt, hs'⟩ := List.pairwise_cons.mp hs
    obtain ⟨P, h1, h2, h3, h4⟩ := paper_of (S := S) (Ds := Ds) hs'
    by_cases hfull : (cnt S k : Int) = c k
    · by_cases hq : ∃ q ∈ S, inWay k q = true ∧ hit P q = true
      · obtain ⟨q, hqA, hqk, hqP⟩ := hq
        obtain ⟨y, hy, hyq⟩ := often_pos.mp hqP
        refine ⟨P, h1.cons k, fun d hd ⟨x, hx, e1, e2, e3⟩ => ?_, h3, h4⟩
        rcases List.mem_cons.mp hx with rfl | hx
        · have hb := e3 q hqA hqk
          have hk := inWay_iff.mp e1
          have hyq := inWay_iff.mp hyq
          have hky := hlt y (h1.subset hy)
          exact often_pos.mpr ⟨y, hy, inWay_iff.mpr ⟨by omega, by omega⟩⟩
        · exact h2 d hd ⟨x, hx, e1, e2, e3⟩
      · refine ⟨k :: P, h1.cons_cons k, fun d hd ⟨x, hx, e1, e2, e3⟩ => ?_, fun x hx => ?_, fun y hy => ?_⟩
        · rcases List.mem_cons.mp hx with rfl | hx
          · exact often_pos.mpr ⟨x, List.mem_cons_self, e1⟩
          · obtain ⟨y, hy, e⟩ := often_pos.mp (h2 d hd ⟨x, hx, e1, e2, e3⟩)
            exact often_pos.mpr ⟨y, List.mem_cons_of_mem _ hy, e⟩
        · rw [often_cons]
          by_cases e : inWay k x = true
          · have z : hit P x = false := by
              cases w : hit P x with
              | false => rfl
              | true => exact absurd ⟨x, hx, e, w⟩ hq
            unfold hit at z
            rw [decide_eq_false_iff_not] at z
            rw [if_pos e]
            omega
          · rw [if_neg e, Nat.zero_add]
            exact h3 x hx
        · rcases List.mem_cons.mp hy with rfl | hy
          · exact hfull
          · exact h4 y hy
    · refine ⟨P, h1.cons k, fun d hd ⟨x, hx, e1, e2, e3⟩ => ?_, h3, h4⟩
      rcases List.mem_cons.mp hx with rfl | hx
      · exact absurd e2 hfull
      · exact h2 d hd ⟨x, hx, e1, e2, e3⟩
/-- the same from the best kind down: all who stay in whose way want no less than it -/
theorem paper_of_down {S Ds : List (Int × Int)} : ∀ {ks : List Int}, ks.Pairwise (· > ·) → ∃ P : List Int, P.Sublist ks ∧ (∀ d ∈ Ds, (∃ k ∈ ks, inWay k d = true ∧ (cnt S k : Int) = c k ∧ ∀ q ∈ S, inWay k q = true → d.1 ≤ q.1) → hit P d = true) ∧ (∀ p ∈ S, often P p ≤ 1) ∧ ∀ k ∈ P, (cnt S k : Int) = c k
  | [], _ => ⟨[], List.Sublist.slnil, fun d _ ⟨k, hk, _⟩ => (by cases hk), fun p _ => Nat.zero_le _, fun k hk => (by cases hk)⟩
  | k :: ks, hs => by
    obtain ⟨hlt, hs'⟩ := List.pairwise_cons.mp hs
    obtain ⟨P, h1, h2, h3, h4⟩ := paper_of_down (S := S) (Ds := Ds) hs'
    by_cases hfull : (cnt S k : Int) = c k
    · by_cases hq : ∃ q ∈ S, inWay k q = true ∧ hit P q = true
      · obtain ⟨q, hqA, hqk, hqP⟩ := hq
        obtain ⟨y, hy, hyq⟩ := often_pos.mp hqP
        refine ⟨P, h1.cons k, fun d hd ⟨x, hx, e1, e2, e3⟩ => ?_, h3, h4⟩
        rcases List.mem_cons.mp hx with rfl | hx
        · have hb := e3 q hqA hqk
          have hk := inWay_iff.mp e1
          have hyq := inWay_iff.mp hyq
          have hky : x > y := hlt y (h1.subset hy)
          exact often_pos.mpr ⟨y, hy, inWay_iff.mpr ⟨by omega, by omega⟩⟩
        · exact h2 d hd ⟨x, hx, e1, e2, e3⟩
      · refine ⟨k :: P, h1.cons_cons k, fun d hd ⟨x, hx, e1, e2, e3⟩ => ?_, fun x hx => ?_, fun y hy => ?_⟩
        · rcases List.mem_cons.mp hx with rfl | hx
          · exact often_pos.mpr ⟨x, List.mem_cons_self, e1⟩
          · obtain ⟨y, hy, e⟩ := often_pos.mp (h2 d hd ⟨x, hx, e1, e2, e3⟩)
            exact often_pos.mpr ⟨y, List.mem_cons_of_mem _ hy, e⟩
        · rw [often_cons]
          by_cases e : inWay k x = true
          · have z : hit P x = false := by
              cases w : hit P x with
              | false => rfl
              | true => exact absurd ⟨x, hx, e, w⟩ hq
            unfold hit at z
            rw [decide_eq_false_iff_not] at z
            rw [if_pos e]
            omega
          · rw [if_neg e, Nat.zero_add]
            exact h3 x hx
        · rcases List.mem_cons.mp hy with rfl | hy
          · exact hfull
          · exact h4 y hy
    · refine ⟨P, h1.cons k, fun d hd ⟨x, hx, e1, e2, e3⟩ => ?_, h3, h4⟩
      rcases List.mem_cons.mp hx with rfl | hx
      · exact absurd e2 hfull
      · exact h2 d hd ⟨x, hx, e1, e2, e3⟩
/-- some who stay, and a paper, that agree: so the most who can stay, and the greatest number of a paper -/
theorem agree {both : Nat} {rch : List (Int × Int)} {ws ks kinds : List Int} (hk : kinds.Pairwise (· < ·)) (hc : ∀ k ∈ kinds, 0 ≤ (atLeast ks k : Int) - atLeast ws k) :
    ∃ (S : List (Int × Int)) (P : List Int), (∃ Ds, rch.Perm (S ++ Ds)) ∧ (∀ k ∈ kinds, (cnt S k : Int) ≤ (atLeast ks k : Int) - atLeast ws k) ∧ P.Sublist kinds ∧ paperN both rch ws ks P = (both : Int) - S.length := by
  obtain ⟨S, Ds, s⟩ := sweep_ex (c := fun k => max 0 ((atLeast ks k : Int) - atLeast ws k)) (fun k => Int.le_max_left _ _) kinds rch
  obtain ⟨P, h1, h2, h3, h4⟩ := s.paper hk
  refine ⟨S, P, ⟨Ds, s.perm⟩, fun k hm => ?_, h1, paper_eq ?_ h3 fun k hm => ?_⟩
  · have a := s.fit k hm
    have b := hc k hm
    omega
  · have e := (s.perm.filter fun p => !hit P p).length_eq
    rw [List.filter_append, List.length_append, filter_none (l := Ds)] at e
    · exact e.symm
    · intro d hd
      rw [h2 d hd]
      rfl
  · have a := h4 k hm
    have b := hc k (h1.subset hm)
    omega
end Ik

namespace Ik
open PySem PySem.Spec PyProof.Rows L2 Evl
/-! ### a night's paper number, by the dicts' pairs -/
def lookI (l : List (Int × Int)) (n : Int) : Option Int := (l.find? fun p => decide (p.1 = n)).map fun p => p.2
theorem lookI_val (n : Int) : ∀ l : List (Int × Int), valV (l.map kvI) (Sum.inl n : Key) = (lookI l n).map V.int
  | [] => rfl
  | p :: r => by
    have ih := lookI_val n r
    unfold valV lookI at *
    rw [List.map_cons, List.find?_cons, List.find?_cons]
    by_cases h : p.1 = n
    · rw [decide_eq_true (show (kvI p).1 = (Sum.inl n : Key) by show (Sum.inl p.1 : Key) = Sum.inl n; rw [h]), decide_eq_true h]
      rfl
    · rw [decide_eq_false (show ¬ (kvI p).1 = (Sum.inl n : Key) from fun z => h (Sum.inl.inj z)), decide_eq_false h]
      exact ih
theorem lookI_some {l : List (Int × Int)} {n : Int} (h : n ∈ l.map fun p : Int × Int => p.1) : ∃ v, lookI l n = some v ∧ (n, v) ∈ l := by
  obtain ⟨p, hp, rfl⟩ := List.mem_map.mp h
  unfold lookI
  cases q : l.find? fun e => decide (e.1 = p.1) with
  | none => exact absurd (decide_eq_true rfl) (List.find?_eq_none.mp q p hp)
  | some x =>
    have h1 := List.find?_some (p := fun e : Int × Int => decide (e.1 = p.1)) q
    have h1 : x.1 = p.1 := of_decide_eq_true h1
    exact ⟨x.2, rfl, by rw [← h1]; exact List.mem_of_find?_eq_some q⟩
theorem lookI_in {l : List (Int × Int)} {n v : Int} (h : lookI l n = some v) : (n, v) ∈ l := by
  unfold lookI at h
  cases q : l.find? fun e => decide (e.1 = n) with
  | none =>
    rw [q] at h
    cases h
  | some x =>
    rw [q] at h
    have h1 := List.find?_some (p := fun e : Int × Int => decide (e.1 = n)) q
    have h1 : x.1 = n := of_decide_eq_true h1
    have h2 : x.2 = v := Option.some.inj h
    rw [← h1, ← h2]
    exact List.mem_of_find?_eq_some q
theorem lookI_mem : ∀ {l : List (Int × Int)} {p : Int × Int}, (l.map fun p : Int × Int => p.1).Nodup → p ∈ l → lookI l p.1 = some p.2
  | x :: r, p, hn, hp => by
    obtain ⟨h1, h2⟩ := List.nodup_cons.mp (show (x.1 :: r.map fun p : Int × Int => p.1).Nodup from hn)
    unfold lookI
    rw [List.find?_cons]
    rcases List.mem_cons.mp hp with rfl | hp
    · rw [decide_eq_true rfl]
      rfl
    · rw [decide_eq_false fun z => h1 (by rw [z]; exact List.mem_map.mpr ⟨p, hp, rfl⟩)]
      exact lookI_mem h2 hp
def wantOf (wl : List (Int × Int)) (n : Int) : Int := (lookI wl n).getD 0
def roomOf (al : List (Int × Int)) (n : Int) : Int := (lookI al n).getD 0
/-- had a room that is open -/
def there (rs : List Int) (al : List (Int × Int)) (n : Int) : Bool := match lookI al n with
  | some r => decide (r ∈ rs)
  | none => false
def bothL (wl al : List (Int × Int)) : List Int := (wl.map fun p : Int × Int => p.1).filter fun n => (lookI al n).isSome
def reachL (cs rs : List Int) (wl al : List (Int × Int)) : List (Int × Int) := ((wl.map fun p : Int × Int => p.1).filter (there rs al)).map fun n => (wantOf wl n, kd cs (roomOf al n))
def numberN (cs rs : List Int) (wl al : List (Int × Int)) (P : List Int) : Int := paperN (bothL wl al).length (reachL cs rs wl al) (wl.map fun p : Int × Int => p.2) (rs.map (kd cs)) P
/-- a rising list of kinds, each once -/
structure PaperOk (cs P : List Int) : Prop where
  ok : ∀ k ∈ P, 0 ≤ k ∧ k < (cs.length : Int)
  inc : P.Pairwise (· < ·)
theorem paper_len {cs P : List Int} (hh : House cs) (h : PaperOk cs P) : P.length ≤ 6 := by
  have hle := hh.le
  have key : ∀ (l : List Int) (b : Int), l.Pairwise (· < ·) → (∀ r ∈ l, b ≤ r ∧ r < (cs.length : Int)) → (l.length : Int) ≤ max 0 ((cs.length : Int) - b) := by
    intro l
    induction l with
    | nil =>
      intro b _ _
      show (0 : Int) ≤ _
      omega
    | cons x r ih =>
      intro b hp hb
      obtain ⟨h1, h2⟩ := List.pairwise_cons.mp hp
      have hx := hb x List.mem_cons_self
      have := ih (x + 1) h2 fun y hy => ⟨by have := h1 y hy; omega, (hb y (List.mem_cons_of_mem _ hy)).2⟩
      rw [List.length_cons]
      omega
  have := key P 0 h.inc h.ok
  omega
end Ik

namespace Ik
open PySem PySem.Spec PyProof.Rows L2 Evl
/-! ### papers and stays, plain -/
def stayL (rs : List Int) (wl al : List (Int × Int)) : List (Int × Int) := ((wl.map fun p : Int × Int => p.1).filter (there rs al)).map fun n => (n, roomOf al n)
/-- of those who stay (numbers, rooms): who wants less than a kind and has it or better -/
def inW (cs : List Int) (wl : List (Int × Int)) (k : Nat) (p : Int × Int) : Bool := decide ((cs.take k).sum ≤ p.2) && decide (wantOf wl p.1 < (k : Int))
theorem stay_key {rs : List Int} {wl al : List (Int × Int)} {p : Int × Int} (h : p ∈ stayL rs wl al) : p.1 ∈ wl.map (fun p : Int × Int => p.1) ∧ there rs al p.1 = true ∧ p.2 = roomOf al p.1 := by
  obtain ⟨n, hn, rfl⟩ := List.mem_map.mp h
  obtain ⟨h1, h2⟩ := List.mem_filter.mp hn
  exact ⟨h1, h2, rfl⟩
theorem there_room {rs : List Int} {al : List (Int × Int)} {n : Int} (h : there rs al n = true) : lookI al n = some (roomOf al n) ∧ roomOf al n ∈ rs := by
  unfold there at h
  unfold roomOf
  cases q : lookI al n with
  | none =>
    rw [q] at h
    cases h
  | some r =>
    rw [q] at h
    exact ⟨rfl, of_decide_eq_true h⟩
theorem stay_nums {rs : List Int} {wl al : List (Int × Int)} : (stayL rs wl al).map (fun p : Int × Int => p.1) = (wl.map fun p : Int × Int => p.1).filter (there rs al) := by
  unfold stayL
  rw [List.map_map]
  show List.map (fun n => n) _ = _
  exact List.map_id _
theorem stay_nodup {rs : List Int} {wl al : List (Int × Int)} (h : (wl.map fun p : Int × Int => p.1).Nodup) : ((stayL rs wl al).map fun p : Int × Int => p.1).Nodup := by
  rw [stay_nums]
  exact h.filter _
theorem stay_len {rs : List Int} {wl al : List (Int × Int)} : (stayL rs wl al).length ≤ wl.length := by
  unfold stayL
  rw [List.length_map]
  exact Nat.le_trans (List.length_filter_le _ _) (by rw [List.length_map]; exact Nat.le_refl _)
theorem reach_stay {cs rs : List Int} {wl al : List (Int × Int)} : reachL cs rs wl al = (stayL rs wl al).map fun p => (wantOf wl p.1, kd cs p.2) := by
  unfold reachL stayL
  rw [List.map_map]
  rfl
/-- in the way, by the kinds -/
theorem inW_eq {cs rs : List Int} {wl : List (Int × Int)} (hh : House cs) (hr : RoomsOk cs rs) {k : Nat} (hk : k ≤ cs.length) {p : Int × Int} (hp : p.2 ∈ rs) : inW cs wl k p = inWay (k : Int) (wantOf wl p.1, kd cs p.2) := by
  have hb := hr.ok p.2 hp
  have hlt : p.2.toNat < (kinds cs).length := by omega
  have e := room_ge hh hk (r := p.2.toNat) (x := (kinds cs)[p.2.toNat]) (List.getElem?_eq_getElem hlt)
  have er : ((p.2.toNat : Nat) : Int) = p.2 := by omega
  rw [er] at e
  have ek : kd cs p.2 = (kinds cs)[p.2.toNat] := by
    unfold kd
    rw [List.getD_eq_getElem?_getD, List.getElem?_eq_getElem hlt]
    rfl
  unfold inW inWay
  rw [ek, Bool.and_comm]
  congr 1
  exact decide_eq_decide.mpr e
theorem lt_of_keys {l : List (Int × Int)} {st : List (Int × Int)} (h : ∀ p ∈ st, p.1 ∈ l.map fun p : Int × Int => p.1) : ∀ p ∈ st, ∃ w, lookI l p.1 = some w := fun p hp => by
  obtain ⟨v, h1, _⟩ := lookI_some (h p hp)
  exact ⟨v, h1⟩
theorem wantOf_some {wl : List (Int × Int)} {n w : Int} (h : lookI wl n = some w) : wantOf wl n = w := by
  unfold wantOf
  rw [h]
  rfl
/-- those who stand in the way of the kinds of a paper -/
def standL (cs : List Int) (wl st : List (Int × Int)) (P : List Int) : List Int := P.flatMap fun k => (st.filter (inW cs wl k.toNat)).map fun p : Int × Int => p.1
theorem stand_uniq {cs rs : List Int} {wl al : List (Int × Int)} (hh : House cs) (N : NightOk cs rs wl al) {P : List Int} (hP : ∀ k ∈ P, 0 ≤ k ∧ k < (cs.length : Int)) :
    (uniq (standL cs wl (stayL rs wl al) P)).length = ((reachL cs rs wl al).filter (hit P)).length := by
  rw [reach_stay, filter_len_map]
  have e : ((stayL rs wl al).filter (hit P ∘ fun p => (wantOf wl p.1, kd cs p.2))).length = (((stayL rs wl al).filter (hit P ∘ fun p => (wantOf wl p.1, kd cs p.2))).map fun p : Int × Int => p.1).length := by rw [List.length_map]
  rw [e]
  have key : ∀ p ∈ stayL rs wl al, ∀ k ∈ P, inW cs wl k.toNat p = inWay k (wantOf wl p.1, kd cs p.2) := fun p hp k hk => by
    obtain ⟨h1, h2, h3⟩ := stay_key hp
    obtain ⟨_, h4⟩ := there_room h2
    have hb := hP k hk
    have e1 := inW_eq (wl := wl) hh N.rooms (k := k.toNat) (by omega) (p := p) (by rw [h3]; exact h4)
    rw [show ((k.toNat : Nat) : Int) = k by omega] at e1
    exact e1
  refine same_len (uniq_nodup _) ?_ fun x => ?_
  · exact (List.Nodup.sublist (List.Sublist.map _ List.filter_sublist) (stay_nodup N.wn))
  · rw [uniq_mem]
    unfold standL
    rw [List.mem_flatMap]
    constructor
    · rintro ⟨k, hk, hx⟩
      obtain ⟨p, hp, rfl⟩ := List.mem_map.mp hx
      obtain ⟨hp1, hp2⟩ := List.mem_filter.mp hp
      rw [key p hp1 k hk] at hp2
      exact List.mem_map.mpr ⟨p, List.mem_filter.mpr ⟨hp1, often_pos.mpr ⟨k, hk, hp2⟩⟩, rfl⟩
    · intro hx
      obtain ⟨p, hp, rfl⟩ := List.mem_map.mp hx
      obtain ⟨hp1, hp2⟩ := List.mem_filter.mp hp
      obtain ⟨k, hk, hin⟩ := often_pos.mp hp2
      rw [← key p hp1 k hk] at hin
      exact ⟨k, hk, List.mem_map.mpr ⟨p, List.mem_filter.mpr ⟨hp1, hin⟩, rfl⟩⟩
theorem stand_len {cs : List Int} {wl st : List (Int × Int)} : ∀ P : List Int, (standL cs wl st P).length ≤ P.length * st.length
  | [] => by
    show 0 ≤ 0 * _
    omega
  | k :: P => by
    have ih := stand_len (cs := cs) (wl := wl) (st := st) P
    unfold standL at *
    rw [List.flatMap_cons, List.length_append, List.length_map, List.length_cons, Nat.succ_mul]
    have := List.length_filter_le (inW cs wl k.toNat) st
    omega
theorem number_eq {cs rs : List Int} {wl al : List (Int × Int)} (hh : House cs) (N : NightOk cs rs wl al) {P : List Int} (hP : ∀ k ∈ P, 0 ≤ k ∧ k < (cs.length : Int)) :
    numberN cs rs wl al P = (((bothL wl al).length : Int) - (stayL rs wl al).length) + (P.map fun k => (atLeast (wl.map fun p : Int × Int => p.2) k : Int) - atLeast rs (cs.take k.toNat).sum).sum + ((uniq (standL cs wl (stayL rs wl al) P)).length : Int) := by
  unfold numberN paperN
  rw [hits_sum, stand_uniq hh N hP]
  have e1 : (reachL cs rs wl al).length = (stayL rs wl al).length := by rw [reach_stay, List.length_map]
  rw [e1]
  congr 2
  refine congrArg List.sum (List.map_congr_left fun k hk => ?_)
  have hb := hP k hk
  rw [atLeast_kd hh N.rooms (k := k.toNat) (by omega), show ((k.toNat : Nat) : Int) = k by omega]
end Ik

namespace Ik
open PySem PySem.Spec PyProof.Rows L2 Evl
/-! ### the first of the greatest; the best paper -/
def firstMax {α : Type} (f : α → Int) (d : α) : List α → α
  | [] => d
  | x :: r => if r.any fun y => decide (f x < f y) then firstMax f d r else x
theorem firstMax_of {α : Type} {f : α → Int} {d : α} : ∀ {xs : List α} {i : Nat} {x : α}, xs[i]? = some x → (∀ n y, xs[n]? = some y → f y ≤ f x ∧ (n < i → f y < f x)) → firstMax f d xs = x
  | [], i, x, h, _ => by cases h
  | z :: r, 0, x, h, hb => by
    have e : z = x := Option.some.inj h
    subst e
    unfold firstMax
    rw [if_neg]
    intro q
    obtain ⟨y, hy, e⟩ := List.any_eq_true.mp q
    obtain ⟨n, hn⟩ := List.mem_iff_getElem?.mp hy
    have := (hb (n + 1) y hn).1
    have := of_decide_eq_true e
    omega
  | z :: r, i + 1, x, h, hb => by
    have hx : r[i]? = some x := h
    unfold firstMax
    rw [if_pos (List.any_eq_true.mpr ⟨x, List.mem_of_getElem? hx, decide_eq_true ((hb 0 z rfl).2 (Nat.succ_pos i))⟩)]
    exact firstMax_of hx fun n y hy => ⟨(hb (n + 1) y hy).1, fun hn => (hb (n + 1) y hy).2 (by omega)⟩
theorem firstMax_mem {α : Type} {f : α → Int} {d : α} : ∀ {xs : List α}, xs ≠ [] → firstMax f d xs ∈ xs ∧ ∀ y ∈ xs, f y ≤ f (firstMax f d xs)
  | [], h => absurd rfl h
  | x :: r, _ => by
    unfold firstMax
    by_cases q : r.any (fun y => decide (f x < f y)) = true
    · rw [if_pos q]
      obtain ⟨y, hy, e⟩ := List.any_eq_true.mp q
      obtain ⟨h1, h2⟩ := firstMax_mem (f := f) (d := d) (xs := r) fun z => by rw [z] at hy; cases hy
      refine ⟨List.mem_cons_of_mem _ h1, fun z hz => ?_⟩
      rcases List.mem_cons.mp hz with rfl | hz
      · have := h2 y hy
        have := of_decide_eq_true e
        omega
      · exact h2 z hz
    · rw [if_neg q]
      refine ⟨List.mem_cons_self, fun z hz => ?_⟩
      rcases List.mem_cons.mp hz with rfl | hz
      · exact Int.le_refl _
      · have : ¬ f x < f z := fun c => q (List.any_eq_true.mpr ⟨z, hz, decide_eq_true c⟩)
        omega
/-- the papers that are kept: of those that end in a kind the best one -/
def papersL (num : List Int → Int) : Nat → List (List Int)
  | 0 => [[]]
  | k + 1 => papersL num k ++ [firstMax num [] ((papersL num k).map fun P => P ++ [(k : Int)])]
def bestP (cs rs : List Int) (wl al : List (Int × Int)) : List Int := firstMax (numberN cs rs wl al) [] (papersL (numberN cs rs wl al) cs.length)
theorem papersL_ne {num : List Int → Int} : ∀ k, papersL num k ≠ []
  | 0 => by
    show [[]] ≠ []
    simp
  | k + 1 => by
    show papersL num k ++ _ ≠ []
    simp
theorem papersL_len {num : List Int → Int} : ∀ k, (papersL num k).length = k + 1
  | 0 => rfl
  | k + 1 => by
    show (papersL num k ++ [_]).length = _
    rw [List.length_append, papersL_len k, List.length_singleton]
def PaperTo (k : Nat) (P : List Int) : Prop := (∀ x ∈ P, 0 ≤ x ∧ x < (k : Int)) ∧ P.Pairwise (· < ·)
theorem paperTo_snoc {k : Nat} {P : List Int} (h : PaperTo k P) : PaperTo (k + 1) (P ++ [(k : Int)]) := by
  refine ⟨fun x hx => ?_, ?_⟩
  · rcases List.mem_append.mp hx with hx | hx
    · have := h.1 x hx
      omega
    · rw [List.mem_singleton.mp hx]
      omega
  · refine List.pairwise_append.mpr ⟨h.2, List.pairwise_singleton _ _, fun x hx y hy => ?_⟩
    rw [List.mem_singleton.mp hy]
    exact (h.1 x hx).2
theorem paperTo_mono {k m : Nat} {P : List Int} (hk : k ≤ m) (h : PaperTo k P) : PaperTo m P := ⟨fun x hx => by have := h.1 x hx; omega, h.2⟩
theorem papersL_ok {num : List Int → Int} : ∀ k, ∀ P ∈ papersL num k, PaperTo k P
  | 0, P, h => by
    rw [List.mem_singleton.mp (show P ∈ [[]] from h)]
    exact ⟨fun x hx => (nomatch hx), List.Pairwise.nil⟩
  | k + 1, P, h => by
    rcases List.mem_append.mp (show P ∈ papersL num k ++ [firstMax num [] ((papersL num k).map fun P => P ++ [(k : Int)])] from h) with h | h
    · exact paperTo_mono (Nat.le_succ k) (papersL_ok k P h)
    · rw [List.mem_singleton.mp h]
      obtain ⟨Q, hQ, e⟩ := List.mem_map.mp (firstMax_mem (f := num) (d := []) (xs := (papersL num k).map fun P => P ++ [(k : Int)]) (by rw [ne_eq, List.map_eq_nil_iff]; exact papersL_ne k)).1
      rw [← e]
      exact paperTo_snoc (papersL_ok k Q hQ)
theorem paperOk_of {cs P : List Int} (h : PaperTo cs.length P) : PaperOk cs P := ⟨h.1, h.2⟩
theorem bestP_ok (cs rs : List Int) (wl al : List (Int × Int)) : PaperOk cs (bestP cs rs wl al) := paperOk_of (papersL_ok _ _ (firstMax_mem (papersL_ne _)).1)
theorem paired_zip {α β : Type} {F : α → β → Prop} : ∀ {xs : List α} {ys : List β}, Paired F xs ys → ∀ z ∈ xs.zip ys, F z.1 z.2
  | _, _, .nil, z, h => by cases h
  | _, _, .cons a t, z, h => by
    rcases List.mem_cons.mp h with rfl | h
    · exact a
    · exact paired_zip t z h
theorem zip_one {α β γ : Type} (f : α → γ) : ∀ {xs : List α} {ys : List β}, xs.length = ys.length → (xs.zip ys).map (fun z => f z.1) = xs.map f
  | [], [], _ => rfl
  | x :: xs, y :: ys, h => congrArg (f x :: ·) (zip_one f (Nat.succ.inj h))
theorem zip_two {α β γ : Type} (f : β → γ) : ∀ {xs : List α} {ys : List β}, xs.length = ys.length → (xs.zip ys).map (fun z => f z.2) = ys.map f
  | [], [], _ => rfl
  | x :: xs, y :: ys, h => congrArg (f y :: ·) (zip_two f (Nat.succ.inj h))
theorem paired_both {α β : Type} {F : α → β → Prop} : ∀ {xs : List α} {ys : List β}, Paired F xs ys → ∀ {i : Nat} {x : α} {y : β}, xs[i]? = some x → ys[i]? = some y → F x y
  | _, _, .nil, i, x, y, h, _ => by cases h
  | _, _, .cons a t, 0, x, y, h1, h2 => by
    cases h1
    cases h2
    exact a
  | _, _, .cons a t, i + 1, x, y, h1, h2 => paired_both t h1 h2
end Ik

namespace Ik
open PySem PySem.Spec PyProof.Rows L2 Evl
/-! ### one night, as the program goes -/
def lackN (cs rs : List Int) (wl : List (Int × Int)) (k : Nat) : Int := (atLeast (wl.map fun p : Int × Int => p.2) (k : Int) : Int) - (atLeast rs (cs.take k).sum : Int)
def standK (cs : List Int) (wl st : List (Int × Int)) (k : Nat) : List Int := (st.filter (inW cs wl k)).map fun p : Int × Int => p.1
def manyK (cs rs : List Int) (wl st : List (Int × Int)) (k : Nat) : Int := if lackN cs rs wl k + ((standK cs wl st k).length : Int) > 0 then lackN cs rs wl k + ((standK cs wl st k).length : Int) else 0
def leaveK (cs rs : List Int) (wl st : List (Int × Int)) (k : Nat) : List Int := ((standK cs wl st k).mergeSort (leDn (roomOf st))).take (manyK cs rs wl st k).toNat
def stepK (cs rs : List Int) (wl : List (Int × Int)) (k : Nat) (st : List (Int × Int)) : List (Int × Int) := st.filter fun p => !decide (p.1 ∈ leaveK cs rs wl st k)
def sweepK (cs rs : List Int) (wl st : List (Int × Int)) : Nat → List (Int × Int)
  | 0 => st
  | k + 1 => stepK cs rs wl k (sweepK cs rs wl st k)
def stayF (cs rs : List Int) (wl al : List (Int × Int)) : List (Int × Int) := sweepK cs rs wl (stayL rs wl al) cs.length
theorem sweepK_sub {cs rs : List Int} {wl st : List (Int × Int)} : ∀ k, (sweepK cs rs wl st k).Sublist st
  | 0 => List.Sublist.refl _
  | k + 1 => List.Sublist.trans List.filter_sublist (sweepK_sub k)
theorem nodup_sub {xs ys : List (Int × Int)} (h : xs.Sublist ys) (n : (ys.map fun p : Int × Int => p.1).Nodup) : (xs.map fun p : Int × Int => p.1).Nodup := List.Nodup.sublist (List.Sublist.map _ h) n
theorem roomOf_mem {st : List (Int × Int)} {p : Int × Int} (n : (st.map fun p : Int × Int => p.1).Nodup) (h : p ∈ st) : lookI st p.1 = some p.2 ∧ roomOf st p.1 = p.2 := by
  have e := lookI_mem n h
  refine ⟨e, ?_⟩
  unfold roomOf
  rw [e]
  rfl
/-- a dict made of the items of another one -/
theorem dict_filter {st : List (Int × Int)} (n : (st.map fun p : Int × Int => p.1).Nodup) (f : Int → Bool) : ((st.map fun p : Int × Int => p.1).filter f).map (fun m => ((Sum.inl m : Key), V.int (roomOf st m))) = (st.filter fun p => f p.1).map kvI := by
  rw [List.filter_map, List.map_map]
  refine List.map_congr_left fun p hp => ?_
  have hp := (List.mem_filter.mp hp).1
  show ((Sum.inl p.1 : Key), V.int (roomOf st p.1)) = (Sum.inl p.1, V.int p.2)
  rw [(roomOf_mem n hp).2]
/-! rooms for the others -/
def othersL (wl st : List (Int × Int)) : List Int := (wl.map fun p : Int × Int => p.1).filter fun n => !(lookI st n).isSome
def freeL (rs : List Int) (st : List (Int × Int)) : List Int := rs.filter fun r => !decide (r ∈ st.map fun p : Int × Int => p.2)
def goodL (cs : List Int) (wl : List (Int × Int)) (n : Int) (free : List Int) : List Int := free.filter fun r => decide ((cs.take (wantOf wl n).toNat).sum ≤ r)
def giveStep (cs : List Int) (wl : List (Int × Int)) (g : List (Int × Int) × List Int) (n : Int) : List (Int × Int) × List Int :=
  match goodL cs wl n g.2 with
  | [] => g
  | r :: _ => (g.1 ++ [(n, r)], g.2.erase r)
def giveL (cs : List Int) (wl : List (Int × Int)) (ns : List Int) (g : List (Int × Int) × List Int) : List (Int × Int) × List Int := ns.foldl (giveStep cs wl) g
def turnL (wl st : List (Int × Int)) : List Int := (othersL wl st).mergeSort (leUp (wantOf wl))
def givenF (cs rs : List Int) (wl st : List (Int × Int)) : List (Int × Int) := (giveL cs wl (turnL wl st) (st, freeL rs st)).1
def dictF (g : List (Int × Int)) : List (Int × Int) := (sortI (g.map fun p : Int × Int => p.1)).map fun n => (n, roomOf g n)
theorem giveL_snoc {cs : List Int} {wl : List (Int × Int)} {ns : List Int} {n : Int} {g : List (Int × Int) × List Int} : giveL cs wl (ns ++ [n]) g = giveStep cs wl (giveL cs wl ns g) n := by
  unfold giveL
  rw [List.foldl_append]
  rfl
theorem giveStep_keys {cs : List Int} {wl : List (Int × Int)} {g : List (Int × Int) × List Int} {n : Int} : ∀ m, m ∈ (giveStep cs wl g n).1.map (fun p : Int × Int => p.1) → m ∈ g.1.map (fun p : Int × Int => p.1) ∨ m = n := fun m h => by
  unfold giveStep at h
  split at h
  · exact .inl h
  · rw [List.map_append] at h
    rcases List.mem_append.mp h with h | h
    · exact .inl h
    · exact .inr (List.mem_singleton.mp h)
theorem giveL_keys {cs : List Int} {wl : List (Int × Int)} : ∀ {ns : List Int} {g : List (Int × Int) × List Int} (m : Int), m ∈ (giveL cs wl ns g).1.map (fun p : Int × Int => p.1) → m ∈ g.1.map (fun p : Int × Int => p.1) ∨ m ∈ ns
  | [], g, m, h => .inl h
  | n :: r, g, m, h => by
    rcases giveL_keys (ns := r) (g := giveStep cs wl g n) m h with h | h
    · rcases giveStep_keys m h with h | h
      · exact .inl h
      · exact .inr (h ▸ List.mem_cons_self)
    · exact .inr (List.mem_cons_of_mem _ h)
theorem giveStep_len {cs : List Int} {wl : List (Int × Int)} {g : List (Int × Int) × List Int} {n : Int} : (giveStep cs wl g n).1.length ≤ g.1.length + 1 ∧ (giveStep cs wl g n).2.length ≤ g.2.length := by
  unfold giveStep
  split
  · exact ⟨Nat.le_succ _, Nat.le_refl _⟩
  · refine ⟨?_, ?_⟩
    · show (g.1 ++ [_]).length ≤ _
      rw [List.length_append, List.length_singleton]
      exact Nat.le_refl _
    · exact List.length_erase_le
theorem giveL_len {cs : List Int} {wl : List (Int × Int)} : ∀ {ns : List Int} {g : List (Int × Int) × List Int}, (giveL cs wl ns g).1.length ≤ g.1.length + ns.length ∧ (giveL cs wl ns g).2.length ≤ g.2.length
  | [], g => ⟨Nat.le_refl _, Nat.le_refl _⟩
  | n :: r, g => by
    have h1 := giveStep_len (cs := cs) (wl := wl) (g := g) (n := n)
    have h2 := giveL_len (cs := cs) (wl := wl) (ns := r) (g := giveStep cs wl g n)
    have e : giveL cs wl (n :: r) g = giveL cs wl r (giveStep cs wl g n) := rfl
    rw [e, List.length_cons]
    omega
theorem giveL_nodup {cs : List Int} {wl : List (Int × Int)} : ∀ {ns : List Int} {g : List (Int × Int) × List Int}, ns.Nodup → (∀ n ∈ ns, n ∉ g.1.map fun p : Int × Int => p.1) → (g.1.map fun p : Int × Int => p.1).Nodup → ((giveL cs wl ns g).1.map fun p : Int × Int => p.1).Nodup
  | [], g, _, _, h => h
  | n :: r, g, hn, hd, h => by
    obtain ⟨h1, h2⟩ := List.nodup_cons.mp hn
    refine giveL_nodup (ns := r) (g := giveStep cs wl g n) h2 (fun m hm z => ?_) ?_
    · rcases giveStep_keys m z with z | z
      · exact hd m (List.mem_cons_of_mem _ hm) z
      · exact h1 (z ▸ hm)
    · unfold giveStep
      split
      · exact h
      · show ((g.1 ++ [_]).map fun p : Int × Int => p.1).Nodup
        rw [List.map_append]
        refine List.nodup_append.mpr ⟨h, by simp, fun x hx y hy e => ?_⟩
        rw [List.mem_singleton.mp hy] at e
        subst e
        exact hd x List.mem_cons_self hx
theorem erase_at : ∀ {ns : List Int} {j : Nat} {r : Int}, ns[j]? = some r → (∀ m : Nat, m < j → ns[m]? ≠ some r) → ns.eraseIdx j = ns.erase r
  | x :: t, 0, r, h, _ => by
    have e : x = r := Option.some.inj h
    subst e
    rw [List.erase_cons_head]
    rfl
  | x :: t, j + 1, r, h, hn => by
    have hx : x ≠ r := fun z => hn 0 (Nat.succ_pos j) (congrArg some z)
    have ih := erase_at (ns := t) (j := j) (r := r) h fun m hm => hn (m + 1) (by omega)
    rw [List.erase_cons_tail (by simpa using hx), ← ih]
    rfl
theorem turn_perm (wl st : List (Int × Int)) : (turnL wl st).Perm (othersL wl st) := List.mergeSort_perm _ _
theorem others_mem {wl st : List (Int × Int)} {n : Int} : n ∈ othersL wl st ↔ n ∈ wl.map (fun p : Int × Int => p.1) ∧ n ∉ st.map (fun p : Int × Int => p.1) := by
  unfold othersL
  rw [List.mem_filter]
  refine ⟨fun ⟨h1, h2⟩ => ⟨h1, fun z => ?_⟩, fun ⟨h1, h2⟩ => ⟨h1, ?_⟩⟩
  · obtain ⟨v, hv, _⟩ := lookI_some z
    rw [hv] at h2
    cases h2
  · cases q : lookI st n with
    | none => rfl
    | some v => exact absurd (List.mem_map.mpr ⟨(n, v), lookI_in q, rfl⟩) h2
theorem turn_nodup {wl st : List (Int × Int)} (h : (wl.map fun p : Int × Int => p.1).Nodup) : (turnL wl st).Nodup := (turn_perm wl st).symm.nodup (h.filter _)
theorem turn_out {wl st : List (Int × Int)} : ∀ n ∈ turnL wl st, n ∉ st.map fun p : Int × Int => p.1 := fun n hn => (others_mem.mp ((turn_perm wl st).subset hn)).2
/-- who is moved -/
def movedB (al g : List (Int × Int)) (n : Int) : Bool := match lookI al n with
  | some r => !decide (r = roomOf g n)
  | none => false
def movedF (al g : List (Int × Int)) : List Int := (g.map fun p : Int × Int => p.1).filter (movedB al g)
def nightG (cs rs : List Int) (wl al : List (Int × Int)) : List (Int × Int) := dictF (givenF cs rs wl (stayF cs rs wl al))
theorem dictF_nums (g : List (Int × Int)) : (dictF g).map (fun p : Int × Int => p.1) = sortI (g.map fun p : Int × Int => p.1) := by
  unfold dictF
  rw [List.map_map]
  show List.map (fun n => n) _ = _
  exact List.map_id _
theorem wl_small {cs rs : List Int} {wl al : List (Int × Int)} (hh : House cs) (N : NightOk cs rs wl al) (h : shortL cs.length (wl.map fun p : Int × Int => p.2) (rs.map (kd cs)) = none) : wl.length ≤ 54 := by
  have hall := hall_iff.mpr h 0 (by have := hh.pos; omega)
  have e1 : atLeast (wl.map fun p : Int × Int => p.2) ((0 : Nat) : Int) = wl.length := by
    unfold atLeast
    rw [filter_all, List.length_map]
    intro x hx
    obtain ⟨p, hp, rfl⟩ := List.mem_map.mp hx
    exact decide_eq_true (N.wk p hp).1
  have e2 : atLeast (rs.map (kd cs)) ((0 : Nat) : Int) ≤ rs.length := by
    unfold atLeast
    refine Nat.le_trans (List.length_filter_le _ _) ?_
    rw [List.length_map]
    exact Nat.le_refl _
  have := rooms_len hh N.rooms
  omega
theorem split_len {wl st : List (Int × Int)} (hw : (wl.map fun p : Int × Int => p.1).Nodup) (hs : (st.map fun p : Int × Int => p.1).Nodup) (h : ∀ p ∈ st, p.1 ∈ wl.map fun p : Int × Int => p.1) : st.length + (othersL wl st).length = wl.length := by
  have e := filter_both (fun n => (lookI st n).isSome) (wl.map fun p : Int × Int => p.1)
  have e2 : ((wl.map fun p : Int × Int => p.1).filter fun n => (lookI st n).isSome).length = st.length := by
    rw [← List.length_map (fun p : Int × Int => p.1) (as := st)]
    refine same_len (hw.filter _) hs fun x => ?_
    rw [List.mem_filter]
    refine ⟨fun ⟨_, z⟩ => ?_, fun z => ?_⟩
    · cases q : lookI st x with
      | none =>
        rw [q] at z
        cases z
      | some v => exact List.mem_map.mpr ⟨(x, v), lookI_in q, rfl⟩
    · obtain ⟨p, hp, rfl⟩ := List.mem_map.mp z
      obtain ⟨v, hv, _⟩ := lookI_some z
      exact ⟨h p hp, by rw [hv]; rfl⟩
  rw [List.length_map] at e
  unfold othersL
  omega
theorem stayF_sub {cs rs : List Int} {wl al : List (Int × Int)} : (stayF cs rs wl al).Sublist (stayL rs wl al) := sweepK_sub _
end Ik

namespace Ik
open PySem PySem.Spec PyProof.Rows L2 Evl
/-! ### what the program's night is: all have rooms, the fewest are moved -/
theorem room_kd {cs : List Int} (hh : House cs) {r : Int} (h0 : 0 ≤ r) (h1 : r < ((kinds cs).length : Int)) {k : Nat} (hk : k ≤ cs.length) : (cs.take k).sum ≤ r ↔ (k : Int) ≤ kd cs r := by
  have hlt : r.toNat < (kinds cs).length := by omega
  have e := room_ge hh hk (r := r.toNat) (x := (kinds cs)[r.toNat]) (List.getElem?_eq_getElem hlt)
  have er : ((r.toNat : Nat) : Int) = r := by omega
  rw [er] at e
  have ek : kd cs r = (kinds cs)[r.toNat] := by
    unfold kd
    rw [List.getD_eq_getElem?_getD, List.getElem?_eq_getElem hlt]
    rfl
  rw [ek]
  exact e
theorem kd_bd {cs : List Int} {r : Int} (h0 : 0 ≤ r) (h1 : r < ((kinds cs).length : Int)) : 0 ≤ kd cs r ∧ kd cs r < (cs.length : Int) := by
  unfold kd
  rw [List.getD_eq_getElem?_getD, List.getElem?_eq_getElem (show r.toNat < (kinds cs).length by omega)]
  exact kinds_lt (List.getElem_mem _)
theorem kd_mono {cs : List Int} (hh : House cs) {r r' : Int} (h0 : 0 ≤ r) (h : r ≤ r') (h1 : r' < ((kinds cs).length : Int)) : kd cs r ≤ kd cs r' := by
  have hb := kd_bd (cs := cs) h0 (by omega)
  have e1 := (room_kd hh h0 (by omega) (k := (kd cs r).toNat) (by omega)).mpr (by omega)
  have e2 := (room_kd hh (r := r') (by omega) h1 (k := (kd cs r).toNat) (by omega)).mp (by omega)
  omega
theorem goodL_mem {cs rs : List Int} (hh : House cs) (ro : RoomsOk cs rs) {wl : List (Int × Int)} {n : Int} (hw : 0 ≤ wantOf wl n ∧ wantOf wl n < (cs.length : Int)) {free : List Int} (hf : ∀ r ∈ free, r ∈ rs) {r : Int} : r ∈ goodL cs wl n free ↔ r ∈ free ∧ wantOf wl n ≤ kd cs r := by
  unfold goodL
  rw [List.mem_filter, decide_eq_true_eq]
  refine and_congr_right fun h => ?_
  have hb := ro.ok r (hf r h)
  rw [room_kd hh hb.1 hb.2 (k := (wantOf wl n).toNat) (by omega)]
  omega
theorem giveL_ok {cs rs : List Int} (hh : House cs) (ro : RoomsOk cs rs) {wl : List (Int × Int)} : ∀ {ns : List Int} {g : List (Int × Int)} {free : List Int}, ns.Pairwise (fun a b => wantOf wl b ≤ wantOf wl a) → (∀ n ∈ ns, 0 ≤ wantOf wl n ∧ wantOf wl n < (cs.length : Int)) → free.Nodup → (∀ r ∈ free, r ∈ rs) →
    Hall cs.length (ns.map (wantOf wl)) (free.map (kd cs)) → ∃ ad : List (Int × Int), (giveL cs wl ns (g, free)).1 = g ++ ad ∧ ad.map (fun p : Int × Int => p.1) = ns ∧ (ad.map fun p : Int × Int => p.2).Nodup ∧ ∀ p ∈ ad, p.2 ∈ free ∧ wantOf wl p.1 ≤ kd cs p.2
  | [], g, free, _, _, _, _, _ => ⟨[], (List.append_nil g).symm, rfl, List.nodup_nil, fun p hp => (nomatch hp)⟩
  | n :: r, g, free, hp, hw, hn, hf, hall => by
    obtain ⟨hp1, hp2⟩ := List.pairwise_cons.mp hp
    have hwn := hw n List.mem_cons_self
    cases hgl : goodL cs wl n free with
    | nil =>
      exfalso
      refine hall_none (ws := r.map (wantOf wl)) hwn.1 hwn.2 (fun x hx q => ?_) hall
      obtain ⟨y, hy, rfl⟩ := List.mem_map.mp hx
      have z := (goodL_mem hh ro hwn hf).mpr ⟨hy, q⟩
      rw [hgl] at z
      cases z
    | cons x rest =>
      have hx := (goodL_mem hh ro hwn hf (r := x)).mp (by rw [hgl]; exact List.mem_cons_self)
      obtain ⟨j, hj1, hj2⟩ := first_at hx.1
      have e1 : giveStep cs wl (g, free) n = (g ++ [(n, x)], free.erase x) := by
        unfold giveStep
        rw [hgl]
      have h2 : Hall cs.length (r.map (wantOf wl)) ((free.erase x).map (kd cs)) := by
        rw [← erase_at hj1 hj2, map_eraseIdx]
        refine (hall_step (n := cs.length) (w := wantOf wl n) (x := kd cs x) (fun y hy => ?_) (by rw [List.getElem?_map, hj1]; rfl) hx.2).mp hall
        obtain ⟨m, hm, rfl⟩ := List.mem_map.mp hy
        exact hp1 m hm
      obtain ⟨ad, a1, a2, a3, a4⟩ := giveL_ok hh ro (ns := r) (g := g ++ [(n, x)]) (free := free.erase x) hp2 (fun m hm => hw m (List.mem_cons_of_mem _ hm)) (hn.erase x) (fun y hy => hf y (List.mem_of_mem_erase hy)) h2
      refine ⟨(n, x) :: ad, ?_, ?_, ?_, fun p hp => ?_⟩
      · show (giveL cs wl r (giveStep cs wl (g, free) n)).1 = _
        rw [e1, a1, List.append_assoc]
        rfl
      · show n :: ad.map (fun p : Int × Int => p.1) = n :: r
        rw [a2]
      · refine List.nodup_cons.mpr ⟨fun z => ?_, a3⟩
        obtain ⟨p, hp, e⟩ := List.mem_map.mp z
        have q := (a4 p hp).1
        have e : p.2 = x := e
        rw [e] at q
        exact (List.Nodup.not_mem_erase hn) q
      · rcases List.mem_cons.mp hp with rfl | hp
        · exact ⟨hx.1, hx.2⟩
        · exact ⟨List.mem_of_mem_erase (a4 p hp).1, (a4 p hp).2⟩
theorem leUp_tot (g : Int → Int) (a b : Int) : (leUp g a b || leUp g b a) = true := by
  unfold leUp
  rw [Bool.or_eq_true, decide_eq_true_eq, decide_eq_true_eq]
  omega
theorem leUp_tr (g : Int → Int) (a b c : Int) (h1 : leUp g a b = true) (h2 : leUp g b c = true) : leUp g a c = true := by
  unfold leUp at *
  rw [decide_eq_true_eq] at *
  omega
theorem turn_down (wl st : List (Int × Int)) : (turnL wl st).Pairwise fun a b => wantOf wl b ≤ wantOf wl a := by
  have h := List.pairwise_mergeSort (le := leUp (wantOf wl)) (fun a b c h1 h2 => leUp_tr _ a b c h1 h2) (fun a b => leUp_tot _ a b) (othersL wl st)
  refine h.imp fun {a b} h => ?_
  unfold leUp at h
  rw [decide_eq_true_eq] at h
  omega
theorem leDn_tot (g : Int → Int) (a b : Int) : (leDn g a b || leDn g b a) = true := by
  unfold leDn
  rw [Bool.or_eq_true, decide_eq_true_eq, decide_eq_true_eq]
  omega
theorem leDn_tr (g : Int → Int) (a b c : Int) (h1 : leDn g a b = true) (h2 : leDn g b c = true) : leDn g a c = true := by
  unfold leDn at *
  rw [decide_eq_true_eq] at *
  omega
/-- of those who stay: what they want, the kind of what they have -/
def wk2 (cs : List Int) (wl : List (Int × Int)) (p : Int × Int) : Int × Int := (wantOf wl p.1, kd cs p.2)
theorem stayL_fit {cs rs : List Int} {wl al : List (Int × Int)} (N : NightOk cs rs wl al) : ∀ p ∈ stayL rs wl al, wantOf wl p.1 ≤ kd cs p.2 ∧ p.2 ∈ rs ∧ lookI al p.1 = some p.2 := fun p hp => by
  obtain ⟨h1, h2, h3⟩ := stay_key hp
  obtain ⟨h4, h5⟩ := there_room h2
  obtain ⟨v, hv, hm⟩ := lookI_some h1
  rw [← h3] at h4 h5
  refine ⟨?_, h5, h4⟩
  rw [wantOf_some hv]
  exact N.had (p.1, v) hm (p.1, p.2) (lookI_in h4) rfl
theorem snd_nodup {al : List (Int × Int)} (h : (al.map fun p : Int × Int => p.2).Nodup) {p q : Int × Int} (hp : p ∈ al) (hq : q ∈ al) (e : p.2 = q.2) : p = q := by
  induction al with
  | nil => cases hp
  | cons x r ih =>
    obtain ⟨h1, h2⟩ := List.nodup_cons.mp (show (x.2 :: r.map fun p : Int × Int => p.2).Nodup from h)
    rcases List.mem_cons.mp hp with a | a
    · rcases List.mem_cons.mp hq with b | b
      · rw [a, b]
      · exact absurd (List.mem_map.mpr ⟨q, b, by rw [← e, a]⟩) h1
    · rcases List.mem_cons.mp hq with b | b
      · exact absurd (List.mem_map.mpr ⟨p, a, by rw [e, b]⟩) h1
      · exact ih h2 a b
theorem fst_eq {al : List (Int × Int)} (h : (al.map fun p : Int × Int => p.1).Nodup) {p q : Int × Int} (hp : p ∈ al) (hq : q ∈ al) (e : p.1 = q.1) : p = q := by
  have a := lookI_mem h hp
  have b := lookI_mem h hq
  rw [e, b] at a
  exact Prod.ext e (Option.some.inj a).symm
theorem inc_nodup {xs : List Int} (h : xs.Pairwise (· < ·)) : xs.Nodup := h.imp fun {a b} h => Int.ne_of_lt h
theorem map_nodup_on {α β : Type} {f : α → β} : ∀ {l : List α}, l.Nodup → (∀ x ∈ l, ∀ y ∈ l, f x = f y → x = y) → (l.map f).Nodup
  | [], _, _ => List.nodup_nil
  | x :: r, hn, hf => by
    obtain ⟨h1, h2⟩ := List.nodup_cons.mp hn
    refine List.nodup_cons.mpr ⟨fun z => ?_, map_nodup_on h2 fun a ha b hb e => hf a (List.mem_cons_of_mem _ ha) b (List.mem_cons_of_mem _ hb) e⟩
    obtain ⟨y, hy, e⟩ := List.mem_map.mp z
    have := hf y (List.mem_cons_of_mem _ hy) x List.mem_cons_self e
    exact h1 (this ▸ hy)
theorem nodup_of_map {α β : Type} {f : α → β} : ∀ {l : List α}, (l.map f).Nodup → l.Nodup
  | [], _ => List.nodup_nil
  | x :: r, h => by
    obtain ⟨h1, h2⟩ := List.nodup_cons.mp (show (f x :: r.map f).Nodup from h)
    exact List.nodup_cons.mpr ⟨fun z => h1 (List.mem_map.mpr ⟨x, z, rfl⟩), nodup_of_map h2⟩
theorem stayL_rooms {cs rs : List Int} {wl al : List (Int × Int)} (N : NightOk cs rs wl al) : ((stayL rs wl al).map fun p : Int × Int => p.2).Nodup := by
  refine map_nodup_on (nodup_of_map (stay_nodup N.wn)) fun p hp q hq e => ?_
  have h1 := lookI_in (stayL_fit N p hp).2.2
  have h2 := lookI_in (stayL_fit N q hq).2.2
  have h1 : p ∈ al := h1
  have h2 : q ∈ al := h2
  exact snd_nodup N.ar.nd h1 h2 e
/-- in the way, and wanting no less: those whose rooms are as good -/
theorem cnt_eq {k : Int} : ∀ {B : List (Int × Int)}, (∀ p ∈ B, p.1 ≤ p.2) → cnt B k + atLeast (B.map fun p => p.1) k = (B.filter fun p => decide (k ≤ p.2)).length
  | [], _ => rfl
  | p :: r, h => by
    have hp := h p List.mem_cons_self
    have ih := cnt_eq (k := k) (B := r) fun x hx => h x (List.mem_cons_of_mem _ hx)
    rw [cnt_cons, List.map_cons, atLeast_cons, List.filter_cons]
    unfold inWay
    by_cases q1 : k ≤ p.2
    · by_cases q2 : p.1 < k
      · rw [if_pos (by rw [decide_eq_true q1, decide_eq_true q2]; rfl), if_neg (by omega), if_pos (decide_eq_true q1), List.length_cons]
        omega
      · rw [if_neg (by rw [decide_eq_false q2, Bool.false_and]; decide), if_pos (by omega), if_pos (decide_eq_true q1), List.length_cons]
        omega
    · rw [if_neg (by rw [decide_eq_false q1, Bool.and_false]; decide), if_neg (by omega), if_neg (by rw [decide_eq_false q1]; decide)]
      omega
theorem leave_sub {cs rs : List Int} {wl st : List (Int × Int)} {k : Nat} {n : Int} (h : n ∈ leaveK cs rs wl st k) : n ∈ standK cs wl st k := (List.mergeSort_perm _ _).subset (List.mem_of_mem_take h)
def capK (cs rs : List Int) (wl : List (Int × Int)) (k : Int) : Int := (atLeast (rs.map (kd cs)) k : Int) - atLeast (wl.map fun p : Int × Int => p.2) k
theorem step_sweep {cs rs : List Int} {wl al : List (Int × Int)} (hh : House cs) (N : NightOk cs rs wl al) {k : Nat} (hk : k < cs.length) (hcap : 0 ≤ capK cs rs wl (k : Int)) {st : List (Int × Int)} (hs : st.Sublist (stayL rs wl al)) :
    (st.map (wk2 cs wl)).Perm ((stepK cs rs wl k st).map (wk2 cs wl) ++ (st.filter fun p => decide (p.1 ∈ leaveK cs rs wl st k)).map (wk2 cs wl)) ∧ (cnt ((stepK cs rs wl k st).map (wk2 cs wl)) (k : Int) : Int) ≤ capK cs rs wl (k : Int) ∧
    ((st.filter fun p => decide (p.1 ∈ leaveK cs rs wl st k)).map (wk2 cs wl) ≠ [] → (cnt ((stepK cs rs wl k st).map (wk2 cs wl)) (k : Int) : Int) = capK cs rs wl (k : Int)) ∧ (∀ d ∈ (st.filter fun p => decide (p.1 ∈ leaveK cs rs wl st k)).map (wk2 cs wl), inWay (k : Int) d = true) ∧
    ∀ d ∈ (st.filter fun p => decide (p.1 ∈ leaveK cs rs wl st k)).map (wk2 cs wl), ∀ q ∈ (stepK cs rs wl k st).map (wk2 cs wl), inWay (k : Int) q = true → q.2 ≤ d.2 := by
  have fit : ∀ p ∈ st, wantOf wl p.1 ≤ kd cs p.2 ∧ p.2 ∈ rs ∧ lookI al p.1 = some p.2 := fun p hp => stayL_fit N p (hs.subset hp)
  have iw : ∀ p ∈ st, inW cs wl k p = inWay (k : Int) (wk2 cs wl p) := fun p hp => inW_eq hh N.rooms (Nat.le_of_lt hk) (fit p hp).2.1
  have nd : (st.map fun p : Int × Int => p.1).Nodup := nodup_sub hs (stay_nodup N.wn)
  have ndS : (standK cs wl st k).Nodup := List.Nodup.sublist (List.Sublist.map _ List.filter_sublist) nd
  have ndL : (leaveK cs rs wl st k).Nodup := List.Nodup.sublist (List.take_sublist _ _) ((List.mergeSort_perm _ _).symm.nodup ndS)
  have mS : ∀ p ∈ st, p.1 ∈ standK cs wl st k ↔ inW cs wl k p = true := fun p hp => by
    unfold standK
    constructor
    · intro z
      obtain ⟨q, hq, e⟩ := List.mem_map.mp z
      obtain ⟨hq1, hq2⟩ := List.mem_filter.mp hq
      have := fst_eq nd hq1 hp e
      rw [← this]
      exact hq2
    · intro z
      exact List.mem_map.mpr ⟨p, List.mem_filter.mpr ⟨hp, z⟩, rfl⟩
  -- how many leave
  have hlack : lackN cs rs wl k = - capK cs rs wl (k : Int) := by
    unfold lackN capK
    rw [atLeast_kd hh N.rooms (Nat.le_of_lt hk)]
    omega
  have hmany : ((manyK cs rs wl st k).toNat : Int) = max 0 (((standK cs wl st k).length : Int) - capK cs rs wl (k : Int)) := by
    unfold manyK
    rw [hlack]
    split <;> omega
  have hll : (leaveK cs rs wl st k).length = (manyK cs rs wl st k).toNat := by
    unfold leaveK
    rw [List.length_take, List.length_mergeSort]
    omega
  -- how many of them stay
  have c1 : cnt ((stepK cs rs wl k st).map (wk2 cs wl)) (k : Int) = ((st.filter (inW cs wl k)).filter fun p => !decide (p.1 ∈ leaveK cs rs wl st k)).length := by
    unfold cnt stepK
    rw [filter_len_map, List.filter_filter, List.filter_filter]
    congr 1
    refine List.filter_congr fun p hp => ?_
    show (inWay (k : Int) (wk2 cs wl p) && _) = (_ && inW cs wl k p)
    rw [← iw p hp, Bool.and_comm]
  have c2 : ((st.filter (inW cs wl k)).filter fun p => decide (p.1 ∈ leaveK cs rs wl st k)).length = (leaveK cs rs wl st k).length := by
    rw [← List.length_map (fun p : Int × Int => p.1)]
    refine same_len (List.Nodup.sublist (List.Sublist.map _ (List.Sublist.trans List.filter_sublist List.filter_sublist)) nd) ndL fun x => ?_
    constructor
    · intro z
      obtain ⟨p, hp, rfl⟩ := List.mem_map.mp z
      exact of_decide_eq_true (List.mem_filter.mp hp).2
    · intro z
      obtain ⟨p, hp, rfl⟩ := List.mem_map.mp (leave_sub z)
      exact List.mem_map.mpr ⟨p, List.mem_filter.mpr ⟨hp, decide_eq_true z⟩, rfl⟩
  have c3 := filter_both (fun p : Int × Int => decide (p.1 ∈ leaveK cs rs wl st k)) (st.filter (inW cs wl k))
  have c4 : (st.filter (inW cs wl k)).length = (standK cs wl st k).length := by
    unfold standK
    rw [List.length_map]
  refine ⟨?_, by omega, fun hne => ?_, fun d hd => ?_, fun d hd q hq hqk => ?_⟩
  · rw [← List.map_append]
    refine List.Perm.map _ ?_
    unfold stepK
    have e : st.filter (fun p => decide (p.1 ∈ leaveK cs rs wl st k)) = st.filter (fun p => !(!decide (p.1 ∈ leaveK cs rs wl st k))) := List.filter_congr fun p _ => (Bool.not_not _).symm
    rw [e]
    exact (List.filter_append_perm (fun p : Int × Int => !decide (p.1 ∈ leaveK cs rs wl st k)) st).symm
  · have hpos : 0 < (leaveK cs rs wl st k).length := by
      obtain ⟨d, hd⟩ := List.exists_mem_of_ne_nil _ hne
      obtain ⟨p, hp, _⟩ := List.mem_map.mp hd
      exact List.length_pos_of_mem (of_decide_eq_true (List.mem_filter.mp hp).2)
    omega
  · obtain ⟨p, hp, rfl⟩ := List.mem_map.mp hd
    obtain ⟨hp1, hp2⟩ := List.mem_filter.mp hp
    rw [← iw p hp1]
    exact (mS p hp1).mp (leave_sub (of_decide_eq_true hp2))
  · obtain ⟨p, hp, rfl⟩ := List.mem_map.mp hd
    obtain ⟨hp1, hp2⟩ := List.mem_filter.mp hp
    obtain ⟨p', hp', rfl⟩ := List.mem_map.mp hq
    obtain ⟨hp'1, hp'2⟩ := List.mem_filter.mp hp'
    have hl := of_decide_eq_true hp2
    have hs' : p'.1 ∈ standK cs wl st k := (mS p' hp'1).mpr (by rw [iw p' hp'1]; exact hqk)
    have hm' : p'.1 ∈ (standK cs wl st k).mergeSort (leDn (roomOf st)) := (List.mergeSort_perm _ _).symm.subset hs'
    rw [← List.take_append_drop (manyK cs rs wl st k).toNat ((standK cs wl st k).mergeSort (leDn (roomOf st)))] at hm'
    have hdrop : p'.1 ∈ ((standK cs wl st k).mergeSort (leDn (roomOf st))).drop (manyK cs rs wl st k).toNat := by
      rcases List.mem_append.mp hm' with z | z
      · have z : p'.1 ∈ leaveK cs rs wl st k := z
        rw [decide_eq_true z] at hp'2
        cases hp'2
      · exact z
    have hsort := List.pairwise_mergeSort (le := leDn (roomOf st)) (fun a b c h1 h2 => leDn_tr _ a b c h1 h2) (fun a b => leDn_tot _ a b) (standK cs wl st k)
    rw [← List.take_append_drop (manyK cs rs wl st k).toNat ((standK cs wl st k).mergeSort (leDn (roomOf st)))] at hsort
    have hle := (List.pairwise_append.mp hsort).2.2 p.1 hl p'.1 hdrop
    unfold leDn at hle
    rw [decide_eq_true_eq, (roomOf_mem nd hp1).2, (roomOf_mem nd hp'1).2] at hle
    have b1 := N.rooms.ok _ (fit p hp1).2.1
    have b2 := N.rooms.ok _ (fit p' hp'1).2.1
    exact kd_mono hh b2.1 hle b1.2
/-- the kinds from i on -/
def kindsUp (i d : Nat) : List Int := (List.range' i d).map fun k : Nat => (k : Int)
theorem sweep_is {cs rs : List Int} {wl al : List (Int × Int)} (hh : House cs) (N : NightOk cs rs wl al) (hcap : ∀ k : Nat, k < cs.length → 0 ≤ capK cs rs wl (k : Int)) : ∀ (d i : Nat), i + d = cs.length → ∃ Ds, Sweep (capK cs rs wl) (kindsUp i d) ((sweepK cs rs wl (stayL rs wl al) i).map (wk2 cs wl)) ((stayF cs rs wl al).map (wk2 cs wl)) Ds
  | 0, i, h => by
    have e : i = cs.length := by omega
    subst e
    exact ⟨[], .nil⟩
  | d + 1, i, h => by
    obtain ⟨Ds, s⟩ := sweep_is hh N hcap d (i + 1) (by omega)
    obtain ⟨a1, a2, a3, a4, a5⟩ := step_sweep hh N (k := i) (by omega) (hcap i (by omega)) (sweepK_sub (cs := cs) (rs := rs) (wl := wl) (st := stayL rs wl al) i)
    have e : kindsUp i (d + 1) = (i : Int) :: kindsUp (i + 1) d := rfl
    rw [e]
    exact ⟨_, .cons a1 a2 a3 a4 a5 s⟩
theorem kindsUp_mem {i d : Nat} {x : Int} : x ∈ kindsUp i d ↔ (i : Int) ≤ x ∧ x < ((i + d : Nat) : Int) := by
  unfold kindsUp
  rw [List.mem_map]
  constructor
  · rintro ⟨k, hk, rfl⟩
    rw [List.mem_range'_1] at hk
    omega
  · intro h
    refine ⟨x.toNat, ?_, by omega⟩
    rw [List.mem_range'_1]
    omega
theorem kindsUp_inc (i d : Nat) : (kindsUp i d).Pairwise (· < ·) := by
  unfold kindsUp
  rw [List.pairwise_map]
  refine (List.pairwise_lt_range' (s := i) (n := d)).imp fun {a b} h => ?_
  omega
theorem caps {cs rs : List Int} {wl : List (Int × Int)} (h : shortL cs.length (wl.map fun p : Int × Int => p.2) (rs.map (kd cs)) = none) : ∀ k : Nat, k < cs.length → 0 ≤ capK cs rs wl (k : Int) := fun k hk => by
  have := hall_iff.mpr h k hk
  unfold capK
  omega
theorem want_of_mem {wl : List (Int × Int)} (hn : (wl.map fun p : Int × Int => p.1).Nodup) {p : Int × Int} (hp : p ∈ wl) : wantOf wl p.1 = p.2 := wantOf_some (lookI_mem hn hp)
theorem wants_nums {wl : List (Int × Int)} (hn : (wl.map fun p : Int × Int => p.1).Nodup) : (wl.map fun p : Int × Int => p.1).map (wantOf wl) = wl.map fun p : Int × Int => p.2 := by
  rw [List.map_map]
  exact List.map_congr_left fun p hp => want_of_mem hn hp
/-- who stays leaves enough for the others -/
theorem rest_hall {cs rs : List Int} {wl : List (Int × Int)} {st : List (Int × Int)} (hh : House cs) (ro : RoomsOk cs rs) (wn : (wl.map fun p : Int × Int => p.1).Nodup) (sn : (st.map fun p : Int × Int => p.1).Nodup) (sr : (st.map fun p : Int × Int => p.2).Nodup) (fit : ∀ p ∈ st, wantOf wl p.1 ≤ kd cs p.2 ∧ p.2 ∈ rs) (sk : ∀ p ∈ st, p.1 ∈ wl.map fun p : Int × Int => p.1)
    (hc : ∀ k : Nat, k < cs.length → (cnt (st.map (wk2 cs wl)) (k : Int) : Int) ≤ capK cs rs wl (k : Int)) : Hall cs.length ((turnL wl st).map (wantOf wl)) ((freeL rs st).map (kd cs)) := fun k hk => by
  have h0 := hc k hk
  have e0 := cnt_eq (k := (k : Int)) (B := st.map (wk2 cs wl)) fun p hp => by
    obtain ⟨q, hq, rfl⟩ := List.mem_map.mp hp
    exact (fit q hq).1
  -- the wants
  have w1 : atLeast ((turnL wl st).map (wantOf wl)) (k : Int) = atLeast ((othersL wl st).map (wantOf wl)) (k : Int) := atLeast_perm ((turn_perm wl st).map _) _
  have w2 : atLeast ((othersL wl st).map (wantOf wl)) (k : Int) + atLeast ((st.map (wk2 cs wl)).map fun p => p.1) (k : Int) = atLeast (wl.map fun p : Int × Int => p.2) (k : Int) := by
    rw [← wants_nums wn]
    unfold atLeast
    rw [filter_len_map, filter_len_map, filter_len_map, filter_len_map]
    have q1 := filter_both (fun n => (lookI st n).isSome) ((wl.map fun p : Int × Int => p.1).filter ((fun x => decide ((k : Int) ≤ x)) ∘ wantOf wl))
    have q2 : (((wl.map fun p : Int × Int => p.1).filter ((fun x => decide ((k : Int) ≤ x)) ∘ wantOf wl)).filter fun n => (lookI st n).isSome).length = (st.filter (((fun x => decide ((k : Int) ≤ x)) ∘ fun p : Int × Int => p.1) ∘ wk2 cs wl)).length := by
      rw [← List.length_map (fun p : Int × Int => p.1) (as := st.filter _)]
      refine same_len ((wn.filter _).filter _) (List.Nodup.sublist (List.Sublist.map _ List.filter_sublist) sn) fun x => ?_
      rw [List.mem_filter, List.mem_filter]
      constructor
      · rintro ⟨⟨z1, z2⟩, z3⟩
        cases q : lookI st x with
        | none =>
          rw [q] at z3
          cases z3
        | some v => exact List.mem_map.mpr ⟨(x, v), List.mem_filter.mpr ⟨lookI_in q, z2⟩, rfl⟩
      · intro z
        obtain ⟨p, hp, rfl⟩ := List.mem_map.mp z
        obtain ⟨hp1, hp2⟩ := List.mem_filter.mp hp
        obtain ⟨v, hv, _⟩ := lookI_some (List.mem_map.mpr ⟨p, hp1, rfl⟩ : p.1 ∈ st.map fun p : Int × Int => p.1)
        exact ⟨⟨sk p hp1, hp2⟩, by rw [hv]; rfl⟩
    have q3 : ((othersL wl st).filter ((fun x => decide ((k : Int) ≤ x)) ∘ wantOf wl)).length = (((wl.map fun p : Int × Int => p.1).filter ((fun x => decide ((k : Int) ≤ x)) ∘ wantOf wl)).filter fun n => !(lookI st n).isSome).length := by
      unfold othersL
      rw [List.filter_filter, List.filter_filter]
      congr 1
      refine List.filter_congr fun x _ => Bool.and_comm _ _
    omega
  -- the rooms
  have r2 : atLeast ((freeL rs st).map (kd cs)) (k : Int) + ((st.map (wk2 cs wl)).filter fun p => decide ((k : Int) ≤ p.2)).length = atLeast (rs.map (kd cs)) (k : Int) := by
    unfold atLeast
    rw [filter_len_map, filter_len_map, filter_len_map]
    have q1 := filter_both (fun r => decide (r ∈ st.map fun p : Int × Int => p.2)) (rs.filter ((fun x => decide ((k : Int) ≤ x)) ∘ kd cs))
    have q2 : ((rs.filter ((fun x => decide ((k : Int) ≤ x)) ∘ kd cs)).filter fun r => decide (r ∈ st.map fun p : Int × Int => p.2)).length = (st.filter ((fun p : Int × Int => decide ((k : Int) ≤ p.2)) ∘ wk2 cs wl)).length := by
      rw [← List.length_map (fun p : Int × Int => p.2) (as := st.filter _)]
      refine same_len (((inc_nodup ro.inc).filter _).filter _) (List.Nodup.sublist (List.Sublist.map _ List.filter_sublist) sr) fun x => ?_
      rw [List.mem_filter, List.mem_filter]
      constructor
      · rintro ⟨⟨z1, z2⟩, z3⟩
        obtain ⟨p, hp, rfl⟩ := List.mem_map.mp (of_decide_eq_true z3)
        exact List.mem_map.mpr ⟨p, List.mem_filter.mpr ⟨hp, z2⟩, rfl⟩
      · intro z
        obtain ⟨p, hp, rfl⟩ := List.mem_map.mp z
        obtain ⟨hp1, hp2⟩ := List.mem_filter.mp hp
        exact ⟨⟨(fit p hp1).2, hp2⟩, decide_eq_true (List.mem_map.mpr ⟨p, hp1, rfl⟩)⟩
    have q3 : ((freeL rs st).filter ((fun x => decide ((k : Int) ≤ x)) ∘ kd cs)).length = ((rs.filter ((fun x => decide ((k : Int) ≤ x)) ∘ kd cs)).filter fun r => !decide (r ∈ st.map fun p : Int × Int => p.2)).length := by
      unfold freeL
      rw [List.filter_filter, List.filter_filter]
      congr 1
      refine List.filter_congr fun x _ => Bool.and_comm _ _
    omega
  unfold capK at h0
  omega
end Ik

namespace Ik
open PySem PySem.Spec PyProof.Rows L2 Evl
theorem stay_fits {cs rs : List Int} {wl al : List (Int × Int)} (hh : House cs) (N : NightOk cs rs wl al) (hs : shortL cs.length (wl.map fun p : Int × Int => p.2) (rs.map (kd cs)) = none) : ∀ k : Nat, k < cs.length → (cnt ((stayF cs rs wl al).map (wk2 cs wl)) (k : Int) : Int) ≤ capK cs rs wl (k : Int) := fun k hk => by
  obtain ⟨Ds, s⟩ := sweep_is hh N (caps hs) cs.length 0 (by omega)
  exact s.fit (k : Int) (kindsUp_mem.mpr ⟨by omega, by omega⟩)
/-- a way to give rooms: each want has one of its own, of its kind or better -/
structure Way (cs rs : List Int) (wl g : List (Int × Int)) : Prop where
  nums : (g.map fun p : Int × Int => p.1).Perm (wl.map fun p : Int × Int => p.1)
  rooms : (g.map fun p : Int × Int => p.2).Nodup
  mem : ∀ p ∈ g, p.2 ∈ rs
  good : ∀ p ∈ g, wantOf wl p.1 ≤ kd cs p.2
theorem Way.perm {cs rs : List Int} {wl g g' : List (Int × Int)} (h : Way cs rs wl g) (p : g'.Perm g) : Way cs rs wl g' := ⟨(p.map _).trans h.nums, (p.map _).symm.nodup h.rooms, fun q hq => h.mem q (p.subset hq), fun q hq => h.good q (p.subset hq)⟩
theorem dict_perm {g : List (Int × Int)} (n : (g.map fun p : Int × Int => p.1).Nodup) : (dictF g).Perm g := by
  unfold dictF
  have h := (sortI_perm (g.map fun p : Int × Int => p.1)).map fun n => (n, roomOf g n)
  rw [List.map_map] at h
  have e : g.map ((fun n => (n, roomOf g n)) ∘ fun p : Int × Int => p.1) = g := by
    refine (List.map_congr_left fun p hp => ?_).trans (List.map_id g)
    show (p.1, roomOf g p.1) = p
    rw [(roomOf_mem n hp).2]
  rw [e] at h
  exact h
theorem split_perm {wl st : List (Int × Int)} (wn : (wl.map fun p : Int × Int => p.1).Nodup) (sn : (st.map fun p : Int × Int => p.1).Nodup) (sk : ∀ p ∈ st, p.1 ∈ wl.map fun p : Int × Int => p.1) : (st.map (fun p : Int × Int => p.1) ++ turnL wl st).Perm (wl.map fun p : Int × Int => p.1) := by
  refine (List.perm_ext_iff_of_nodup (List.nodup_append.mpr ⟨sn, turn_nodup wn, fun x hx y hy e => ?_⟩) wn).mpr fun x => ?_
  · rw [← e] at hy
    exact turn_out x hy hx
  · rw [List.mem_append]
    constructor
    · rintro (h | h)
      · obtain ⟨p, hp, rfl⟩ := List.mem_map.mp h
        exact sk p hp
      · exact (others_mem.mp ((turn_perm wl st).subset h)).1
    · intro h
      by_cases q : x ∈ st.map fun p : Int × Int => p.1
      · exact .inl q
      · exact .inr ((turn_perm wl st).symm.subset (others_mem.mpr ⟨h, q⟩))
theorem free_mem {rs : List Int} {st : List (Int × Int)} {r : Int} : r ∈ freeL rs st ↔ r ∈ rs ∧ r ∉ st.map fun p : Int × Int => p.2 := by
  unfold freeL
  rw [List.mem_filter]
  refine and_congr_right fun _ => ?_
  rw [Bool.not_eq_true', decide_eq_false_iff_not]
/-- those who stay keep their rooms, the others get some -/
theorem given_way {cs rs : List Int} {wl st : List (Int × Int)} (hh : House cs) (ro : RoomsOk cs rs) (wn : (wl.map fun p : Int × Int => p.1).Nodup) (wk : ∀ p ∈ wl, 0 ≤ p.2 ∧ p.2 < (cs.length : Int)) (sn : (st.map fun p : Int × Int => p.1).Nodup) (sr : (st.map fun p : Int × Int => p.2).Nodup) (fit : ∀ p ∈ st, wantOf wl p.1 ≤ kd cs p.2 ∧ p.2 ∈ rs) (sk : ∀ p ∈ st, p.1 ∈ wl.map fun p : Int × Int => p.1)
    (hc : ∀ k : Nat, k < cs.length → (cnt (st.map (wk2 cs wl)) (k : Int) : Int) ≤ capK cs rs wl (k : Int)) : ∃ ad, givenF cs rs wl st = st ++ ad ∧ Way cs rs wl (givenF cs rs wl st) := by
  have hw : ∀ n ∈ turnL wl st, 0 ≤ wantOf wl n ∧ wantOf wl n < (cs.length : Int) := fun n hn => by
    obtain ⟨v, hv, hm⟩ := lookI_some (others_mem.mp ((turn_perm wl st).subset hn)).1
    rw [wantOf_some hv]
    exact wk (n, v) hm
  obtain ⟨ad, a1, a2, a3, a4⟩ := giveL_ok hh ro (wl := wl) (ns := turnL wl st) (g := st) (free := freeL rs st) (turn_down wl st) hw ((inc_nodup ro.inc).filter _) (fun r hr => (free_mem.mp hr).1) (rest_hall hh ro wn sn sr fit sk hc)
  have e : givenF cs rs wl st = st ++ ad := a1
  refine ⟨ad, e, ?_⟩
  rw [e]
  refine ⟨?_, ?_, fun p hp => ?_, fun p hp => ?_⟩
  · rw [List.map_append, a2]
    exact split_perm wn sn sk
  · rw [List.map_append]
    refine List.nodup_append.mpr ⟨sr, a3, fun x hx y hy z => ?_⟩
    obtain ⟨p, hp, rfl⟩ := List.mem_map.mp hy
    rw [z] at hx
    exact (free_mem.mp (a4 p hp).1).2 hx
  · rcases List.mem_append.mp hp with hp | hp
    · exact (fit p hp).2
    · exact (free_mem.mp (a4 p hp).1).1
  · rcases List.mem_append.mp hp with hp | hp
    · exact (fit p hp).1
    · exact (a4 p hp).2
theorem night_way {cs rs : List Int} {wl al : List (Int × Int)} (hh : House cs) (N : NightOk cs rs wl al) (hs : shortL cs.length (wl.map fun p : Int × Int => p.2) (rs.map (kd cs)) = none) : (∃ ad, givenF cs rs wl (stayF cs rs wl al) = stayF cs rs wl al ++ ad) ∧ (nightG cs rs wl al).Perm (givenF cs rs wl (stayF cs rs wl al)) ∧ Way cs rs wl (nightG cs rs wl al) ∧ (nightG cs rs wl al).map (fun p : Int × Int => p.1) = sortI (wl.map fun p : Int × Int => p.1) := by
  have hsF := stayF_sub (cs := cs) (rs := rs) (wl := wl) (al := al)
  obtain ⟨ad, e, w⟩ := given_way hh N.rooms N.wn N.wk (nodup_sub hsF (stay_nodup N.wn)) (List.Nodup.sublist (List.Sublist.map _ hsF) (stayL_rooms N)) (fun p hp => ⟨(stayL_fit N p (hsF.subset hp)).1, (stayL_fit N p (hsF.subset hp)).2.1⟩) (fun p hp => (stay_key (hsF.subset hp)).1) (stay_fits hh N hs)
  have nd : ((givenF cs rs wl (stayF cs rs wl al)).map fun p : Int × Int => p.1).Nodup := w.nums.symm.nodup N.wn
  have pm := dict_perm nd
  refine ⟨⟨ad, e⟩, pm, w.perm pm, ?_⟩
  rw [show nightG cs rs wl al = dictF (givenF cs rs wl (stayF cs rs wl al)) from rfl, dictF_nums]
  exact sortI_of ((sortI_perm _).trans w.nums) (sortI_le _)
/-! no way moves fewer than a paper's number -/
def keptF (al g : List (Int × Int)) : List (Int × Int) := g.filter fun p => decide (lookI al p.1 = some p.2)
theorem moved_kept {cs rs : List Int} {wl al g : List (Int × Int)} (w : Way cs rs wl g) (wn : (wl.map fun p : Int × Int => p.1).Nodup) : (movedF al g).length + (keptF al g).length = (bothL wl al).length := by
  have gn : (g.map fun p : Int × Int => p.1).Nodup := w.nums.symm.nodup wn
  have e1 : (bothL wl al).length = ((g.map fun p : Int × Int => p.1).filter fun n => (lookI al n).isSome).length := (w.nums.symm.filter _).length_eq
  rw [e1, filter_len_map]
  have e2 : (movedF al g).length = ((g.filter ((fun n => (lookI al n).isSome) ∘ fun p : Int × Int => p.1)).filter fun p => !decide (lookI al p.1 = some p.2)).length := by
    unfold movedF
    rw [filter_len_map, List.filter_filter]
    congr 1
    refine List.filter_congr fun p hp => ?_
    have hz := (roomOf_mem gn hp).2
    show movedB al g p.1 = (!decide (lookI al p.1 = some p.2) && (lookI al p.1).isSome)
    unfold movedB
    cases lookI al p.1 with
    | none => rfl
    | some r =>
      show (!decide (r = roomOf g p.1)) = (!decide (some r = some p.2) && true)
      rw [hz, Bool.and_true]
      congr 1
      exact decide_eq_decide.mpr ⟨fun h => congrArg some h, fun h => Option.some.inj h⟩
  have e3 : (keptF al g).length = ((g.filter ((fun n => (lookI al n).isSome) ∘ fun p : Int × Int => p.1)).filter fun p => decide (lookI al p.1 = some p.2)).length := by
    unfold keptF
    rw [List.filter_filter]
    congr 1
    refine List.filter_congr fun p _ => ?_
    show _ = (decide (lookI al p.1 = some p.2) && (lookI al p.1).isSome)
    cases q : lookI al p.1 with
    | none => rfl
    | some r => rw [Option.isSome_some, Bool.and_true]
  have := filter_both (fun p : Int × Int => decide (lookI al p.1 = some p.2)) (g.filter ((fun n => (lookI al n).isSome) ∘ fun p : Int × Int => p.1))
  omega
theorem way_cap {cs rs : List Int} {wl g : List (Int × Int)} (w : Way cs rs wl g) (wn : (wl.map fun p : Int × Int => p.1).Nodup) (k : Int) : (cnt (g.map (wk2 cs wl)) k : Int) ≤ capK cs rs wl k := by
  have h := room_for (A := g.map (wk2 cs wl)) (ks := rs.map (kd cs)) (k := k) (fun p hp => by
    obtain ⟨q, hq, rfl⟩ := List.mem_map.mp hp
    exact w.good q hq) (by
    unfold atLeast
    rw [filter_len_map, filter_len_map]
    have q := nodup_count (fun r => decide (k ≤ kd cs r)) w.rooms (ys := rs) (fun x hx => by
      obtain ⟨p, hp, rfl⟩ := List.mem_map.mp hx
      exact w.mem p hp)
    rw [filter_len_map] at q
    have q : (g.filter ((fun p : Int × Int => decide (k ≤ p.2)) ∘ wk2 cs wl)).length ≤ (rs.filter ((fun x => decide (k ≤ x)) ∘ kd cs)).length := q
    omega)
  have e : atLeast ((g.map (wk2 cs wl)).map fun p => p.1) k = atLeast (wl.map fun p : Int × Int => p.2) k := by
    rw [← wants_nums wn, List.map_map]
    have pm := (w.nums.map (wantOf wl))
    rw [List.map_map] at pm
    exact atLeast_perm pm k
  unfold capK
  omega
theorem cnt_sub {S A : List (Int × Int)} (h : S.Sublist A) (k : Int) : cnt S k ≤ cnt A k := (h.filter _).length_le
/-- some who stay, with room for the rest: no fewer are moved than a paper's number -/
theorem paper_stay {cs rs : List Int} {wl al : List (Int × Int)} {S : List (Int × Int)} {P : List Int} (sn : S.Nodup) (hS : ∀ p ∈ S, p ∈ stayL rs wl al) (hc : ∀ k ∈ P, (cnt (S.map (wk2 cs wl)) k : Int) ≤ capK cs rs wl k) : numberN cs rs wl al P ≤ ((bothL wl al).length : Int) - S.length := by
  unfold numberN
  have h := paper_le (both := (bothL wl al).length) (rch := reachL cs rs wl al) (S := S.map (wk2 cs wl)) (ws := wl.map fun p : Int × Int => p.2) (ks := rs.map (kd cs)) (P := P) (fun f => by
    rw [reach_stay, filter_len_map, filter_len_map]
    exact nodup_count _ sn hS) hc
  rw [List.length_map] at h
  exact h
theorem way_paper {cs rs : List Int} {wl al g : List (Int × Int)} (w : Way cs rs wl g) (wn : (wl.map fun p : Int × Int => p.1).Nodup) (P : List Int) : numberN cs rs wl al P ≤ ((movedF al g).length : Int) := by
  have gn : (g.map fun p : Int × Int => p.1).Nodup := w.nums.symm.nodup wn
  have h := paper_stay (cs := cs) (al := al) (S := keptF al g) (P := P) ((nodup_of_map gn).filter _) (fun p hp => by
    obtain ⟨h1, h2⟩ := List.mem_filter.mp hp
    have h2 := of_decide_eq_true h2
    have hr := w.mem p h1
    have hn : p.1 ∈ wl.map fun p : Int × Int => p.1 := w.nums.subset (List.mem_map.mpr ⟨p, h1, rfl⟩)
    have hro : roomOf al p.1 = p.2 := by
      unfold roomOf
      rw [h2]
      rfl
    refine List.mem_map.mpr ⟨p.1, List.mem_filter.mpr ⟨hn, ?_⟩, by rw [hro]⟩
    unfold there
    rw [h2]
    exact decide_eq_true hr) (fun k _ => by
    have h1 := way_cap w wn k
    have h2 := cnt_sub (List.Sublist.map (wk2 cs wl) (List.filter_sublist (p := fun p : Int × Int => decide (lookI al p.1 = some p.2)) (l := g))) k
    have h2 : cnt ((keptF al g).map (wk2 cs wl)) k ≤ cnt (g.map (wk2 cs wl)) k := h2
    omega)
  have := moved_kept (al := al) w wn
  omega
/-! the best paper is the best -/
theorem hit_snoc {P : List Int} {k : Int} {r : Int × Int} : hit (P ++ [k]) r = (hit P r || inWay k r) := by
  cases h : (hit P r || inWay k r) with
  | true =>
    rw [Bool.or_eq_true] at h
    rcases h with h | h
    · obtain ⟨j, hj, e⟩ := often_pos.mp h
      exact often_pos.mpr ⟨j, List.mem_append_left _ hj, e⟩
    · exact often_pos.mpr ⟨k, List.mem_append_right _ (List.mem_singleton.mpr rfl), h⟩
  | false =>
    rw [Bool.or_eq_false_iff] at h
    cases q : hit (P ++ [k]) r with
    | false => rfl
    | true =>
      obtain ⟨j, hj, e⟩ := often_pos.mp q
      rcases List.mem_append.mp hj with hj | hj
      · rw [often_pos.mpr ⟨j, hj, e⟩] at h
        cases h.1
      · rw [List.mem_singleton.mp hj] at e
        rw [e] at h
        cases h.2
theorem hits_snoc (P : List Int) (k : Int) : ∀ rch : List (Int × Int), (rch.filter (hit (P ++ [k]))).length = (rch.filter (hit P)).length + (rch.filter fun r => inWay k r && !hit P r).length
  | [] => rfl
  | r :: t => by
    have ih := hits_snoc P k t
    rw [List.filter_cons, List.filter_cons, List.filter_cons, hit_snoc]
    cases hit P r <;> cases inWay k r <;> simp <;> omega
theorem number_snoc {cs rs : List Int} {wl al : List (Int × Int)} (P : List Int) (k : Int) : numberN cs rs wl al (P ++ [k]) = numberN cs rs wl al P + ((atLeast (wl.map fun p : Int × Int => p.2) k : Int) - atLeast (rs.map (kd cs)) k) + (((reachL cs rs wl al).filter fun r => inWay k r && !hit P r).length : Int) := by
  unfold numberN paperN
  rw [hits_sum, hits_sum, hits_snoc, List.map_append, List.sum_append]
  simp
  omega
/-- what a kind adds hangs on the last one alone -/
theorem last_only {k : Nat} {P Q : List Int} (hP : PaperTo k P) (hQ : PaperTo k Q) (hl : P.getLast? = Q.getLast?) (r : Int × Int) : (inWay (k : Int) r && !hit P r) = (inWay (k : Int) r && !hit Q r) := by
  cases hk : inWay (k : Int) r with
  | false => rfl
  | true =>
    have key : ∀ {R : List Int} {l : Int}, PaperTo k R → R.getLast? = some l → hit R r = decide (r.1 < l) := fun {R l} hR hl => by
      obtain ⟨R', rfl⟩ : ∃ R', R = R' ++ [l] := by
        rcases List.eq_nil_or_concat R with rfl | ⟨R', b, rfl⟩
        · cases hl
        · rw [List.concat_eq_append, List.getLast?_concat] at hl
          rw [Option.some.inj hl, List.concat_eq_append]
          exact ⟨R', rfl⟩
      have hb := hR.1 l (by simp)
      have hkk := inWay_iff.mp hk
      by_cases q : r.1 < l
      · rw [decide_eq_true q]
        exact often_pos.mpr ⟨l, by simp, inWay_iff.mpr ⟨q, by omega⟩⟩
      · rw [decide_eq_false q]
        cases z : hit (R' ++ [l]) r with
        | false => rfl
        | true =>
          obtain ⟨j, hj, e⟩ := often_pos.mp z
          have e := inWay_iff.mp e
          rcases List.mem_append.mp hj with hj | hj
          · have := (List.pairwise_append.mp hR.2).2.2 j hj l (List.mem_singleton.mpr rfl)
            omega
          · rw [List.mem_singleton.mp hj] at e
            omega
    cases hq : Q.getLast? with
    | none =>
      rw [hq] at hl
      rw [List.getLast?_eq_none_iff.mp hl, List.getLast?_eq_none_iff.mp hq]
    | some l =>
      rw [hq] at hl
      rw [key hP hl, key hQ hq]
theorem best_dp {cs rs : List Int} {wl al : List (Int × Int)} : ∀ (k : Nat) (Q : List Int), PaperTo k Q → ∃ R ∈ papersL (numberN cs rs wl al) k, numberN cs rs wl al Q ≤ numberN cs rs wl al R ∧ R.getLast? = Q.getLast?
  | 0, Q, h => by
    have e : Q = [] := by
      cases Q with
      | nil => rfl
      | cons x t =>
        have := h.1 x List.mem_cons_self
        omega
    subst e
    exact ⟨[], List.mem_singleton.mpr rfl, Int.le_refl _, rfl⟩
  | k + 1, Q, h => by
    by_cases hq : ∃ Q', Q = Q' ++ [(k : Int)]
    · obtain ⟨Q', rfl⟩ := hq
      have hQ' : PaperTo k Q' := by
        refine ⟨fun x hx => ?_, (List.pairwise_append.mp h.2).1⟩
        have h1 := h.1 x (List.mem_append_left _ hx)
        have h2 := (List.pairwise_append.mp h.2).2.2 x hx (k : Int) (List.mem_singleton.mpr rfl)
        omega
      obtain ⟨R, hR, hle, hl⟩ := best_dp k Q' hQ'
      have hRo := papersL_ok k R hR
      obtain ⟨m1, m2⟩ := firstMax_mem (f := numberN cs rs wl al) (d := []) (xs := (papersL (numberN cs rs wl al) k).map fun P => P ++ [(k : Int)]) (by rw [ne_eq, List.map_eq_nil_iff]; exact papersL_ne k)
      refine ⟨firstMax (numberN cs rs wl al) [] ((papersL (numberN cs rs wl al) k).map fun P => P ++ [(k : Int)]), List.mem_append_right _ (List.mem_singleton.mpr rfl), ?_, ?_⟩
      · have h1 := m2 (R ++ [(k : Int)]) (List.mem_map.mpr ⟨R, hR, rfl⟩)
        rw [number_snoc] at h1
        rw [number_snoc]
        have e : ((reachL cs rs wl al).filter fun r => inWay (k : Int) r && !hit R r) = ((reachL cs rs wl al).filter fun r => inWay (k : Int) r && !hit Q' r) := List.filter_congr fun r _ => last_only hRo hQ' hl r
        rw [e] at h1
        omega
      · obtain ⟨R2, _, e⟩ := List.mem_map.mp m1
        rw [← e]
        simp
    · have hQ' : PaperTo k Q := by
        refine ⟨fun x hx => ?_, h.2⟩
        have h1 := h.1 x hx
        refine ⟨h1.1, ?_⟩
        have : x ≠ (k : Int) := fun z => by
          subst z
          rcases List.eq_nil_or_concat Q with rfl | ⟨Q', b, rfl⟩
          · cases hx
          · rw [List.concat_eq_append] at h hx hq
            rcases List.mem_append.mp hx with hx | hx
            · have h2 := (List.pairwise_append.mp h.2).2.2 _ hx b (List.mem_singleton.mpr rfl)
              have h3 := h.1 b (by simp)
              omega
            · rw [List.mem_singleton.mp hx] at hq
              exact hq ⟨Q', rfl⟩
        omega
      obtain ⟨R, hR, hle, hl⟩ := best_dp k Q hQ'
      exact ⟨R, List.mem_append_left _ hR, hle, hl⟩
theorem best_ge {cs rs : List Int} {wl al : List (Int × Int)} {Q : List Int} (h : PaperTo cs.length Q) : numberN cs rs wl al Q ≤ numberN cs rs wl al (bestP cs rs wl al) := by
  obtain ⟨R, hR, hle, _⟩ := best_dp (cs := cs) (rs := rs) (wl := wl) (al := al) cs.length Q h
  exact Int.le_trans hle ((firstMax_mem (f := numberN cs rs wl al) (d := []) (papersL_ne cs.length)).2 R hR)
/-- the paper's number is how many are moved -/
theorem night_number {cs rs : List Int} {wl al : List (Int × Int)} (hh : House cs) (N : NightOk cs rs wl al) (hs : shortL cs.length (wl.map fun p : Int × Int => p.2) (rs.map (kd cs)) = none) : numberN cs rs wl al (bestP cs rs wl al) = ((movedF al (nightG cs rs wl al)).length : Int) := by
  obtain ⟨⟨ad, ea⟩, pm, w, _⟩ := night_way hh N hs
  have low := way_paper (al := al) w N.wn (bestP cs rs wl al)
  -- a paper that agrees with those who stay
  obtain ⟨Ds, s⟩ := sweep_is hh N (caps hs) cs.length 0 (by omega)
  obtain ⟨P, h1, h2, h3, h4⟩ := s.paper (kindsUp_inc 0 cs.length)
  have hsub : ∀ x ∈ P, 0 ≤ x ∧ x < (cs.length : Int) := fun x hx => by
    have := kindsUp_mem.mp (h1.subset hx)
    omega
  have hP : PaperTo cs.length P := ⟨hsub, List.Pairwise.sublist h1 (kindsUp_inc 0 cs.length)⟩
  have e : numberN cs rs wl al P = ((bothL wl al).length : Int) - (stayF cs rs wl al).length := by
    unfold numberN
    rw [paper_eq (S := (stayF cs rs wl al).map (wk2 cs wl)) ?_ h3 h4, List.length_map]
    have pq : (reachL cs rs wl al).Perm ((stayF cs rs wl al).map (wk2 cs wl) ++ Ds) := by
      rw [reach_stay]
      exact s.perm
    have z := (pq.filter fun p => !hit P p).length_eq
    rw [List.filter_append, List.length_append, filter_none (l := Ds)] at z
    · exact z.symm
    · intro d hd
      rw [h2 d hd]
      rfl
  have up := best_ge (rs := rs) (wl := wl) (al := al) hP
  -- those who stay are kept
  have gn : ((nightG cs rs wl al).map fun p : Int × Int => p.1).Nodup := w.nums.symm.nodup N.wn
  have hk := moved_kept (al := al) w N.wn
  have hsF := stayF_sub (cs := cs) (rs := rs) (wl := wl) (al := al)
  have hst : (stayF cs rs wl al).length ≤ (keptF al (nightG cs rs wl al)).length := by
    have z := nodup_count (fun _ => true) (xs := stayF cs rs wl al) (ys := keptF al (nightG cs rs wl al)) (nodup_of_map (nodup_sub hsF (stay_nodup N.wn))) fun p hp => by
      refine List.mem_filter.mpr ⟨pm.symm.subset (by rw [ea]; exact List.mem_append_left _ hp), decide_eq_true (stayL_fit N p (hsF.subset hp)).2.2⟩
    rw [filter_tt, filter_tt] at z
    exact z
  omega
end Ik

/-! ### own classes whose methods may raise -/
namespace L2N
open PySem PySem.Spec PyProof.Rows L2
section
variable {X : Cx} {k : Nat} {f C : Addr} {fd : FuncData} {ps : List Str} {sp : Sp} {E : L2.St → XK} {x m : Str} {q pos apos p : Pos} {e o : Expr} {es : List Expr} {ta : TE} {t : TA}
/-- o.m(..), o of the class at C; what it lets out is E's -/
def tMethS (C : Addr) (m : Str) (sp : Sp) (E : L2.St → XK) (ta : TE) (t : TA) : TE := fun σ H Q => ta σ H fun x H1 => ∃ a dx fs, x = .ref a ∧ H1 a = some (.ins C dx fs) ∧ fs.lookup m = none ∧ t σ H1 fun vs H2 => sp (x :: vs) H2 Q (E σ)
theorem pe_methS {CX : CXT} {pl : Sem Bool} (he : PE X o ta) (c : Cls X.K C) (hm : Meth X.K C m f) (F : FnOk X.prog X.w X.K X.mg X.base CX k f fd ps sp) (hr : Room k X.A) (hb : Binds X.K fd ps []) (hx : ∀ σ, PassesAt CX X σ (E σ)) (ha : PA X (e :: es) t)
    (hst : starEach (e :: es) X.env = (false, eval e X.env) :: starEach es X.env := by rfl) (hpl : (backTo pos (starEach es X.env)).any (·.1) = false := by rfl)
    (ht : eval (.Call (.Attribute o m apos) (e :: es) [] pos) X.env = (do
      let ov ← eval o X.env
      standAt apos.atName
      let (f, first) ← holding [ov] (getMethod ov m pl)
      callWith pos f first (backTo pos (starEach (e :: es) X.env)) (backToKw pos (keywordEach [] X.env))) := by rfl) :
    PE X (.Call (.Attribute o m apos) (e :: es) [] pos) (tMethS C m sp E ta t) := by
  refine ⟨fun pins s σ H Q I h => ?_⟩
  refine PySem.W.methodCall_KW (pl := pl) (thn (he.run pins s σ H _ I h) fun u s1 ⟨x, H1, I1, rx, a, dx, fs, ex, ea, l, q⟩ => ?_) ht
  subst ex
  obtain rfl : u = Value.ref a := rx
  refine getmeth_ok I1 ea c hm l ?_
  refine PySem.W.callWith_K (first := [.ref a]) (h₀ := X.base) I.ok.mod.kin hm.kp (thn (ha.run pos pins s1 σ H1 _ I1 q) fun us s2 ⟨vs, H2, I2, r, q2⟩ => ⟨I2.kIn, ?_⟩) hst hpl
  exact run_fnS (us := .ref a :: us) (vs := .ref a :: vs) F hr hb (hx σ) I2 (.cons rfl r) q2
theorem pe_methS0 {CX : CXT} {pl : Sem Bool} (he : PE X o ta) (c : Cls X.K C) (hm : Meth X.K C m f) (F : FnOk X.prog X.w X.K X.mg X.base CX k f fd ps sp) (hr : Room k X.A) (hb : Binds X.K fd ps []) (hx : ∀ σ, PassesAt CX X σ (E σ))
    (ht : eval (.Call (.Attribute o m apos) [] [] pos) X.env = (do
      let ov ← eval o X.env
      standAt apos.atName
      let (f, first) ← holding [ov] (getMethod ov m pl)
      callWith pos f first (backTo pos (starEach [] X.env)) (backToKw pos (keywordEach [] X.env))) := by rfl) :
    PE X (.Call (.Attribute o m apos) [] [] pos) (tMethS C m sp E ta tNil) := by
  refine ⟨fun pins s σ H Q I h => ?_⟩
  refine PySem.W.methodCall_KW (pl := pl) (thn (he.run pins s σ H _ I h) fun u s1 ⟨x, H1, I1, rx, a, dx, fs, ex, ea, l, q⟩ => ?_) ht
  subst ex
  obtain rfl : u = Value.ref a := rx
  refine getmeth_ok I1 ea c hm l ?_
  exact PySem.W.callWith_K0 (first := [.ref a]) I1.kIn hm.kp (run_fnS (us := [.ref a]) (vs := [.ref a]) F hr hb (hx σ) I1 (.cons rfl .nil) q)
/-- C(..), its __init__ may raise -/
def tMakeS (C : Addr) (sp : Sp) (E : L2.St → XK) (t : TA) : TE := fun σ H Q => t σ H fun vs H1 => ∀ x dx, H1 x = none → H1 dx = none → dx ≠ x → sp (.ref x :: vs) (upd (upd H1 dx (.own x)) x (.ins C dx [])) (fun v H2 => v = .non ∧ Q (.ref x) H2) (E σ)
theorem pe_makeS {CX : CXT} (M : Mk X.K C f) (F : FnOk X.prog X.w X.K X.mg X.base CX k f fd ps sp) (hr : Room (k + 1) X.A) (hg : Gl X x) (hm : X.mg x = some (.ref C)) (hb : Binds X.K fd ps []) (hx : ∀ σ, PassesAt CX X σ (E σ)) (ha : PA X (e :: es) t)
    (hdb : (x == ("__debug__" : Str)) = false := by decide) (he : starEach (e :: es) X.env = (false, eval e X.env) :: starEach es X.env := by rfl) (hpl : (backTo pos (starEach es X.env)).any (·.1) = false := by rfl) :
    PE X (.Call (.Name x p) (e :: es) [] pos) (tMakeS C sp E t) := by
  refine ⟨fun pins s σ H Q I h => ?_⟩
  refine wpAny_Call_Name_kw (ld_glob I hg hm ?_ hdb)
  refine PySem.W.callWith_K (h₀ := X.base) I.ok.mod.kin M.kp (thn (ha.run pos pins s σ H _ I h) fun us s1 ⟨vs, H1, I1, r, q⟩ => ⟨I1.kIn, ?_⟩) he hpl
  have hq := q (s1.heap.objs.size + 1) s1.heap.objs.size (I1.hok.fresh (Nat.le_succ _)) (I1.hok.fresh (Nat.le_refl _)) (Nat.ne_of_lt (Nat.lt_succ_self _))
  have I2 := Inv.made (C := C) I1
  have r2 : Vals (V.ref (s1.heap.objs.size + 1) :: vs) (Value.ref (s1.heap.objs.size + 1) :: us) := .cons rfl r
  have hl : (Value.ref (s1.heap.objs.size + 1) :: us ++ []).length = ps.length := by
    rw [List.append_nil]
    have e := r2.length
    rw [F.len _ _ _ _ hq] at e
    exact e.symm
  have b := hb _ (Value.ref (s1.heap.objs.size + 1) :: us) I2.kIn hl
  rw [List.append_nil] at b
  refine wpAny_call (make_map (f := f) I1.kIn M.makes M.init (beq_iff_eq.mp M.fn) (codeAny_mono (F.run _ X.stack _ _ ⟨Value.ref (s1.heap.objs.size + 1) :: us, []⟩ (Value.ref (s1.heap.objs.size + 1) :: us) _ _ (E σ) (hr.make C us [])
    (I2.env0.make C us []) b r2 hq) fun r s' hq' => ?_))
  cases r with
  | error e => exact hx σ pins _ _ e s' I2 hq'
  | ok fl =>
    cases fl with
    | ret u =>
      obtain ⟨v, H', I3, rv, ev, q3⟩ := I2.after hq'
      subst ev
      exact ⟨rv, ⟨V.ref (s1.heap.objs.size + 1), H', I3, rfl, q3⟩⟩
    | next => exact False.elim hq'
    | brk => exact False.elim hq'
    | cont => exact False.elim hq'
/-- o.f as a target -/
def gFld (K : PySem.W.Frag) (to : TE) (f : Str) : TG := fun v σ H Q => to σ H fun x H1 => ∃ a C dx fs, x = .ref a ∧ H1 a = some (.ins C dx fs) ∧ Cls K C ∧ NoAttr K C f ∧ fs.length < 1000 ∧ Q σ (upd H1 a (.ins C dx (putF f v fs)))
theorem pg_fld {f : Str} {to : TE} (ho : PE X o to) : PG X (.Attribute o f pos) (gFld X.K to f) := by
  refine ⟨fun pins s σ H v u Q I r h => ?_⟩
  rw [assign_Attribute]
  refine wpAny_bind (wpAny_holding (thn (ho.run pins s σ H _ I h) fun ov s1 ⟨x, H1, I1, rx, a, C, dx, fs, ex, ea, c, n, l, q⟩ => ?_))
  subst ex
  obtain rfl : ov = Value.ref a := rx
  refine wpAny_bind (wpAny_standAt ?_)
  exact wpAny_bind (wpAny_holding (setattr_ok I1 ea c n l r fun s2 I2 => wpAny_release ⟨σ, _, I2, q⟩))
end
section
variable {X : Cx} {C : Addr} {bmB : List Value} {B newId initId : String}
/-- X(e), e a text -/
theorem pmk_ownE {x : Str} {e : Expr} {te : TE} {p pos : Pos} (F : ExcBaseFacts B newId initId bmB) (q : PySem.W.excIn X.K C bmB newId = true) (gC : X.mg x = some (.ref C)) (kC : PySem.W.keepIn X.K (.ref C) = true) (r : Raises X (.ref C)) (hg : Gl X x) (he : PE X e te)
    (hdb : (x == ("__debug__" : Str)) = false := by decide) (hs : starEach [e] X.env = (false, eval e X.env) :: starEach [] X.env := by rfl) : PMk X (.Call (.Name x p) [e] [] pos) (fun σ H Q => te σ H fun v H1 => ∃ m, [v] = [V.str m] ∧ Q (.ref C) none H1) := by
  intro pins s σ H Q I h
  refine wpAny_Call_Name_kw (ld_glob I hg gC ?_ hdb)
  have ha : PA X [e] (tCons te tNil) := pa_cons he pa_nil hs
  refine PySem.W.callWith_K (h₀ := X.base) I.ok.mod.kin kC (thn (ha.run pos pins s σ H (fun vs H1 => ∃ m, vs = [V.str m] ∧ Q (.ref C) none H1) I h) fun us s1 hh => ?_) hs (by rfl)
  obtain ⟨vs, H1, I1, r1, m, ev, q1⟩ := hh
  subst ev
  refine ⟨I1.kIn, ?_⟩
  cases r1 with
  | cons ru rn =>
    rename_i u us'
    cases rn
    show wpAny _ _ (call (.ref C) [u]) _ _ _
    obtain ⟨bm, N, nm, qn, bs, hdct, sn, sub, ab, col, dd, k0, k1, k2, k3, k5, mN, hC, hN, hni, T⟩ := exc_obj I1.kIn q
    refine wpAny_call_exc_subT F T hC hN hni (fun h' e hm => ?_) (by show 1 ≤ sizeLine; rw [sizeLine_eq]; omega)
    exact mk_of I1 hm r q1 (I1.hok.gone hm.new)
end
end L2N

/-! ### {**d, k: v} -/
namespace PySem
section
variable {prog : Program} {w : World} {K : Type} [DecidableEq K] {knd : KeyKind prog w K} {A : Around} {E : Value → Shared → Prop} {s : Shared}
theorem ik_dictPut {d : Addr} {kvs : List (K × Value)} {k : K} {key v : Value} {Q : Unit → Shared → Prop} (hkey : knd.is k key = true) (hm : s.heap.DictOf knd d kvs)
    (hQ : ∀ h', h'.DictOf knd d (stored kvs k v) → Heap.SameBut d s.heap h' → Q () { s with heap := h' })
    (hsz : kvs.length ≤ sizeLine) : wpAny (model prog w) A (dictPut d (knd.hash k) key v) Q E s := by
  obtain ⟨o, es, ep, ho, hc, hd, hk, hp, hn⟩ := hm
  have hes : es.size ≤ sizeLine := by have e1 := hp.length; have e2 : es.toList.length = es.size := by simp
                                      omega
  unfold dictPut
  refine wpAny_bind (wpAny_dictFind_of hkey ho hd hk ?_)
  have hidx : (es.findIdx? fun e => knd.is k e.key) = kvs.findIdx? fun kv => decide (kv.1 = k) := by
    rw [← hp.findIdx k]; obtain ⟨l⟩ := es; simp
  cases hi : es.findIdx? fun e => knd.is k e.key with
  | some i =>
    refine wpAny_updateDict ho hd (hQ _ ⟨_, _, ep, Heap.get?_update_self _ ho (Obj.isFreed_of_dict (Obj.data_mapDict hd _)),
      hc.mapDict _, Obj.data_mapDict hd _, hk.modify _ _, ?_, ?_⟩ (Heap.SameBut.update ..))
    · rw [stored, if_pos (any_of_findIdx_some (hidx ▸ hi))]
      have hl : (es.toList.findIdx? fun e => knd.is k e.key) = some i := by rw [← hi]; obtain ⟨l⟩ := es; simp
      have := hp.modify hn hl v
      obtain ⟨l⟩ := es
      simpa using this
    · rw [stored, if_pos (any_of_findIdx_some (hidx ▸ hi)), keys_map_store]; exact hn
  | none =>
    have hnot : k ∉ kvs.map (·.1) := not_mem_of_findIdx_none (hidx ▸ hi)
    have hany : ¬ (kvs.any fun kv => decide (kv.1 = k)) = true := by
      rw [List.any_eq_true]; rintro ⟨kv, hkv, he⟩
      exact hnot (List.mem_map.mpr ⟨kv, hkv, of_decide_eq_true he⟩)
    refine wpAny_updateDictKeys (hz := hes) ho hd (hQ _ ⟨_, _, ep + 1, Heap.get?_update_self _ ho (Obj.isFreed_of_dict (Obj.data_mapDictKeys hd _)),
      hc.mapDictKeys _, Obj.data_mapDictKeys hd _, hk.push hkey _, ?_, ?_⟩ (Heap.SameBut.update ..))
    · rw [stored, if_neg hany]
      have := hp.append hkey (knd.hash k) v
      obtain ⟨l⟩ := es
      simpa using this
    · rw [stored, if_neg hany, List.map_append, List.nodup_append]
      refine ⟨hn, by simp, ?_⟩
      intro a ha b hb
      simp only [List.map_cons, List.map_nil, List.mem_singleton] at hb
      subst hb
      exact fun e => hnot (e ▸ ha)
theorem ik_mergeMapping {d o : Addr} {kvs more : List (K × Value)} {Q : Unit → Shared → Prop} (hdo : d ≠ o) (hoS : (o == sysModules) = false)
    (hd : s.heap.DictOf knd d kvs) (ho : s.heap.DictOf knd o more)
    (hQ : ∀ h', h'.DictOf knd d (merged kvs more) → h'.DictOf knd o more → Heap.SameBut d s.heap h' → Q () { s with heap := h' })
    (hsz : kvs.length + more.length ≤ sizeLine) : wpAny (model prog w) A (mergeMapping d (.ref o) false) Q E s := by
  obtain ⟨od, esd, epd, hod, hcd, hdd, hkd, hpd, hnd⟩ := id hd
  obtain ⟨oo, eso, epo, hoo, hco, hdo', hko, hpo, hno⟩ := id ho
  have hlen : more.length = eso.size := by rw [← hpo.length]; simp
  unfold mergeMapping
  refine wpAny_bind (wpAny_isInstance (T := "dict") ho.typeIs PySem.F.sub_dict_dict ?_)
  rw [if_pos rfl]
  refine wpAny_bind (wpAny_specialOf ho.typeIs F.slot_dict_iter.lookup ?_)
  rw [show ((some (Value.builtin "dict.__iter__") : Option Value) == some (.builtin "dict.__iter__")) = true from by decide]
  refine wpAny_bind (wpAny_pure ?_)
  dsimp only
  rw [if_neg (by rw [hoS]; exact Bool.false_ne_true)]
  refine wpAny_bind (wpAny_dictEntries hod hdd ?_)
  split
  case' isTrue =>
    refine wpAny_bind (wpAny_dictEntries hoo hdo' ?_)
    refine wpAny_bind (wpAny_of_eq (a := PUnit.unit) ?eq ?tail)
    case eq =>
      rw [← Array.forIn_toList]
      refine forIn_yield_id _ fun e he c => ?_
      obtain ⟨k, hkey, _⟩ := hko e (Array.mem_toList_iff.mp he)
      have hb := knd.byValue k _ hkey
      split
      · next a ha =>
        rw [ha] at hb
        exact absurd hb Bool.false_ne_true
      · rfl
  all_goals
    refine wpAny_bind (wpAny_dictEntries hoo hdo' ?_)
    refine wpAny_bind (wpAny_dictEpoch hoo hdo' ?_)
    refine wpAny_bind ?_
    rw [List.range_eq_range']
    refine wpAny_forIn_list _
      (fun rest _ s' => ∃ h' i, s' = { s with heap := h' } ∧ rest = List.range' i (eso.size - i) ∧ i ≤ eso.size ∧ h'.DictOf knd d (merged kvs (more.take i)) ∧ h'.get? o = some oo ∧ Heap.SameBut d s.heap h')
      _ ?_ ?_ _ _ ⟨s.heap, 0, rfl, by simp, Nat.zero_le _, by simpa [merged] using hd, hoo, Heap.SameBut.refl _ _⟩
    · rintro x rest b s' ⟨h', i, rfl, hr, hi, hd', hoo', hs'⟩
      have hlt : i < eso.size := by
        rcases Nat.lt_or_ge i eso.size with h | h
        · exact h
        · rw [Nat.sub_eq_zero_of_le h] at hr; simp at hr
      obtain ⟨rfl, hrest⟩ : x = i ∧ rest = List.range' (i + 1) (eso.size - (i + 1)) := by
        have e : eso.size - i = (eso.size - (i + 1)) + 1 := by omega
        rw [e, List.range'_succ] at hr
        injection hr with h1 h2
        exact ⟨h1, h2⟩
      refine wpAny_bind (wpAny_dictEntries hoo' hdo' ?_)
      rw [Array.getElem?_eq_getElem hlt]
      obtain ⟨kv, hkv⟩ : ∃ kv, more[x]? = some kv := ⟨more[x]'(by rw [hlen]; exact hlt), List.getElem?_eq_getElem _⟩
      obtain ⟨k, v⟩ := kv
      obtain ⟨hkey, hval⟩ := hpo.get? (e := eso[x]) (by simp [hlt]) hkv
      obtain ⟨k', hkey', hhash⟩ := hko eso[x] (Array.getElem_mem hlt)
      obtain rfl : k' = k := knd.inj _ _ _ hkey' hkey
      show wpAny _ _ (holding [eso[x].key, eso[x].val] (dictPut d eso[x].hash eso[x].key eso[x].val) >>= _) _ _ _
      rw [hhash, hval]
      have hmx : (merged kvs (more.take x)).length ≤ sizeLine := by
        have e1 := merged_length_le kvs (more.take x)
        have e2 : (more.take x).length ≤ more.length := by rw [List.length_take]; omega
        omega
      refine wpAny_bind (wpAny_holding (ik_dictPut (hsz := hmx) hkey hd' fun h'' hd'' hs'' => ?_))
      have hoo'' : h''.get? o = some oo := (hs''.2 o (Ne.symm hdo)).trans hoo'
      refine wpAny_bind (wpAny_dictEpoch hoo'' hdo' ?_)
      rw [if_neg (by simp)]
      exact wpAny_pure ⟨h'', x + 1, rfl, hrest, hlt, by rw [merged_take_succ kvs more x (k', v) hkv]; exact hd'', hoo'', hs'.trans hs''⟩
    · rintro b s' ⟨h', i, rfl, hr, hi, hd', hoo', hs'⟩
      have hin : i = eso.size := by
        rcases Nat.lt_or_ge i eso.size with h | h
        · have e : eso.size - i = (eso.size - (i + 1)) + 1 := by omega
          rw [e, List.range'_succ] at hr; exact nomatch hr
        · exact Nat.le_antisymm hi h
      refine wpAny_pure (hQ h' ?_ ⟨oo, eso, epo, hoo', hco, hdo', hko, hpo, hno⟩ hs')
      rw [hin, ← hlen, List.take_length] at hd'; exact hd'
end
end PySem

namespace L2
open PySem PySem.Spec PyProof.Rows
/-- {**d, k: v}; the new dict stands from the start -/
def tDStar (td tk tv : TE) : TE := fun σ H Q => ∀ d, H d = none → td σ (upd H d (.dK [])) fun x H1 => ∃ (o : Addr) (kvs : List (Key × V)), x = .ref o ∧ d ≠ o ∧ H1 o = some (.dK kvs) ∧ H1 d = some (.dK []) ∧ kvs.length ≤ 1000 ∧
  ∀ q, upd H1 d (.dK (mergeK [] kvs)) q = none → tPairs [(tk, tv)] σ (upd (upd H1 d (.dK (mergeK [] kvs))) q (.dK [])) fun ps H2 => ∃ k v, ps = [(kV k, v)] ∧ H2 q = some (.dK []) ∧ H2 d = some (.dK (mergeK [] kvs)) ∧ d ≠ q ∧
    Q (.ref d) (upd (upd H2 q (.dK (mergeK [] [(k, v)]))) d (.dK (mergeK (mergeK [] kvs) (mergeK [] [(k, v)]))))
theorem pe_dstar {X : Cx} {de ke ve : Expr} {td tk tv : TE} {pos : Pos} (hd : PE X de td) (hp : PPs X pos [some ke] [ve] [(tk, tv)]) : PE X (.Dict [none, some ke] [de, ve] pos) (tDStar td tk tv) := by
  refine ⟨fun pins s σ H Q I q => ?_⟩
  have hsh : (evalEachOpt [none, some ke] X.env).zip ((evalEach [de, ve] X.env).map fun v => do let x ← v; standAt pos; pure x) = [(none, do let x ← eval de X.env; standAt pos; pure x), (some (eval ke X.env), do let x ← eval ve X.env; standAt pos; pure x)] := by simp [evalEachOpt, evalEach, evalOpt]
  have hpt : pairTrees [some ke] [ve] X.env pos = [(eval ke X.env, do let x ← eval ve X.env; standAt pos; pure x)] := by first | rfl | simp [pairTrees, evalEachOpt, evalEach]
  rw [arm_eval_Dict, hsh]
  unfold dictDisplay
  simp only [List.forIn_cons, List.forIn_nil, bind_assoc, pure_bind, List.isEmpty_nil, if_true, List.nil_append, List.isEmpty_cons, Bool.false_eq_true, if_false, List.length_cons, List.length_nil]
  have e17 : ((0 + 1 : Nat) == 17) = false := rfl
  simp only [e17, Bool.false_eq_true, if_false, pure_bind, List.isEmpty_cons, bind_assoc]
  refine wpAny_bind (wpAny_standAt ?_)
  refine wpAny_bind (wpAny_alloc ?_)
  have hn := I.hok.fresh (Nat.le_refl s.heap.objs.size)
  have I1 := I.laid (a := s.heap.objs.size) (o := .dK []) (h' := s.heap.push { cls := .type "dict", data := .dict #[] }) (t' := s.toks) (fun _ _ q => Heap.get?_push_of_some _ q) (Nat.le_refl _) (dk_empty s.heap I.big)
  generalize s.heap.objs.size = d at hn I1 ⊢
  refine wpAny_bind (wpAny_holding (wpAny_bind (thn (hd.run pins _ σ _ _ I1 (q _ hn)) fun u s2 hx => wpAny_bind (wpAny_standAt (wpAny_pure ?_)))))
  obtain ⟨x, H2, I2, rx, o, kvs, ex, ne, eo, ed, lk, q2⟩ := hx
  subst ex
  obtain rfl : u = Value.ref o := rx
  obtain ⟨z1, hd1, vs1, r1, dd1⟩ := dk_of I2.hok ed
  obtain ⟨z2, hd2, vs2, r2, dd2⟩ := dk_of I2.hok eo
  have hl1 := r1.length
  have hl2 := r2.length
  have h100 : 100000 ≤ sizeLine := by decide
  refine wpAny_bind (wpAny_onRaise (wpAny_tryCatch (wpAny_onRaise (wpAny_holding (ik_mergeMapping ne hd2 dd1 dd2 (fun h' dd' _ hs => ?_) (by rw [← hl1, ← hl2, List.length_nil]; omega))))))
  have hz : (mergeK [] kvs).length ≤ sizeLine := by
    have h1 := length_mergeK kvs []
    rw [List.length_nil] at h1
    omega
  have he : ∃ q, h'.get? d = some q := let ⟨q, _, _, hq, _⟩ := dd'; ⟨q, hq⟩
  have I3 := d_write (ob := .dK (mergeK [] kvs)) (t' := s2.toks) I2 (by rw [ed]; exact True.intro) hs he (dk_new hz hd1 (r2.merge r1) dd')
  have hn3 := I3.hok.fresh (Nat.le_refl h'.objs.size)
  have I4 := I3.laid (a := h'.objs.size) (o := .dK []) (h' := h'.push { cls := .type "dict", data := .dict #[] }) (t' := s2.toks) (fun _ _ q => Heap.get?_push_of_some _ q) (Nat.le_refl _) (dk_empty h' I3.big)
  refine wpAny_bind (wpAny_holding (wpAny_subDict (knd := mixKind X.prog X.w) (by show 1 ≤ 15; decide) ?_))
  have hq2 := q2 _ hn3
  have hr := hp.run pins _ σ _ _ I4 hq2
  rw [hpt] at hr
  refine thn hr fun ws s5 hy => ?_
  obtain ⟨ps, H5, I5, rel, k, v, ep, eq5, ed5, nq, q5⟩ := hy
  subst ep
  obtain ⟨rs, c, rk⟩ := carries_of (P := X.prog) (w := X.w) (kvs := [(k, v)]) rel
  obtain ⟨zq, hdq, vs0, r0, ddq⟩ := dk_of I5.hok eq5
  cases r0
  refine ⟨rs, c, ddq, fun h6 dd6 hs6 => ?_⟩
  have hz6 : (mergeK [] [(k, v)]).length ≤ 1 := by
    have h1 := length_mergeK [(k, v)] []
    rw [List.length_nil] at h1
    exact h1
  have he6 : ∃ q, h6.get? h'.objs.size = some q := let ⟨q, _, _, hq, _⟩ := dd6; ⟨q, hq⟩
  have I6 := d_write (ob := .dK (mergeK [] [(k, v)])) (t' := s5.toks + ws.length) I5 (by rw [eq5]; exact True.intro) hs6 he6 (dk_new (by omega) hdq (rk.merge .nil) dd6)
  have ed6 : (upd H5 h'.objs.size (.dK (mergeK [] [(k, v)]))) d = some (.dK (mergeK [] kvs)) := by
    rw [upd_ne nq]
    exact ed5
  obtain ⟨z7, hd7, vs7, r7, dd7⟩ := dk_of I6.hok ed6
  obtain ⟨z8, hd8, vs8, r8, dd8⟩ := dk_of I6.hok (a := h'.objs.size) upd_same
  have hl7 := r7.length
  have hl8 := r8.length
  have hk7 : (mergeK [] kvs).length ≤ 1000 := by
    have h1 := length_mergeK kvs []
    rw [List.length_nil] at h1
    omega
  refine wpAny_bind (wpAny_onRaise (wpAny_holding (ik_mergeMapping nq hd8 dd7 dd8 (fun h9 dd9 _ hs9 => ?_) (by rw [← hl7, ← hl8]; omega))))
  have he9 : ∃ q, h9.get? d = some q := let ⟨q, _, _, hq, _⟩ := dd9; ⟨q, hq⟩
  have hz9 : (mergeK (mergeK [] kvs) (mergeK [] [(k, v)])).length ≤ sizeLine := by
    have h1 := length_mergeK (mergeK [] [(k, v)]) (mergeK [] kvs)
    omega
  have I7 := d_write (ob := .dK (mergeK (mergeK [] kvs) (mergeK [] [(k, v)]))) (t' := s5.toks + ws.length) I6 (by rw [ed6]; exact True.intro) hs9 he9 (dk_new hz9 hd7 (r8.merge r7) dd9)
  exact wpAny_pure ⟨.ref d, _, I7, rfl, q5⟩
end L2

namespace Ik
open PySem PySem.Spec PyProof.Rows L2 Evl
open L2H (cr_sumH cr_allH pe_lcH pix_range1 pix_list)
def top (i : Nat) : Stmt := PySem.Challenge.pw_innkinds_k13_refused_and_made_good.main.body.getD i (.Pass ⟨0, 0, 0, 0⟩)
abbrev s_is_house : Stmt := top 11
theorem sc_is_house : FnScope ["counts", "count"] ["counts"] (defScope s_is_house) := ⟨rfl, rfl, rfl, by decide +kernel, rfl, by decide +kernel, by decide +kernel⟩
abbrev s_first_room : Stmt := top 12
theorem sc_first_room : FnScope ["counts", "kind"] ["counts", "kind"] (defScope s_first_room) := ⟨rfl, rfl, rfl, by decide +kernel, rfl, by decide +kernel, by decide +kernel⟩
abbrev s_rooms_of : Stmt := top 13
theorem sc_rooms_of : FnScope ["counts", "kind", "start"] ["counts", "kind"] (defScope s_rooms_of) := ⟨rfl, rfl, rfl, by decide +kernel, rfl, by decide +kernel, by decide +kernel⟩
abbrev s_is_span : Stmt := top 16
theorem sc_is_span : FnScope ["counts", "first", "last", "kind"] ["counts", "first", "last", "kind"] (defScope s_is_span) := ⟨rfl, rfl, rfl, by decide +kernel, rfl, by decide +kernel, by decide +kernel⟩
abbrev s_kinds_on : Stmt := top 17
theorem sc_kinds_on : FnScope ["spans", "night", "kinds", "number", "first", "last", "kind"] ["spans", "night"] (defScope s_kinds_on) := ⟨rfl, rfl, rfl, by decide +kernel, rfl, by decide +kernel, by decide +kernel⟩
abbrev s_wants_on : Stmt := top 18
theorem sc_wants_on : FnScope ["stays", "night"] ["stays", "night"] (defScope s_wants_on) := ⟨rfl, rfl, rfl, by decide +kernel, rfl, by decide +kernel, by decide +kernel⟩
abbrev s_rooms_on : Stmt := top 19
theorem sc_rooms_on : FnScope ["counts", "closings", "night", "closed", "rooms", "kind"] ["counts", "closings", "night"] (defScope s_rooms_on) := ⟨rfl, rfl, rfl, by decide +kernel, rfl, by decide +kernel, by decide +kernel⟩
abbrev s_lacking : Stmt := top 20
theorem sc_lacking : FnScope ["counts", "rooms", "wants", "kind", "start", "good", "wanted", "room", "want"] ["counts", "rooms", "wants", "kind"] (defScope s_lacking) := ⟨rfl, rfl, rfl, by decide +kernel, rfl, by decide +kernel, by decide +kernel⟩
abbrev s_short_kind : Stmt := top 21
theorem sc_short_kind : FnScope ["counts", "rooms", "wants", "kind"] ["counts", "rooms", "wants"] (defScope s_short_kind) := ⟨rfl, rfl, rfl, by decide +kernel, rfl, by decide +kernel, by decide +kernel⟩
abbrev s_short_night : Stmt := top 22
theorem sc_short_night : FnScope ["counts", "closings", "stays", "night", "rooms", "kind"] ["counts", "closings", "stays"] (defScope s_short_night) := ⟨rfl, rfl, rfl, by decide +kernel, rfl, by decide +kernel, by decide +kernel⟩
abbrev s_not_driven_out : Stmt := top 24
theorem sc_not_driven_out : FnScope ["rooms", "wants", "ahead", "number"] ["rooms", "wants", "ahead"] (defScope s_not_driven_out) := ⟨rfl, rfl, rfl, by decide +kernel, rfl, by decide +kernel, by decide +kernel⟩
abbrev s_in_the_way : Stmt := top 25
theorem sc_in_the_way : FnScope ["counts", "wants", "staying", "kind", "start", "number", "room"] ["counts", "wants", "staying", "kind"] (defScope s_in_the_way) := ⟨rfl, rfl, rfl, by decide +kernel, rfl, by decide +kernel, by decide +kernel⟩
abbrev s_paper_number : Stmt := top 26
theorem sc_paper_number : FnScope ["counts", "rooms", "wants", "ahead", "paper", "guests", "staying", "total", "standing", "kind", "number"] ["counts", "rooms", "wants", "ahead", "paper"] (defScope s_paper_number) := ⟨rfl, rfl, rfl, by decide +kernel, rfl, by decide +kernel, by decide +kernel⟩
abbrev s_greatest_paper : Stmt := top 27
theorem sc_greatest_paper : FnScope ["counts", "rooms", "wants", "ahead", "papers", "paper"] ["counts", "rooms", "wants", "ahead", "papers"] (defScope s_greatest_paper) := ⟨rfl, rfl, rfl, by decide +kernel, rfl, by decide +kernel, by decide +kernel⟩
abbrev s_best_paper : Stmt := top 28
theorem sc_best_paper : FnScope ["counts", "rooms", "wants", "ahead", "papers", "kind", "longer", "paper"] ["counts", "rooms", "wants", "ahead"] (defScope s_best_paper) := ⟨rfl, rfl, rfl, by decide +kernel, rfl, by decide +kernel, by decide +kernel⟩
abbrev s_who_stays : Stmt := top 30
theorem sc_who_stays : FnScope ["counts", "rooms", "wants", "ahead", "kind", "standing", "many", "leaving", "staying", "number"] ["counts", "rooms", "wants", "ahead"] (defScope s_who_stays) := ⟨rfl, rfl, rfl, by decide +kernel, rfl, by decide +kernel, by decide +kernel⟩
abbrev s_give_rooms : Stmt := top 31
theorem sc_give_rooms : FnScope ["counts", "rooms", "wants", "staying", "given", "taken", "free", "number", "others", "start", "good", "room", "other"] ["counts", "rooms", "wants", "staying"] (defScope s_give_rooms) := ⟨rfl, rfl, rfl, by decide +kernel, rfl, by decide +kernel, by decide +kernel⟩
abbrev s_tonight : Stmt := top 32
theorem sc_tonight : FnScope ["counts", "rooms", "wants", "ahead", "kind", "staying", "given", "moved", "number"] ["counts", "rooms", "wants", "ahead"] (defScope s_tonight) := ⟨rfl, rfl, rfl, by decide +kernel, rfl, by decide +kernel, by decide +kernel⟩
abbrev s_nights_of : Stmt := top 34
theorem sc_nights_of : FnScope ["stays", "span"] ["stays"] (defScope s_nights_of) := ⟨rfl, rfl, rfl, by decide +kernel, rfl, by decide +kernel, by decide +kernel⟩
abbrev s_plan : Stmt := top 35
theorem sc_plan : FnScope ["counts", "closings", "stays", "short", "night", "kind", "told", "ahead", "rooms", "wants"] ["counts", "closings", "stays"] (defScope s_plan) := ⟨rfl, rfl, rfl, by decide +kernel, rfl, by decide +kernel, by decide +kernel⟩
abbrev s_Inn___init__ : Stmt := inClass (top 37) 0
theorem sc_Inn___init__ : FnScope ["self", "counts"] ["self", "counts"] (defScope s_Inn___init__) := ⟨rfl, rfl, rfl, by decide +kernel, rfl, by decide +kernel, by decide +kernel⟩
abbrev s_Inn_promise : Stmt := inClass (top 37) 1
theorem sc_Inn_promise : FnScope ["self", "first", "last", "kind", "number", "stays"] ["self", "first", "last", "kind"] (defScope s_Inn_promise) := ⟨rfl, rfl, rfl, by decide +kernel, rfl, by decide +kernel, by decide +kernel⟩
abbrev s_Inn_close : Stmt := inClass (top 37) 2
theorem sc_Inn_close : FnScope ["self", "first", "last", "kind", "number", "shut"] ["self", "first", "last", "kind"] (defScope s_Inn_close) := ⟨rfl, rfl, rfl, by decide +kernel, rfl, by decide +kernel, by decide +kernel⟩
abbrev s_Inn_drop : Stmt := inClass (top 37) 3
theorem sc_Inn_drop : FnScope ["self", "number", "other"] ["self", "number"] (defScope s_Inn_drop) := ⟨rfl, rfl, rfl, by decide +kernel, rfl, by decide +kernel, by decide +kernel⟩
abbrev s_Inn_reopen : Stmt := inClass (top 37) 4
theorem sc_Inn_reopen : FnScope ["self", "number", "other"] ["self", "number"] (defScope s_Inn_reopen) := ⟨rfl, rfl, rfl, by decide +kernel, rfl, by decide +kernel, by decide +kernel⟩
abbrev s_Inn_undo : Stmt := inClass (top 37) 5
theorem sc_Inn_undo : FnScope ["self"] ["self"] (defScope s_Inn_undo) := ⟨rfl, rfl, rfl, by decide +kernel, rfl, by decide +kernel, by decide +kernel⟩
abbrev s_Inn_promises : Stmt := inClass (top 37) 6
theorem sc_Inn_promises : FnScope ["self"] ["self"] (defScope s_Inn_promises) := ⟨rfl, rfl, rfl, by decide +kernel, rfl, by decide +kernel, by decide +kernel⟩
abbrev s_Inn_closings : Stmt := inClass (top 37) 7
theorem sc_Inn_closings : FnScope ["self"] ["self"] (defScope s_Inn_closings) := ⟨rfl, rfl, rfl, by decide +kernel, rfl, by decide +kernel, by decide +kernel⟩
abbrev s_Inn_nights : Stmt := inClass (top 37) 8
theorem sc_Inn_nights : FnScope ["self"] ["self"] (defScope s_Inn_nights) := ⟨rfl, rfl, rfl, by decide +kernel, rfl, by decide +kernel, by decide +kernel⟩
abbrev s_Inn_rooms_for : Stmt := inClass (top 37) 9
theorem sc_Inn_rooms_for : FnScope ["self", "number", "first", "last", "_", "night"] ["self", "number"] (defScope s_Inn_rooms_for) := ⟨rfl, rfl, rfl, by decide +kernel, rfl, by decide +kernel, by decide +kernel⟩
abbrev s_Inn__check_span : Stmt := inClass (top 37) 10
theorem sc_Inn__check_span : FnScope ["self", "first", "last", "kind"] ["self", "first", "last", "kind"] (defScope s_Inn__check_span) := ⟨rfl, rfl, rfl, by decide +kernel, rfl, by decide +kernel, by decide +kernel⟩
abbrev s_Inn__check_needs : Stmt := inClass (top 37) 11
theorem sc_Inn__check_needs : FnScope ["self", "shut", "stays", "short", "night", "kind"] ["self", "shut", "stays"] (defScope s_Inn__check_needs) := ⟨rfl, rfl, rfl, by decide +kernel, rfl, by decide +kernel, by decide +kernel⟩
abbrev s_Inn__remember : Stmt := inClass (top 37) 12
theorem sc_Inn__remember : FnScope ["self"] ["self"] (defScope s_Inn__remember) := ⟨rfl, rfl, rfl, by decide +kernel, rfl, by decide +kernel, by decide +kernel⟩
abbrev s_law_cell : Stmt := top 39
theorem sc_law_cell : FnScope ["_law_script", "_law_k", "_law_more"] ["_law_script", "_law_k"] (defScope s_law_cell) := ⟨rfl, rfl, rfl, by decide +kernel, rfl, by decide +kernel, by decide +kernel⟩
abbrev s_law_whole : Stmt := top 40
theorem sc_law_whole : FnScope ["_law_found"] ["_law_found"] (defScope s_law_whole) := ⟨rfl, rfl, rfl, by decide +kernel, rfl, by decide +kernel, by decide +kernel⟩
abbrev s_law_wholes : Stmt := top 41
theorem sc_law_wholes : FnScope ["_law_found", "_law_one"] ["_law_found"] (defScope s_law_wholes) := ⟨rfl, rfl, rfl, by decide +kernel, rfl, by decide +kernel, by decide +kernel⟩
abbrev s_law_kind : Stmt := top 42
theorem sc_law_kind : FnScope ["_law_e", "_law_flags", "_law_k"] ["_law_e"] (defScope s_law_kind) := ⟨rfl, rfl, rfl, by decide +kernel, rfl, by decide +kernel, by decide +kernel⟩
abbrev s_law_counts_by : Stmt := top 43
theorem sc_law_counts_by : FnScope ["_law_script", "_law_counts", "_law_far", "_law_k", "_law_one"] ["_law_script"] (defScope s_law_counts_by) := ⟨rfl, rfl, rfl, by decide +kernel, rfl, by decide +kernel, by decide +kernel⟩
abbrev s_law_bound_by : Stmt := top 44
theorem sc_law_bound_by : FnScope ["_law_cell_here"] ["_law_cell_here"] (defScope s_law_bound_by) := ⟨rfl, rfl, rfl, by decide +kernel, rfl, by decide +kernel, by decide +kernel⟩
abbrev s_law_asked : Stmt := top 45
theorem sc_law_asked : FnScope ["_law_inn", "_law_way", "_law_span"] ["_law_inn", "_law_way", "_law_span"] (defScope s_law_asked) := ⟨rfl, rfl, rfl, by decide +kernel, rfl, by decide +kernel, by decide +kernel⟩
abbrev s_law_word : Stmt := top 46
theorem sc_law_word : FnScope ["_law_inn", "_law_way", "_law_span", "_law_e"] ["_law_inn", "_law_way", "_law_span"] (defScope s_law_word) := ⟨rfl, rfl, rfl, by decide +kernel, rfl, by decide +kernel, by decide +kernel⟩
abbrev s_law_none : Stmt := top 47
theorem sc_law_none : FnScope ["_law_counts", "_law_e"] ["_law_counts"] (defScope s_law_none) := ⟨rfl, rfl, rfl, by decide +kernel, rfl, by decide +kernel, by decide +kernel⟩
abbrev s_law_made_good : Stmt := top 48
theorem sc_law_made_good : FnScope ["_law_inn", "_law_span", "_law_zero", "_law_way"] ["_law_inn"] (defScope s_law_made_good) := ⟨rfl, rfl, rfl, by decide +kernel, rfl, by decide +kernel, by decide +kernel⟩
abbrev s_law : Stmt := top 49
theorem sc_law : FnScope ["_law_script", "_law_counts", "_law_inn", "_law_k", "_law_first", "_law_last", "_law_more", "_law_kind_here", "_law_good", "_law_way", "_law_one"] ["_law_script"] (defScope s_law) := ⟨rfl, rfl, rfl, by decide +kernel, rfl, by decide +kernel, by decide +kernel⟩
structure Tp (mg : Str → Option Value) : Prop where
  z_all : mg "all" = none
  z_len : mg "len" = none
  z_sum : mg "sum" = none
  z_max : mg "max" = none
  z_list : mg "list" = none
  z_range : mg "range" = none
  z_sorted : mg "sorted" = none
  z_set : mg "set" = none
  z_dict : mg "dict" = none
  z_min : mg "min" = none
  z_isinstance : mg "isinstance" = none
  z_int : mg "int" = none
  z_bool : mg "bool" = none
  z_abs : mg "abs" = none
  z_ValueError : mg "ValueError" = none
  g_MOST_KINDS : ∃ t, mg "MOST_KINDS" = some (.int 6 t)
  g_MOST_OF_A_KIND : ∃ t, mg "MOST_OF_A_KIND" = some (.int 9 t)
  g_NIGHTS : ∃ t, mg "NIGHTS" = some (.int 40 t)
/-! ### the law's helpers: which error it is -/
/-- the program's classes of errors, where they stand -/
structure Ecs (K : PySem.W.Frag) (mg : Str → Option Value) where
  a_InnError : Addr
  a_BadHouse : Addr
  a_BadSpan : Addr
  a_Full : Addr
  a_NoPromise : Addr
  a_NoClosing : Addr
  a_NoWayBack : Addr
  g_InnError : mg "InnError" = some (.ref a_InnError)
  g_BadHouse : mg "BadHouse" = some (.ref a_BadHouse)
  g_BadSpan : mg "BadSpan" = some (.ref a_BadSpan)
  g_Full : mg "Full" = some (.ref a_Full)
  g_NoPromise : mg "NoPromise" = some (.ref a_NoPromise)
  g_NoClosing : mg "NoClosing" = some (.ref a_NoClosing)
  g_NoWayBack : mg "NoWayBack" = some (.ref a_NoWayBack)
def Ecs.six {K : PySem.W.Frag} {mg : Str → Option Value} (EX : Ecs K mg) : List Addr := [EX.a_BadHouse, EX.a_BadSpan, EX.a_Full, EX.a_NoPromise, EX.a_NoClosing, EX.a_NoWayBack]
/-- just the one class among the six takes what is of the class at C -/
structure OneOf {K : PySem.W.Frag} {mg : Str → Option Value} (EX : Ecs K mg) (C : Addr) (n : Nat) : Prop where
  isE : ExcI K C
  kit : ∀ i D, EX.six[i]? = some D → PySem.W.kitOne K (.ref C) (.ref D) = some (decide (i = n))
/-- _law_kind(e), e the exception that is handled, its object p -/
def sp_kind {K : PySem.W.Frag} {mg : Str → Option Value} (EX : Ecs K mg) : Addr × Obj → Sp := fun p vs H Q _ => ∃ (C : Addr) (d : Option Addr) (n : Nat), vs = [.ref p.1] ∧ n < 6 ∧ OneOf EX C n ∧ Zc (.ref C) d p.2 ∧ (∃ fs, p.2.data = .fields fs) ∧ (∀ dd, d = some dd → ∃ fs, H dd = some (.xd fs)) ∧ RetV (.int (11 + n : Int)) H Q
section
variable {K : PySem.W.Frag} {σ : L2.St} {H : Hp} {x : V} {ta tc : TE} {a : Addr} {cls : Value} {d : Option Addr}
theorem xd_mono {H' : Hp} (h : ∀ dd, d = some dd → ∃ fs, H dd = some (.xd fs)) (e : Ex H H') : ∀ dd, d = some dd → ∃ fs, H' dd = some (.xd fs) := fun dd hd => (h dd hd).imp fun fs q => e _ _ q
theorem ev_isP {C D : Addr} {b : Bool} (ha : Ev ta σ H (.ref a)) (T : ExcI K C) (hc : cls = .ref C) (h : ∀ dd, d = some dd → ∃ fs, H dd = some (.xd fs)) (hk : PySem.W.kitOne K (.ref C) (.ref D) = some b) : Ev (tCB (rIsP K a cls d) (tCons ta (tCons (tC (.ref D)) tNil))) σ H (.bl b) :=
  ev_cb (ea_2 ha ev_c) fun H1 e _ q => ⟨C, .ref D, .ref D, b, rfl, .own D, T, hc, xd_mono h e, hk, q H1 (Ex.refl H1)⟩
theorem ev_isPT {C : Addr} {n : String} {b : Bool} (ha : Ev ta σ H (.ref a)) (T : ExcI K C) (hc : cls = .ref C) (h : ∀ dd, d = some dd → ∃ fs, H dd = some (.xd fs)) (hk : PySem.W.kitOne K (.ref C) (.type n) = some b) : Ev (tCB (rIsP K a cls d) (tCons ta (tCons (tC (.ty n)) tNil))) σ H (.bl b) :=
  ev_cb (ea_2 ha ev_c) fun H1 e _ q => ⟨C, .ty n, .type n, b, rfl, .ty n, T, hc, xd_mono h e, hk, q H1 (Ex.refl H1)⟩
theorem ev_intB {b : Bool} (h : Ev ta σ H (.bl b)) : Ev (tCB (fun xs H Q => (∃ i, xs = [V.int i] ∧ Q (.int i) H) ∨ ∃ k : Bool, xs = [V.bl k] ∧ Q (.int (if k then 1 else 0)) H) (tCons ta tNil)) σ H (.int (if b then 1 else 0)) := ev_cb (ea_1 h) fun H4 _ _ q => .inr ⟨b, rfl, q H4 (Ex.refl H4)⟩
end

section
variable {P : Program} {w : World} {K : PySem.W.Frag} {mg : Str → Option Value} {base : Heap}
theorem cal_kind (D : Dn K mg "_law_kind" s_law_kind ["_law_e"]) (T : Tp mg) (EX : Ecs K mg) : CalP P w K mg base "_law_kind" 1 ["_law_e"] (sp_kind EX) := by
  refine cal_ofP D sc_law_kind (fun p vs H Q E h => ?_) (fun f cdv A outer s H vs Q E pp hr hot h => ?_)
  · obtain ⟨C, d, n, rfl, _⟩ := h
    rfl
  · obtain ⟨C, d, n, rfl, hn, O, hz, hf, hx, k⟩ := h
    have hpn : (pp.1, pp.2) ∈ [pp] := List.mem_cons_self
    refine ⟨_, (pss_cons (ps_set (i := 1) sc_law_kind.nd rfl (.inr rfl) (pe_lst (pa_cons (pe_callB (r := rIsP K _ _ _) (call_isP hpn hz hf) (by rfl) T.z_isinstance (by decide +kernel) (pa_cons (pv 0) (pa_cons (pe_glob (v := .ref EX.a_BadHouse) rfl EX.g_BadHouse rfl) pa_nil))) (pa_cons (pe_callB (r := rIsP K _ _ _) (call_isP hpn hz hf) (by rfl) T.z_isinstance (by decide +kernel) (pa_cons (pv 0) (pa_cons (pe_glob (v := .ref EX.a_BadSpan) rfl EX.g_BadSpan rfl) pa_nil))) (pa_cons (pe_callB (r := rIsP K _ _ _) (call_isP hpn hz hf) (by rfl) T.z_isinstance (by decide +kernel) (pa_cons (pv 0) (pa_cons (pe_glob (v := .ref EX.a_Full) rfl EX.g_Full rfl) pa_nil))) (pa_cons (pe_callB (r := rIsP K _ _ _) (call_isP hpn hz hf) (by rfl) T.z_isinstance (by decide +kernel) (pa_cons (pv 0) (pa_cons (pe_glob (v := .ref EX.a_NoPromise) rfl EX.g_NoPromise rfl) pa_nil))) pa_nil)))))) (pss_cons (ps_set (i := 1) sc_law_kind.nd rfl (.inr rfl) (pe_op op_cat (pv 1) (pe_lst (pa_cons (pe_callB (r := rIsP K _ _ _) (call_isP hpn hz hf) (by rfl) T.z_isinstance (by decide +kernel) (pa_cons (pv 0) (pa_cons (pe_glob (v := .ref EX.a_NoClosing) rfl EX.g_NoClosing rfl) pa_nil))) (pa_cons (pe_callB (r := rIsP K _ _ _) (call_isP hpn hz hf) (by rfl) T.z_isinstance (by decide +kernel) (pa_cons (pv 0) (pa_cons (pe_glob (v := .ref EX.a_NoWayBack) rfl EX.g_NoWayBack rfl) pa_nil))) pa_nil))))) (pss_one (ps_ret (pe_callB (r := rSum K) (cr_sumH (hotOf hot)) (by rfl) T.z_sum (by decide +kernel) (pa_cons (pe_lcH (own := [("_law_k", 2)]) (g := gName 2) (hotOf hot) sc_law_kind.nd (pix_range1 (by rfl) T.z_range (pa_cons pe_int pa_nil)) (blkOk_by (own := [("_law_k", 2)]) (N := ["_law_e", "_law_flags", "_law_k"]) (sc := defScope s_law_kind) (by decide +kernel)) (fun _ _ _ _ _ => pg_name (i := 2) sc_law_kind.nd rfl (Or.inl rfl)) (fun _ _ _ _ _ => pts_nil) (fun _ _ _ _ _ => (pe_op op_mul (pe_op op_add pe_int (pv 2)) (pe_callTy call_int1 (by rfl) T.z_int (by decide +kernel) (pa_cons (pe_ix (r := rIxL K) ix_list (pv 1) (pv 2) (fun _ _ => rfl)) pa_nil))))) pa_nil)))))), ?_⟩
    have fl : ∀ i : Nat, i < 6 → atI (((List.range 6).map fun i => decide (i = n)).map V.bl) (i : Int) = some (.bl (decide (i = n))) := fun i hi => atI_nat (by
      rw [List.getElem?_map, List.getElem?_map, List.getElem?_range hi]
      rfl)
    have is : ∀ {H' : Hp} {σ : L2.St} {i : Nat} {D : Addr}, Ex H H' → σ[0]? = some (some (.ref pp.1)) → EX.six[i]? = some D → Ev (tCB (rIsP K pp.1 (.ref C) d) (tCons (tVar 0) (tCons (tC (.ref D)) tNil))) σ H' (.bl (decide (i = n))) := fun e hv hd => ev_isP (ev_var hv) O.isE rfl (xd_mono hx e) (O.kit _ _ hd)
    refine q_asgL (xs := [.bl (decide (0 = n)), .bl (decide (1 = n)), .bl (decide (2 = n)), .bl (decide (3 = n))]) (el_lst (ea_cons (is (Ex.refl _) rfl rfl) (ea_3 (is (Ex.refl _) rfl rfl) (is (Ex.refl _) rfl rfl) (is (Ex.refl _) rfl rfl))) (by show 4 ≤ 100000; decide)) fun p H2 hp e2 h2 => ?_
    refine q_asgL (xs := ((List.range 6).map fun i => decide (i = n)).map V.bl) (el_catN (xs := [.bl (decide (0 = n)), .bl (decide (1 = n)), .bl (decide (2 = n)), .bl (decide (3 = n))]) (ys := [.bl (decide (4 = n)), .bl (decide (5 = n))]) (ev_var rfl) (el_lst (ea_2 (is e2 rfl rfl) (is e2 rfl rfl)) (by show 2 ≤ 100000; decide)) h2 (by show 6 ≤ sizeLine; rw [sizeLine_eq]; decide)) fun q H3 hq e3 h3 => ?_
    have e03 := e2.trans e3
    refine s_ret (ev_of (ev_sumN (ns := (List.range 6).map fun i : Nat => (11 + (i : Int)) * (if decide (i = n) then 1 else 0)) (el_is (el_lcR (n := 6) (fun _ => true) (fun i => .int ((11 + (i : Int)) * (if decide (i = n) then 1 else 0))) (ea_1 ev_c) ⟨by decide, by decide⟩ (fun _ => rfl) (fun i _ H1 _ => et_yes) (fun i hi _ H1 e1 =>
      ev_mulR (ev_add ev_c (ev_var rfl)) (ev_intB (ev_ixL (ev_var rfl) (ev_var rfl) (sq_of (e1 _ _ h3)) (fl i (by omega)))) (by split <;> decide))) ?_)) ?_) fun H4 e4 => k H4 (e03.trans e4)
    · rfl
    · congr 1
      have : ∀ m : _root_.Fin 6, ((List.range 6).map fun i : Nat => (11 + (i : Int)) * (if decide (i = m.val) then 1 else 0)).sum = 11 + (m.val : Int) := by decide +kernel
      exact this ⟨n, hn⟩
end

/-! ### the law's helpers: cells, whole numbers -/
def cellM (ns : List Int) (k : Int) : Int := if ns = [] then k * 7919 else (k * 7919 + k / (ns.length : Int) * 104729 + ns.getD (k % (ns.length : Int)).toNat 0 * 48271) % 1000003
def cell (ns : List Int) (k : Int) : Int := (cellM ns k * cellM ns k / 11 + 13 * cellM ns k) % 1000003
theorem cell_bd (ns : List Int) (k : Int) : 0 ≤ cell ns k ∧ cell ns k < 1000003 := ⟨Int.emod_nonneg _ (by decide), Int.emod_lt_of_pos _ (by decide)⟩
def sp_cell (K : PySem.W.Frag) : Sp := fun vs H Q _ => ∃ (a : Addr) (ns : List Int) (k : Int), vs = [.ref a, .int k] ∧ SqL K H a (ns.map V.int) ∧ ns.length ≤ 63 ∧ 0 ≤ k ∧ k < 10000 ∧ RetV (.int (cell ns k)) H Q
def sp_whole (K : PySem.W.Frag) : Sp := fun vs H Q _ => ∃ (x : V), vs = [x] ∧ (((∃ n, x = .int n) ∧ RetV (.bl true) H Q) ∨ (x = .non ∧ RetV (.bl false) H Q))
def sp_wholes (K : PySem.W.Frag) : Sp := fun vs H Q _ => ∃ (a : Addr) (ns : List Int), vs = [.ref a] ∧ H a = some (.lst (ns.map V.int)) ∧ ns.length ≤ 1000 ∧ RetV (.bl true) H Q
section
variable {K : PySem.W.Frag} {H : Hp} {a : Addr} {ns : List Int}
theorem v_cell (h : SqL K H a (ns.map V.int)) (hl : ns.length ≤ 63) {k : Int} (h0 : 0 ≤ k) (h1 : k < 10000) : SpV (sp_cell K) [.ref a, .int k] H (.int (cell ns k)) := fun _ e _ q _ => ⟨a, ns, k, rfl, ex_l e h, hl, h0, h1, q⟩
theorem v_whole {n : Int} : SpV (sp_whole K) [.int n] H (.bl true) := fun _ e _ q _ => ⟨_, rfl, .inl ⟨⟨n, rfl⟩, q⟩⟩
theorem v_wholes (h : H a = some (.lst (ns.map V.int))) (hl : ns.length ≤ 1000) : SpV (sp_wholes K) [.ref a] H (.bl true) := fun _ e _ q _ => ⟨a, ns, rfl, e _ _ h, hl, q⟩
end
section
variable {K : PySem.W.Frag} {σ : L2.St} {H : Hp} {a : Addr} {ns : List Int} {tk : TE}
theorem ev_cell {k : Int} {i : Nat} (hS : SqL K H a (ns.map V.int)) (hl : ns.length ≤ 63) (hv : σ[i]? = some (some (.ref a))) (hk : Ev tk σ H (.int k)) (h0 : 0 ≤ k) (h1 : k < 10000) :
    Ev (tCall (sp_cell K) [] E0 (tCons (tVar i) (tCons tk tNil))) σ H (.int (cell ns k)) := ev_call0 (ea_2 (ev_var hv) hk) (v_cell hS hl h0 h1)
theorem mod_bd (z : Int) {m : Int} (h : 0 < m) : 0 ≤ z % m ∧ z % m < m := ⟨Int.emod_nonneg _ (Int.ne_of_gt h), Int.emod_lt_of_pos _ h⟩
theorem atI_in {xs : List V} {z : Int} (h0 : 0 ≤ z) (h1 : z < (xs.length : Int)) : ∃ v, v ∈ xs ∧ atI xs z = some v := by
  have hlt : z.toNat < xs.length := by omega
  refine ⟨xs[z.toNat], List.getElem_mem hlt, ?_⟩
  have e : z = ((z.toNat : Nat) : Int) := by omega
  conv => lhs; rw [e]
  exact atI_nat (List.getElem?_eq_getElem hlt)
theorem atI_ints {ns : List Int} {z : Int} (h0 : 0 ≤ z) (h1 : z < (ns.length : Int)) : ∃ n, n ∈ ns ∧ atI (ns.map V.int) z = some (.int n) := by
  obtain ⟨v, hv, e⟩ := atI_in (xs := ns.map V.int) h0 (by rw [List.length_map]; exact h1)
  obtain ⟨n, hn, rfl⟩ := List.mem_map.mp hv
  exact ⟨n, hn, e⟩
end
section
variable {P : Program} {w : World} {K : PySem.W.Frag} {mg : Str → Option Value} {base : Heap}
theorem cal_cell (D : Dn K mg "_law_cell" s_law_cell ["_law_script", "_law_k"]) (T : Tp mg) : Cal P w K mg base "_law_cell" 1 ["_law_script", "_law_k"] (sp_cell K) := by
  refine cal_of D sc_law_cell (fun vs H Q E h => ?_) (fun f cdv A outer s H vs Q E hr h => ?_)
  · obtain ⟨a, ns, n, rfl, _⟩ := h
    rfl
  · obtain ⟨a, ns, n, rfl, hS, hl, h0, h1, k⟩ := h
    refine ⟨_, (pss_cons (ps_set (i := 2) sc_law_cell.nd rfl (.inl rfl) (pe_op op_mul (pv 1) pe_int)) (pss_cons (ps_if (pt_cmpR (r := rNeD K) (op_neD hr.units) (pv 0) (pe_lst pa_nil) (nomark _)) (pss_cons (ps_set (i := 2) sc_law_cell.nd rfl (.inl rfl) (pe_op op_add (pv 2) (pe_op op_mul (pe_op op_fdiv (pv 1) (pe_callB (r := rLenS K) call_len_seq (by rfl) T.z_len (by decide +kernel) (pa_cons (pv 0) pa_nil))) pe_int))) (pss_one (ps_set (i := 2) sc_law_cell.nd rfl (.inl rfl) (pe_op op_mod (pe_op op_add (pv 2) (pe_op op_mul (pe_ix (r := rIxL K) ix_list (pv 0) (pe_op op_mod (pv 1) (pe_callB (r := rLenS K) call_len_seq (by rfl) T.z_len (by decide +kernel) (pa_cons (pv 0) pa_nil))) (fun _ _ => rfl)) pe_int)) pe_int)))) pss_nil) (pss_one (ps_ret (pe_op op_mod (pe_op op_add (pe_op op_fdiv (pe_op op_mul (pv 2) (pv 2)) pe_int) (pe_op op_mul pe_int (pv 2))) pe_int))))), ?_⟩
    refine q_asg (ev_mulR (ev_var rfl) ev_c ⟨by decide, by decide⟩) fun H1 e1 => ?_
    refine q_when (et_test (ev_neIN (ms := []) (ev_var rfl) el_nil (ex_l e1 hS))) (fun hb H2 e2 => ?_) (fun hb H2 e2 => ?_)
    · have hne : ns ≠ [] := of_decide_eq_false (not_t hb)
      have hp : 0 < (ns.length : Int) := by
        have := List.length_pos_iff.mpr hne
        omega
      have hm0 := Int.emod_nonneg n (Int.ne_of_gt hp)
      have hm1 := Int.emod_lt_of_pos n hp
      have hi : atI (ns.map V.int) (n % (ns.length : Int)) = some (.int (ns.getD (n % (ns.length : Int)).toNat 0)) := by
        have e : n % (ns.length : Int) = (((n % (ns.length : Int)).toNat : Nat) : Int) := by omega
        rw [e]
        refine atI_nat ?_
        have hlt : (n % (ns.length : Int)).toNat < ns.length := by omega
        rw [List.getElem?_map, Int.toNat_natCast, List.getD_eq_getElem?_getD, List.getElem?_eq_getElem hlt]
        rfl
      have hS2 := ex_l (e1.trans e2) hS
      have lenE : ∀ {σ : L2.St} {H' : Hp}, Ex H2 H' → σ[0]? = some (some (.ref a)) → Ev (tCB (rLenS K) (tCons (tVar 0) tNil)) σ H' (.int (ns.length : Int)) := fun e hv => ev_of (ev_len' (ev_var hv) (ex_l e hS2)) (by rw [List.length_map])
      refine q_asg (ev_add (ev_var rfl) (ev_mulR (ev_fdiv (ev_var rfl) (lenE (Ex.refl _) rfl) ⟨hp, by omega⟩) ev_c ⟨by decide, by decide⟩)) fun H3 e3 => ?_
      refine s_asg (ev_mod (ev_add (ev_var rfl) (ev_mulR (ev_ixL (ev_var rfl) (ev_mod (ev_var rfl) (lenE e3 rfl) hp) (ex_l e3 hS2) hi) ev_c ⟨by decide, by decide⟩)) ev_c (by decide)) fun H4 e4 => ?_
      have b0 : ∀ z : Int, 0 ≤ z % 1000003 ∧ z % 1000003 < 1000003 := fun z => ⟨Int.emod_nonneg _ (by decide), Int.emod_lt_of_pos _ (by decide)⟩
      have b1 := b0 (n * 7919 + n / (ns.length : Int) * 104729 + ns.getD (n % (ns.length : Int)).toNat 0 * 48271)
      refine s_ret (ev_mod (ev_add (ev_fdiv (ev_mulL (ev_var rfl) (ev_var rfl) ⟨by omega, by omega⟩) ev_c ⟨by decide, by decide⟩) (ev_mulL ev_c (ev_var rfl) ⟨by decide, by decide⟩)) ev_c (by decide)) fun H5 e5 => ?_
      unfold cell cellM at k
      rw [if_neg hne] at k
      exact k H5 ((((e1.trans e2).trans e3).trans e4).trans e5)
    · have hne : ns = [] := of_decide_eq_true (not_f hb)
      refine s_ret (ev_mod (ev_add (ev_fdiv (ev_mulL (ev_var rfl) (ev_var rfl) ⟨by omega, by omega⟩) ev_c ⟨by decide, by decide⟩) (ev_mulL ev_c (ev_var rfl) ⟨by decide, by decide⟩)) ev_c (by decide)) fun H5 e5 => ?_
      unfold cell cellM at k
      rw [if_pos hne] at k
      exact k H5 ((e1.trans e2).trans e5)
theorem cal_whole (D : Dn K mg "_law_whole" s_law_whole ["_law_found"]) (T : Tp mg) : Cal P w K mg base "_law_whole" 1 ["_law_found"] (sp_whole K) := by
  refine cal_of D sc_law_whole (fun vs H Q E h => ?_) (fun f cdv A outer s H vs Q E hr h => ?_)
  · obtain ⟨x, rfl, _⟩ := h
    rfl
  · obtain ⟨x, rfl, h⟩ := h
    refine ⟨_, (pss_one (ps_ret (pe_and (pe_callB (r := rIsi K) call_isi (by rfl) T.z_isinstance (by decide +kernel) (pa_cons (pv 0) (pa_cons (pe_bltn (v := .ty "int") (by rfl) T.z_int (by decide +kernel) rfl) pa_nil))) (pe_one (pe_not (pe_callB (r := rIsi K) call_isi (by rfl) T.z_isinstance (by decide +kernel) (pa_cons (pv 0) (pa_cons (pe_bltn (v := .ty "bool") (by rfl) T.z_bool (by decide +kernel) rfl) pa_nil)))))))), ?_⟩
    rcases h with ⟨⟨n, rfl⟩, k⟩ | ⟨rfl, k⟩
    · exact s_ret (ev_andV (a := true) (b := true) (ev_isi (a := "int") (ev_var rfl) (fun _ _ => .base (.int n)) (by decide +kernel)) fun _ => ev_notV (a := false) (ev_isi (a := "int") (ev_var rfl) (fun _ _ => .base (.int n)) (by decide +kernel))) k
    · exact s_ret (ev_andV (a := false) (b := true) (ev_isi (a := "NoneType") (ev_var rfl) (fun _ _ => .base .non) (by decide +kernel)) fun z => nomatch z) k
end

/-- Full, as the law's suites ask for it -/
structure FullOk (P : Program) (K : PySem.W.Frag) (mg : Str → Option Value) (EX : Ecs K mg) : Prop where
  txt : ∃ fI, PySem.FullX.FullTxt P K mg EX.a_Full fI
  one : OneOf EX EX.a_Full 2
  ve : PySem.W.kitOne K (.ref EX.a_Full) (.type "ValueError") = some true
  ex : PySem.W.exmOne K (.ref EX.a_Full) (.ref EX.a_InnError) = some true
section
variable {K : PySem.W.Frag} {σ : L2.St} {H : Hp} {ta : TA} {te : TE} {a C dd : Addr} {cls : Value} {d : Option Addr} {z v : V} {fs : List (Str × V)} {f : Str}
theorem ev_callPk {sp : Addr × Obj → Sp} {vs : List V} (h : EvA ta σ H vs) (hs : ∀ oe : Obj, Zc cls d oe → (∃ fs, oe.data = .fields fs) → SpV (sp (a, oe)) vs H z) : Ev (tCallP a cls d sp ta) σ H z := fun H1 e Q q =>
  h H1 e _ fun H2 e2 oe hz hf => hs oe hz hf H2 (e.trans e2) Q (fun H3 e3 => q H3 (e2.trans e3)) _
theorem seq_run {u : TS} {D : Ends} {tz : TS} (h : u { D with nx := tz D } σ H) : tSeq u tz D σ H := h
theorem s_dropX {sp : Sp} {W : WX} {D : Ends} (h : ta σ H fun vs H1 => sp vs H1 (fun _ H2 => D.nx σ H2) (WE W σ)) : tDrop (tCallS sp (WE W) ta) D σ H := h
theorem ev_xf (he : Ev te σ H (.ref a)) (hc : cls = .ref C) (hd : d = some dd) (hx : H dd = some (.xd fs)) (hl : fs.lookup f = some v) : Ev (tXf a cls d C f te) σ H v := fun H1 e Q q =>
  he H1 e _ fun H2 e2 => ⟨rfl, hc, dd, fs, v, hd, (e.trans e2) _ _ hx, hl, q H2 e2⟩
end

/-! ### the program's houses -/
def sp_is_house (K : PySem.W.Frag) : Sp := fun vs H Q _ => ∃ (a : Addr) (cs : List Int), vs = [.ref a] ∧ SqL K H a (cs.map V.int) ∧ cs.length ≤ 1000 ∧ RetV (.bl (isHouse cs)) H Q
def sp_room_count (K : PySem.W.Frag) : Sp := fun vs H Q _ => ∃ (a : Addr) (cs : List Int), vs = [.ref a] ∧ SqL K H a (cs.map V.int) ∧ RetV (.int cs.sum) H Q
def sp_first_room (K : PySem.W.Frag) : Sp := fun vs H Q _ => ∃ (a : Addr) (cs : List Int) (k : Nat), vs = [.ref a, .int (k : Int)] ∧ SqL K H a (cs.map V.int) ∧ RetV (.int (cs.take k).sum) H Q
def onV : Option Nat → V
  | none => .non
  | some k => .int (k : Int)
def sp_kind_of (K : PySem.W.Frag) : Sp := fun vs H Q _ => ∃ (a : Addr) (cs : List Int) (r : Int), vs = [.ref a, .int r] ∧ SqL K H a (cs.map V.int) ∧ RetV (onV (kindGo r 0 0 cs)) H Q
def sp_rooms_of (K : PySem.W.Frag) : Sp := fun vs H Q _ => ∃ (a : Addr) (cs : List Int) (k : Int), vs = [.ref a, .int k] ∧ SqL K H a (cs.map V.int) ∧ House cs ∧ RetL ((roomsOf cs k).map V.int) H Q
theorem cutV_take (xs : List V) (k : Nat) : cutV xs none (some (k : Int)) = xs.take k := by
  unfold cutV
  rw [HT.sIx_none, HT.sIx_nat, Nat.sub_zero, List.drop_zero]
  by_cases h : k ≤ xs.length
  · rw [Nat.min_eq_left h]
  · rw [Nat.min_eq_right (by omega), List.take_of_length_le (Nat.le_refl _), List.take_of_length_le (by omega)]
section
variable {K : PySem.W.Frag} {H : Hp} {a : Addr} {cs : List Int}
theorem v_is_house (h : SqL K H a (cs.map V.int)) (hl : cs.length ≤ 1000) : SpV (sp_is_house K) [.ref a] H (.bl (isHouse cs)) := fun _ e _ q _ => ⟨a, cs, rfl, ex_l e h, hl, q⟩
theorem v_room_count (h : SqL K H a (cs.map V.int)) : SpV (sp_room_count K) [.ref a] H (.int cs.sum) := fun _ e _ q _ => ⟨a, cs, rfl, ex_l e h, q⟩
theorem v_first_room (h : SqL K H a (cs.map V.int)) (k : Nat) : SpV (sp_first_room K) [.ref a, .int (k : Int)] H (.int (cs.take k).sum) := fun _ e _ q _ => ⟨a, cs, k, rfl, ex_l e h, q⟩
theorem v_kind_of (h : SqL K H a (cs.map V.int)) (r : Int) : SpV (sp_kind_of K) [.ref a, .int r] H (onV (kindGo r 0 0 cs)) := fun _ e _ q _ => ⟨a, cs, r, rfl, ex_l e h, q⟩
theorem l_rooms_of (h : SqL K H a (cs.map V.int)) (hh : House cs) (k : Int) : SpL (sp_rooms_of K) [.ref a, .int k] H ((roomsOf cs k).map V.int) := fun _ e _ q _ => ⟨a, cs, k, rfl, ex_l e h, hh, q⟩
end
section
variable {P : Program} {w : World} {K : PySem.W.Frag} {mg : Str → Option Value} {base : Heap}
theorem cal_is_house (D : Dn K mg "is_house" s_is_house ["counts"]) (T : Tp mg) : Cal P w K mg base "is_house" 1 ["counts"] (sp_is_house K) := by
  refine cal_of D sc_is_house (fun vs H Q E h => ?_) (fun f cdv A outer s H vs Q E hr h => ?_)
  · obtain ⟨a, cs, rfl, _⟩ := h
    rfl
  · obtain ⟨a, cs, rfl, hS, hl, k⟩ := h
    refine ⟨_, (pss_cons (ps_if (pt_not (pt_chain op_le op_le pe_int (pe_callB (r := rLenS K) call_len_seq (by rfl) T.z_len (by decide +kernel) (pa_cons (pv 0) pa_nil)) (pe_glob (v := .int 6) rfl T.g_MOST_KINDS.choose_spec ⟨_, rfl⟩))) (pss_one (ps_ret pe_bl)) pss_nil) (pss_one (ps_ret (pe_callB (r := rAll K) (cr_all rfl) (by rfl) T.z_all (by decide +kernel) (pa_cons (pe_lc (own := [("count", 1)]) (g := gName 1) (by rfl) sc_is_house.nd (pi_list (pv 0)) (blkOk_by (own := [("count", 1)]) (N := ["counts", "count"]) (sc := defScope s_is_house) (by decide +kernel)) (fun _ _ _ _ _ => pg_name (i := 1) sc_is_house.nd rfl (Or.inl rfl)) (fun _ _ _ _ _ => pts_nil) (fun _ _ _ _ _ => (pe_chain op_le op_le pe_int (pv 1) (pe_glob (v := .int 9) rfl T.g_MOST_OF_A_KIND.choose_spec ⟨_, rfl⟩)))) pa_nil))))), ?_⟩
    refine q_when (et_not (et_test (ev_chainI ev_c (ev_len' (ev_var rfl) hS) ev_c))) (fun hb H1 e1 => ?_) (fun hb H1 e1 => ?_)
    · refine s_ret ev_c fun H2 e2 => ?_
      have e : isHouse cs = false := by
        unfold isHouse
        rw [List.length_map] at hb
        rw [Bool.and_eq_false_iff]
        exact .inl (not_t hb)
      rw [e] at k
      exact k H2 (e1.trans e2)
    · refine s_ret (ev_all (bs := cs.map okC) (el_is (el_lcA cs V.int (fun _ => true) (fun c => .bl (okC c)) (ev_var rfl) (ex_l e1 hS) (by omega) (fun _ => rfl) (fun x _ H2 _ => et_yes) (fun x _ _ H2 _ => ev_chainI ev_c (ev_var rfl) ev_c)) ?_)) fun H2 e2 => ?_
      · rw [filter_tt, List.map_map]
        rfl
      · have e : isHouse cs = (cs.map okC).all id := by
          unfold isHouse
          rw [List.length_map] at hb
          have q : (decide (1 ≤ (cs.length : Int)) && decide ((cs.length : Int) ≤ 6)) = true := not_f hb
          rw [q, List.all_map]
          rfl
        rw [e] at k
        exact k H2 (e1.trans e2)
theorem cal_first_room (D : Dn K mg "first_room" s_first_room ["counts", "kind"]) (T : Tp mg) : Cal P w K mg base "first_room" 1 ["counts", "kind"] (sp_first_room K) := by
  refine cal_of D sc_first_room (fun vs H Q E h => ?_) (fun f cdv A outer s H vs Q E hr h => ?_)
  · obtain ⟨a, cs, n, rfl, _⟩ := h
    rfl
  · obtain ⟨a, cs, n, rfl, hS, k⟩ := h
    refine ⟨_, (pss_one (ps_ret (pe_callB (r := rSum K) (cr_sum rfl) (by rfl) T.z_sum (by decide +kernel) (pa_cons (pe_slice (r := rSlL K) sl_list (pv 0) po_none (po_some (pe_callB (call_max2 rfl) (by rfl) T.z_max (by decide +kernel) (pa_cons pe_int (pa_cons (pv 1) pa_nil))))) pa_nil)))), ?_⟩
    have hm : (if (n : Int) > 0 then (n : Int) else 0) = (n : Int) := by split <;> omega
    refine s_ret (ev_sumN (el_is (el_sl (ev_var rfl) eo_none (eo_some (ev_of (ev_max2 ev_c (ev_var rfl)) (congrArg V.int hm))) hS) ?_)) k
    rw [cutV_take, List.map_take]
theorem cal_rooms_of (D : Dn K mg "rooms_of" s_rooms_of ["counts", "kind"]) (T : Tp mg) (C_first_room : Cal P w K mg base "first_room" 1 ["counts", "kind"] (sp_first_room K)) : Cal P w K mg base "rooms_of" 2 ["counts", "kind"] (sp_rooms_of K) := by
  refine cal_of D sc_rooms_of (fun vs H Q E h => ?_) (fun f cdv A outer s H vs Q E hr h => ?_)
  · obtain ⟨a, cs, n, rfl, _⟩ := h
    rfl
  · obtain ⟨a, cs, n, rfl, hS, hh, k⟩ := h
    refine ⟨_, (pss_cons (ps_if (pt_not (pt_chain op_le op_lt pe_int (pv 1) (pe_callB (r := rLenS K) call_len_seq (by rfl) T.z_len (by decide +kernel) (pa_cons (pv 0) pa_nil)))) (pss_one (ps_ret (pe_lst pa_nil))) pss_nil) (pss_cons (ps_set (i := 2) sc_rooms_of.nd rfl (.inl rfl) (pe_cal C_first_room (hr.mono (by decide)) (by rfl) (pa_cons (pv 0) (pa_cons (pv 1) pa_nil)))) (pss_one (ps_ret (pe_listRg rfl (by rfl) T.z_list (prg_2 (by rfl) T.z_range (pv 2) (pe_op op_add (pv 2) (pe_ix (r := rIxL K) ix_list (pv 0) (pv 1) (fun _ _ => rfl))))))))), ?_⟩
    refine q_when (et_not (et_test (ev_chainI ev_c (ev_var rfl) (ev_len' (ev_var rfl) hS)))) (fun hb H1 e1 => ?_) (fun hb H1 e1 => ?_)
    · refine s_retL el_nil fun p H2 hp e2 h2 => ?_
      rw [List.length_map] at hb
      have hb : ¬ (0 ≤ n ∧ n < cs.length) := by
        intro ⟨z1, z2⟩
        rw [decide_eq_true z1, decide_eq_true z2] at hb
        exact absurd hb (by decide)
      have er : roomsOf cs n = [] := if_neg hb
      rw [er] at k
      exact k.go e1 hp e2 h2
    · rw [List.length_map] at hb
      have hb : 0 ≤ n ∧ n < cs.length := by simpa using not_f hb
      obtain ⟨j, rfl⟩ : ∃ j : Nat, n = (j : Int) := ⟨n.toNat, by omega⟩
      have hj : j < cs.length := by omega
      refine q_asg (ev_call0 (ea_2 (ev_var rfl) (ev_var rfl)) (v_first_room (ex_l e1 hS) j)) fun H2 e2 => ?_
      have hi : atI (cs.map V.int) (j : Int) = some (.int cs[j]) := atI_nat (by rw [List.getElem?_map, List.getElem?_eq_getElem hj]; rfl)
      have hcj := hh.ok cs[j] (List.getElem_mem hj)
      have h1 := take_sum_le cs j hh.nn
      have h2 := sum_le9 cs fun c hc => (hh.ok c hc).2
      have h3 := hh.le
      refine s_retL (el_is (ys := (roomsOf cs (j : Int)).map V.int) (el_rg (ev_var rfl) (ev_add (ev_var rfl) (ev_ixL (ev_var rfl) (ev_var rfl) (ex_l (e1.trans e2) hS) hi)) (.of_le (by omega) (by omega) (by omega) (by omega))) ?_) fun p H3 hp e3 h3 => ?_
      · unfold rgV roomsOf
        rw [if_pos hb, List.map_map, Int.toNat_natCast, List.getD_eq_getElem?_getD, List.getElem?_eq_getElem hj]
        show List.map _ (List.range ((cs.take j).sum + cs[j] - (cs.take j).sum).toNat) = List.map _ (List.range cs[j].toNat)
        rw [show (cs.take j).sum + cs[j] - (cs.take j).sum = cs[j] by omega]
        rfl
      · exact k.go (e1.trans e2) hp e3 h3
end

/-! ### the program's needs -/
def sp_is_span (K : PySem.W.Frag) : Sp := fun vs H Q _ => ∃ (a : Addr) (cs : List Int) (f l k : Int), vs = [.ref a, .int f, .int l, .int k] ∧ SqL K H a (cs.map V.int) ∧ RetV (.bl (isSpan cs f l k)) H Q
def sp_kinds_on : Sp := fun vs H Q _ => ∃ (d : Addr) (l : List Ent) (n : Int), vs = [.ref d, .int n] ∧ Sps H d l ∧ l.length < 64 ∧ RetD ((kindsOn l n).map kvI) H Q
def sp_rooms_on (K : PySem.W.Frag) : Sp := fun vs H Q _ => ∃ (a : Addr) (cs : List Int) (d : Addr) (l : List Ent) (n : Int), vs = [.ref a, .ref d, .int n] ∧ SqL K H a (cs.map V.int) ∧ House cs ∧ Sps H d l ∧ l.length < 64 ∧ RetL ((roomsOn cs ((kindsOn l n).map (·.2))).map V.int) H Q
section
variable {K : PySem.W.Frag} {H : Hp} {a d : Addr} {cs : List Int} {l : List Ent}
theorem v_is_span (h : SqL K H a (cs.map V.int)) (f l k : Int) : SpV (sp_is_span K) [.ref a, .int f, .int l, .int k] H (.bl (isSpan cs f l k)) := fun _ e _ q _ => ⟨a, cs, f, l, k, rfl, ex_l e h, q⟩
theorem d_kinds_on (h : Sps H d l) (hl : l.length < 64) (n : Int) : SpD sp_kinds_on [.ref d, .int n] H ((kindsOn l n).map kvI) := fun _ e _ q _ => ⟨d, l, n, rfl, h.mono e, hl, q⟩
theorem l_rooms_on (h : SqL K H a (cs.map V.int)) (hh : House cs) (hd : Sps H d l) (hl : l.length < 64) (n : Int) : SpL (sp_rooms_on K) [.ref a, .ref d, .int n] H ((roomsOn cs ((kindsOn l n).map (·.2))).map V.int) := fun _ e _ q _ => ⟨a, cs, d, l, n, rfl, ex_l e h, hh, hd.mono e, hl, q⟩
end
theorem filter_snoc_t {α : Type} {f : α → Bool} {l : List α} {i : Nat} {x : α} (h : l[i]? = some x) (hf : f x = true) : (l.take (i + 1)).filter f = (l.take i).filter f ++ [x] := by
  rw [take_snoc h, List.filter_append, List.filter_cons, if_pos hf]
  rfl
theorem filter_snoc_f {α : Type} {f : α → Bool} {l : List α} {i : Nat} {x : α} (h : l[i]? = some x) (hf : f x = false) : (l.take (i + 1)).filter f = (l.take i).filter f := by
  rw [take_snoc h, List.filter_append, List.filter_cons, if_neg (by rw [hf]; decide)]
  exact List.append_nil _
section
variable {P : Program} {w : World} {K : PySem.W.Frag} {mg : Str → Option Value} {base : Heap}
theorem cal_is_span (D : Dn K mg "is_span" s_is_span ["counts", "first", "last", "kind"]) (T : Tp mg) : Cal P w K mg base "is_span" 1 ["counts", "first", "last", "kind"] (sp_is_span K) := by
  refine cal_of D sc_is_span (fun vs H Q E h => ?_) (fun f cdv A outer s H vs Q E hr h => ?_)
  · obtain ⟨a, cs, x, y, z, rfl, _⟩ := h
    rfl
  · obtain ⟨a, cs, x, y, z, rfl, hS, k⟩ := h
    refine ⟨_, (pss_one (ps_ret (pe_and (pe_chain3 op_le op_lt op_le pe_int (pv 1) (pv 2) (pe_glob (v := .int 40) rfl T.g_NIGHTS.choose_spec ⟨_, rfl⟩)) (pe_one (pe_chain op_le op_lt pe_int (pv 3) (pe_callB (r := rLenS K) call_len_seq (by rfl) T.z_len (by decide +kernel) (pa_cons (pv 0) pa_nil))))))), ?_⟩
    refine s_ret (ev_of (ev_andV (ev_chain3I ev_c (ev_var rfl) (ev_var rfl) ev_c) fun _ => ev_chainI ev_c (ev_var rfl) (ev_of (ev_len' (ev_var rfl) hS) (by rw [List.length_map]))) ?_) k
    rfl
theorem cal_kinds_on (D : Dn K mg "kinds_on" s_kinds_on ["spans", "night"]) (T : Tp mg) : Cal P w K mg base "kinds_on" 1 ["spans", "night"] sp_kinds_on := by
  refine cal_of D sc_kinds_on (fun vs H Q E h => ?_) (fun f cdv A outer s H vs Q E hr h => ?_)
  · obtain ⟨d, l, n, rfl, _⟩ := h
    rfl
  · obtain ⟨d, l, n, rfl, S, hl, k⟩ := h
    refine ⟨_, (pss_cons (ps_if (pt_not (pt_chain op_le op_lt pe_int (pv 1) (pe_glob (v := .int 40) rfl T.g_NIGHTS.choose_spec ⟨_, rfl⟩))) (pss_one (ps_ret pe_dnewK)) pss_nil) (pss_cons (ps_set (i := 2) sc_kinds_on.nd rfl (.inl rfl) pe_dnewK) (pss_cons (ps_for PassesOwn.never rfl (pi_list (pe_callB (call_sortedDI rfl) (by rfl) T.z_sorted (by decide +kernel) (pa_cons (pv 0) pa_nil))) (pg_name (i := 3) sc_kinds_on.nd rfl (.inl rfl)) (pss_cons (ps_asg (pe_dget (hu_of hr) (pv 0) (pv 3) (fun _ _ => rfl)) (pg_tup rfl (pgs_cons (pg_name (i := 4) sc_kinds_on.nd rfl (.inl rfl)) (pgs_cons (pg_name (i := 5) sc_kinds_on.nd rfl (.inl rfl)) (pgs_cons (pg_name (i := 6) sc_kinds_on.nd rfl (.inl rfl)) pgs_nil))))) (pss_one (ps_if (pt_chain op_le op_lt (pv 4) (pv 1) (pv 5)) (pss_one (ps_dput (hu_of hr) (pv 2) (pv 3) (pv 6) rfl)) pss_nil)))) (pss_one (ps_ret (pv 2)))))), ?_⟩
    refine q_when (et_not (et_test (ev_chainI ev_c (ev_var rfl) ev_c))) (fun hb H1 e1 => ?_) (fun hb H1 e1 => ?_)
    · refine s_retD ed_new fun p H2 hp e2 h2 => ?_
      have hn : ¬ (0 ≤ n ∧ n < 40) := fun ⟨z1, z2⟩ => by
        rw [decide_eq_true z1, decide_eq_true z2] at hb
        exact absurd hb (by decide)
      have e : kindsOn l n = [] := if_neg hn
      rw [e] at k
      exact k.go e1 hp e2 h2
    · have hn : 0 ≤ n ∧ n < 40 := by simpa using not_f hb
      have ek : kindsOn l n = wantsL l n := if_pos hn
      rw [ek] at k
      have nd := wants_nodup S.nd n
      refine q_asgD ed_new fun p H2 hp e2 h2 => ?_
      have S2 := S.mono (e1.trans e2)
      have hp0 := fresh_back e1 hp
      have hnd : p ≠ d := fun z => by
        rw [z, S.dc] at hp0
        cases hp0
      have wl := wants_len l n
      refine q_forNLn (el_sortD (ks := nums l) (ev_var rfl) S2.dc (kv_keys l) (by unfold nums; rw [List.length_map]; exact hl))
        (fun q i σ' H' => ∃ y3 y4 y5 y6, σ' = [some (.ref d), some (.int n), some (.ref p), y3, y4, y5, y6] ∧ Ex H H' ∧ H' q = some (.lst ((sortI (nums l)).map V.int)) ∧ p ≠ q ∧ H' p = some (.dK (((((sortI (nums l)).take i).filter (actN l n)).map fun m => (m, kindN l m)).map kvI)))
        (fun q H3 hq e3 h3 => ⟨none, none, none, none, rfl, (e1.trans e2).trans e3, h3, (fun z => by rw [← z, h2] at hq; cases hq), e3 _ _ h2⟩) (fun q i σ' H' _ ⟨_, _, _, _, _, _, hq, _, _⟩ => sq_of hq) ?_ ?_
      · rintro q i x σ' H3 hx ⟨y3, y4, y5, y6, rfl, e3, hq, hpq, hP⟩
        rw [List.getElem?_map] at hx
        cases hm : (sortI (nums l))[i]? with
        | none =>
          rw [hm] at hx
          cases hx
        | some m =>
          rw [hm] at hx
          have ex : V.int m = x := Option.some.inj hx
          subst ex
          obtain ⟨e, he, hmem, hnum⟩ := look_some (sortI_mem.mp (List.mem_of_getElem? hm))
          have S3 := S.mono e3
          have hv : valV (l.map Ent.kv) (Sum.inl m : Key) = some (.ref e.at_) := by rw [look_val, he]; rfl
          refine q_asg3 (ev_dget (ev_var rfl) (ev_var rfl) S3.dc hv) (S3.tp e hmem) fun H4 e4 => ?_
          have ha : actN l n m = act n e := by
            unfold actN
            rw [he]
          have hk : kindN l m = e.kind := by
            unfold kindN
            rw [he]
          refine s_when (et_test (ev_chainI (ev_var rfl) (ev_var rfl) (ev_var rfl))) (fun hb H5 e5 => ?_) (fun hb H5 e5 => ?_)
          · have hb : actN l n m = true := ha.trans hb
            have h5 := (e4.trans e5) _ _ hP
            refine s_dput (ev_var rfl) (ev_var rfl) (ev_var rfl) h5 ?_ fun H6 e6 => ?_
            · rw [List.length_map, List.length_map]
              refine Nat.lt_of_le_of_lt (List.length_filter_le _ _) ?_
              rw [List.length_take, sortI_len]
              unfold nums
              rw [List.length_map]
              omega
            · have e36 := (e4.trans e5).trans e6
              refine ⟨_, _, _, _, rfl, Ex.mut (e3.trans e36) hp0, ?_, hpq, ?_⟩
              · rw [upd_ne hpq.symm]
                exact e36 _ _ hq
              · rw [upd_same, filter_snoc_t hm hb, List.map_append, List.map_append]
                have nn : (Sum.inl m : Key) ∉ (((((sortI (nums l)).take i).filter (actN l n)).map fun m => (m, kindN l m)).map kvI).map (·.1) := fun z => by
                  rw [List.map_map, List.map_map] at z
                  obtain ⟨m', h1, h2⟩ := List.mem_map.mp z
                  have e7 : m' = m := Sum.inl.inj h2
                  subst e7
                  obtain ⟨h3, _⟩ := List.mem_filter.mp h1
                  obtain ⟨j, hj⟩ := List.mem_iff_getElem?.mp h3
                  have hlt : j < i := by
                    have := (List.getElem?_eq_some_iff.mp hj).1
                    rw [List.length_take] at this
                    omega
                  rw [List.getElem?_take_of_lt hlt] at hj
                  have := nd_ix (sortI_nodup S.nd) hj hm
                  omega
                rw [putK_new _ (valV_none nn)]
                show some (HO.dK (_ ++ [(Sum.inl m, V.int e.kind)])) = some (HO.dK (_ ++ [(Sum.inl m, V.int (kindN l m))]))
                rw [hk]
          · have hb : actN l n m = false := ha.trans hb
            refine ⟨_, _, _, _, rfl, (e3.trans e4).trans e5, (e4.trans e5) _ _ hq, hpq, ?_⟩
            rw [filter_snoc_f hm hb]
            exact (e4.trans e5) _ _ hP
      · rintro q σ' H3 ⟨y3, y4, y5, y6, rfl, e3, hq, hpq, hP⟩
        rw [List.length_map, List.take_length] at hP
        exact s_ret (ev_var rfl) fun H4 e4 => k p H4 hp0 (e3.trans e4) (e4 _ _ hP)
theorem cal_wants_on (D : Dn K mg "wants_on" s_wants_on ["stays", "night"]) (T : Tp mg) (C_kinds_on : Cal P w K mg base "kinds_on" 1 ["spans", "night"] sp_kinds_on) : Cal P w K mg base "wants_on" 2 ["stays", "night"] sp_kinds_on := by
  refine cal_of D sc_wants_on (fun vs H Q E h => ?_) (fun f cdv A outer s H vs Q E hr h => ?_)
  · obtain ⟨d, l, n, rfl, _⟩ := h
    rfl
  · obtain ⟨d, l, n, rfl, S, hl, k⟩ := h
    refine ⟨_, (pss_one (ps_ret (pe_cal C_kinds_on (hr.mono (by decide)) (by rfl) (pa_cons (pv 0) (pa_cons (pv 1) pa_nil))))), ?_⟩
    exact s_retD (ed_call0 (ea_2 (ev_var rfl) (ev_var rfl)) (d_kinds_on S hl n)) k
theorem cal_rooms_on (D : Dn K mg "rooms_on" s_rooms_on ["counts", "closings", "night"]) (T : Tp mg) (C_kinds_on : Cal P w K mg base "kinds_on" 1 ["spans", "night"] sp_kinds_on) (C_rooms_of : Cal P w K mg base "rooms_of" 2 ["counts", "kind"] (sp_rooms_of K)) :
    Cal P w K mg base "rooms_on" 3 ["counts", "closings", "night"] (sp_rooms_on K) := by
  refine cal_of D sc_rooms_on (fun vs H Q E h => ?_) (fun f cdv A outer s H vs Q E hr h => ?_)
  · obtain ⟨a, cs, d, l, n, rfl, _⟩ := h
    rfl
  · obtain ⟨a, cs, d, l, n, rfl, hS, hh, S, hl, k⟩ := h
    refine ⟨_, (pss_cons (ps_set (i := 3) sc_rooms_on.nd rfl (.inl rfl) (pe_listVals rfl (pe_cal C_kinds_on (hr.mono (by decide)) (by rfl) (pa_cons (pv 1) (pa_cons (pv 2) pa_nil))) (by rfl) T.z_list)) (pss_cons (ps_set (i := 4) sc_rooms_on.nd rfl (.inl rfl) (pe_lst pa_nil)) (pss_cons (ps_for PassesOwn.never rfl (pi_range1 (by rfl) T.z_range (pa_cons (pe_callB (r := rLenS K) call_len_seq (by rfl) T.z_len (by decide +kernel) (pa_cons (pv 0) pa_nil)) pa_nil)) (pg_name (i := 5) sc_rooms_on.nd rfl (.inl rfl)) (pss_one (ps_if (pt_cmpR (r := rIn K true) op_notIn_seq (pv 5) (pv 3) (by rfl)) (pss_one (ps_expr (pe_bm PySem.F.plainAttrs_list PySem.F.slot_list_extend PySem.F.type_list_extend mt_extend (pv 4) (pa_cons (pe_cal C_rooms_of (hr.mono (by decide)) (by rfl) (pa_cons (pv 0) (pa_cons (pv 5) pa_nil))) pa_nil)))) pss_nil))) (pss_one (ps_ret (pv 4)))))), ?_⟩
    have hle := hh.le
    generalize hcl : (kindsOn l n).map (·.2) = cl at k
    refine q_asgL (el_is (ys := cl.map V.int) (el_valsN (ed_call0 (ea_2 (ev_var rfl) (ev_var rfl)) (d_kinds_on S hl n))) ?_) fun p H1 hp e1 h1 => ?_
    · rw [← hcl, List.map_map, List.map_map]
      rfl
    refine q_asgL el_nil fun q H2 hq e2 h2 => ?_
    have hqp : p ≠ q := fun z => by
      rw [← z, h1] at hq
      cases hq
    refine q_forR1 (n := (cs.length : Int)) (ea_1 (ev_of (ev_len' (ev_var rfl) (ex_l (e1.trans e2) hS)) (by rw [List.length_map]))) ⟨by omega, by omega⟩
      (fun i σ' H' => ∃ y5, σ' = [some (.ref a), some (.ref d), some (.int n), some (.ref p), some (.ref q), y5] ∧ Ex H1 H' ∧ H' q = some (.lst (((List.range i).flatMap fun k : Nat => if (k : Int) ∈ cl then [] else roomsOf cs (k : Int)).map V.int)))
      (fun H3 e3 => ⟨none, rfl, e2.trans e3, e3 _ _ h2⟩) ?_ ?_
    · rintro i σ' H3 hi ⟨y5, rfl, e3, h3⟩
      have hi : i < cs.length := by omega
      have es : (List.range (i + 1)).flatMap (fun k : Nat => if (k : Int) ∈ cl then [] else roomsOf cs (k : Int)) = (List.range i).flatMap (fun k : Nat => if (k : Int) ∈ cl then [] else roomsOf cs (k : Int)) ++ (if (i : Int) ∈ cl then [] else roomsOf cs (i : Int)) := by
        rw [List.range_succ, List.flatMap_append, List.flatMap_cons]
        simp
      refine s_when (et_test (ev_niI (ev_var rfl) (ev_var rfl) (sq_of (e3 _ _ h1)))) (fun hb H4 e4 => ?_) (fun hb H4 e4 => ?_)
      · have hb : ¬ (i : Int) ∈ cl := of_decide_eq_false (not_t hb)
        rw [if_neg hb] at es
        have hlen : ∀ j : Nat, j ≤ cs.length → ((List.range j).flatMap fun k : Nat => if (k : Int) ∈ cl then [] else roomsOf cs (k : Int)).length ≤ 54 := fun j hj => by
          have h54 := roomsOn_take_len hh cl
          unfold roomsOn at h54
          obtain ⟨m, hm⟩ : ∃ m, cs.length = j + m := ⟨cs.length - j, by omega⟩
          rw [hm, List.range_add, List.flatMap_append, List.length_append] at h54
          omega
        have hz := hlen (i + 1) (by omega)
        rw [es, List.length_append] at hz
        refine s_ext (e4 _ _ h3) (ev_var rfl) (el_call0 (ea_2 (ev_var rfl) (ev_var rfl)) (l_rooms_of (ex_l ((e1.trans e3).trans e4) hS) hh (i : Int))) (by rw [List.length_map, List.length_map]; omega) fun H5 e5 => ?_
        refine ⟨_, rfl, Ex.mut ((e3.trans e4).trans e5) hq, ?_⟩
        rw [upd_same, es, List.map_append]
      · have hb : (i : Int) ∈ cl := of_decide_eq_true (not_f hb)
        rw [if_pos hb, List.append_nil] at es
        exact ⟨_, rfl, e3.trans e4, by rw [es]; exact e4 _ _ h3⟩
    · rintro σ' H3 ⟨y5, rfl, e3, h3⟩
      rw [Int.toNat_natCast] at h3
      exact s_ret (ev_var rfl) fun H4 e4 => k q H4 (fresh_back e1 hq) ((e1.trans e3).trans e4) (e4 _ _ h3)
end

/-! ### the program's short kind -/
def sp_lacking (K : PySem.W.Frag) : Sp := fun vs H Q _ => ∃ (a : Addr) (cs : List Int) (b : Addr) (rs : List Int) (d : Addr) (kvs : List (Key × V)) (ws : List Int) (n : Nat), vs = [.ref a, .ref b, .ref d, .int (n : Int)] ∧ SqL K H a (cs.map V.int) ∧ SqL K H b (rs.map V.int) ∧ rs.length ≤ 1000 ∧
  H d = some (.dK kvs) ∧ kvs.map (·.2) = ws.map V.int ∧ ws.length ≤ 1000 ∧ RetV (.int ((atLeast ws (n : Int) : Int) - (atLeast rs (cs.take n).sum : Int))) H Q
section
variable {P : Program} {w : World} {K : PySem.W.Frag} {mg : Str → Option Value} {base : Heap}
theorem v_lacking {H : Hp} {a b d : Addr} {cs rs ws : List Int} {kvs : List (Key × V)} (hS : SqL K H a (cs.map V.int)) (hR : SqL K H b (rs.map V.int)) (hrl : rs.length ≤ 1000) (hd : H d = some (.dK kvs)) (hv : kvs.map (·.2) = ws.map V.int) (hw : ws.length ≤ 1000) (n : Nat) :
    SpV (sp_lacking K) [.ref a, .ref b, .ref d, .int (n : Int)] H (.int ((atLeast ws (n : Int) : Int) - (atLeast rs (cs.take n).sum : Int))) := fun _ e _ q _ => ⟨a, cs, b, rs, d, kvs, ws, n, rfl, ex_l e hS, ex_l e hR, hrl, e _ _ hd, hv, hw, q⟩
theorem cal_lacking (D : Dn K mg "lacking" s_lacking ["counts", "rooms", "wants", "kind"]) (T : Tp mg) (C_first_room : Cal P w K mg base "first_room" 1 ["counts", "kind"] (sp_first_room K)) : Cal P w K mg base "lacking" 2 ["counts", "rooms", "wants", "kind"] (sp_lacking K) := by
  refine cal_of D sc_lacking (fun vs H Q E h => ?_) (fun f cdv A outer s H vs Q E hr h => ?_)
  · obtain ⟨a, cs, b, rs, d, kvs, ws, n, rfl, _⟩ := h
    rfl
  · obtain ⟨a, cs, b, rs, d, kvs, ws, i, rfl, hS, hR, hrl, hd, hv, hw, k⟩ := h
    refine ⟨_, (pss_cons (ps_set (i := 4) sc_lacking.nd rfl (.inr rfl) (pe_cal C_first_room (hr.mono (by decide)) (by rfl) (pa_cons (pv 0) (pa_cons (pv 3) pa_nil)))) (pss_cons (ps_setLc (i := 5) (own := [("room", 7)]) (g := gName 7) (by rfl) sc_lacking.nd rfl rfl (sw_true rfl rfl rfl (by decide +kernel)) (pi_list (pv 1)) (blkOk_by (own := [("room", 7)]) (N := ["counts", "rooms", "wants", "kind", "start", "good", "wanted", "room", "want"]) (sc := defScope s_lacking) (by decide +kernel)) (fun _ _ _ _ _ => pg_name (i := 7) sc_lacking.nd rfl (Or.inl rfl)) (fun _ _ _ _ _ => (pts_one (pt_cmpR op_ge (pv 7) (pv 4) (nomark _)))) (fun _ _ _ _ _ => (pv 7))) (pss_cons (ps_lock (ps_setLc (i := 6) (own := [("want", 8)]) (g := gName 8) (by rfl) sc_lacking.nd rfl rfl (sw_true rfl rfl rfl (by decide +kernel)) (pi_values (pv 2)) (blkOk_by (own := [("want", 8)]) (N := ["counts", "rooms", "wants", "kind", "start", "good", "wanted", "room", "want"]) (sc := defScope s_lacking) (by decide +kernel)) (fun _ _ _ _ _ => pg_name (i := 8) sc_lacking.nd rfl (Or.inl rfl)) (fun _ _ _ _ _ => (pts_one (pt_cmpR op_ge (pv 8) (pv 3) (nomark _)))) (fun _ _ _ _ _ => (pv 8)))) (pss_one (ps_ret (pe_op op_sub (pe_callB (r := rLenS K) call_len_seq (by rfl) T.z_len (by decide +kernel) (pa_cons (pv 6) pa_nil)) (pe_callB (r := rLenS K) call_len_seq (by rfl) T.z_len (by decide +kernel) (pa_cons (pv 5) pa_nil)))))))), ?_⟩
    refine q_asg (ev_call0 (ea_2 (ev_var rfl) (ev_var rfl)) (v_first_room hS i)) fun H2 e2 => ?_
    refine q_asgL (el_lcA rs V.int (fun r => decide ((cs.take i).sum ≤ r)) V.int (ev_var rfl) (ex_l e2 hR) (by omega) (fun _ => rfl) (fun x _ H3 _ => et_test (ev_cmp (ev_var rfl) (ev_var rfl))) (fun x _ _ H3 _ => ev_var rfl)) fun p H3 hp e3 h3 => ?_
    have e03 := e2.trans e3
    refine q_asgLV ws V.int (fun x => decide ((i : Int) ≤ x)) V.int (e03 _ _ hd) hv (by omega) (fun _ => rfl) (fun od => ev_var rfl) (fun od x _ => et_test (ev_cmp (ev_var rfl) (ev_var rfl))) (fun od x _ _ => ev_var rfl) fun q H4 hq e4 h4 => ?_
    refine s_ret (ev_of (ev_sub (ev_len' (ev_var rfl) (sq_of h4)) (ev_len' (ev_var rfl) (sq_of (e4 _ _ h3)))) ?_) fun H5 e5 => k H5 ((e03.trans e4).trans e5)
    rw [List.length_map, List.length_map]
    rfl
end

def sp_short_kind (K : PySem.W.Frag) : Sp := fun vs H Q _ => ∃ (a : Addr) (cs : List Int) (b : Addr) (rs : List Int) (d : Addr) (kvs : List (Key × V)) (ws : List Int), vs = [.ref a, .ref b, .ref d] ∧ SqL K H a (cs.map V.int) ∧ cs.length ≤ 6 ∧ SqL K H b (rs.map V.int) ∧ rs.length ≤ 1000 ∧
  H d = some (.dK kvs) ∧ kvs.map (·.2) = ws.map V.int ∧ ws.length ≤ 1000 ∧ RetV (onV (shortP cs rs ws)) H Q
section
variable {P : Program} {w : World} {K : PySem.W.Frag} {mg : Str → Option Value} {base : Heap}
theorem cal_short_kind (D : Dn K mg "short_kind" s_short_kind ["counts", "rooms", "wants"]) (T : Tp mg) (C_lacking : Cal P w K mg base "lacking" 2 ["counts", "rooms", "wants", "kind"] (sp_lacking K)) : Cal P w K mg base "short_kind" 3 ["counts", "rooms", "wants"] (sp_short_kind K) := by
  refine cal_of D sc_short_kind (fun vs H Q E h => ?_) (fun f cdv A outer s H vs Q E hr h => ?_)
  · obtain ⟨a, cs, b, rs, d, kvs, ws, rfl, _⟩ := h
    rfl
  · obtain ⟨a, cs, b, rs, d, kvs, ws, rfl, hS, hc, hR, hrl, hd, hv, hw, k⟩ := h
    refine ⟨_, (pss_cons (ps_for PassesOwn.never rfl (pi_range1 (by rfl) T.z_range (pa_cons (pe_callB (r := rLenS K) call_len_seq (by rfl) T.z_len (by decide +kernel) (pa_cons (pv 0) pa_nil)) pa_nil)) (pg_name (i := 3) sc_short_kind.nd rfl (.inl rfl)) (pss_one (ps_if (pt_cmpR op_gt (pe_cal C_lacking (hr.mono (by decide)) (by rfl) (pa_cons (pv 0) (pa_cons (pv 1) (pa_cons (pv 2) (pa_cons (pv 3) pa_nil))))) pe_int (nomark _)) (pss_one (ps_ret (pv 3))) pss_nil))) (pss_one (ps_ret pe_non))), ?_⟩
    refine q_forR1 (n := (cs.length : Int)) (ea_1 (ev_of (ev_len' (ev_var rfl) hS) (by rw [List.length_map]))) ⟨by omega, by omega⟩
      (fun i σ' H' => ∃ y3, σ' = [some (.ref a), some (.ref b), some (.ref d), y3] ∧ Ex H H' ∧ ∀ j, j < i → decide (atLeast rs (cs.take j).sum < atLeast ws (j : Int)) = false)
      (fun H1 e1 => ⟨none, rfl, e1, fun j hj => absurd hj (Nat.not_lt_zero j)⟩) ?_ ?_
    · rintro i σ' H1 hi ⟨y3, rfl, e1, hn⟩
      have e34 : decide ((0 : Int) < (atLeast ws (i : Int) : Int) - (atLeast rs (cs.take i).sum : Int)) = decide (atLeast rs (cs.take i).sum < atLeast ws (i : Int)) := decide_eq_decide.mpr ⟨fun h => by omega, fun h => by omega⟩
      refine s_when (et_test (ev_cmp (ev_call0 (ea_cons (ev_var rfl) (ea_3 (ev_var rfl) (ev_var rfl) (ev_var rfl))) (v_lacking (ex_l e1 hS) (ex_l e1 hR) hrl (e1 _ _ hd) hv hw i)) ev_c)) (fun hb H5 e5 => ?_) (fun hb H5 e5 => ?_)
      · have hb := e34.symm.trans hb
        refine s_ret (ev_var rfl) fun H6 e6 => ?_
        have es : shortP cs rs ws = some i := find_range (by omega) hb hn
        rw [es] at k
        exact k H6 ((e1.trans e5).trans e6)
      · have hb := e34.symm.trans hb
        refine ⟨_, rfl, e1.trans e5, fun j hj => ?_⟩
        by_cases q : j = i
        · subst q
          exact hb
        · exact hn j (by omega)
    · rintro σ' H1 ⟨y3, rfl, e1, hn⟩
      rw [Int.toNat_natCast] at hn
      have es : shortP cs rs ws = none := find_range_none hn
      rw [es] at k
      exact s_ret ev_c fun H2 e2 => k H2 (e1.trans e2)
end

theorem kvI_keys (l : List (Int × Int)) : (l.map kvI).map (·.1) = (l.map (·.1)).map Sum.inl := by
  rw [List.map_map, List.map_map]
  rfl
theorem kvI_vals (l : List (Int × Int)) : (l.map kvI).map (·.2) = (l.map (·.2)).map V.int := by
  rw [List.map_map, List.map_map]
  rfl
theorem kd_at {cs : List Int} {i : Nat} (hi : i < (kinds cs).length) : atI ((kinds cs).map V.int) (i : Int) = some (.int (kd cs (i : Int))) ∧ 0 ≤ kd cs (i : Int) ∧ kd cs (i : Int) < (cs.length : Int) := by
  unfold kd
  rw [Int.toNat_natCast, List.getD_eq_getElem?_getD, List.getElem?_eq_getElem hi]
  have := kinds_lt (List.getElem_mem hi)
  exact ⟨atI_nat (by rw [List.getElem?_map, List.getElem?_eq_getElem hi]; rfl), this⟩
theorem kd_in {cs : List Int} {r : Int} (h0 : 0 ≤ r) (h1 : r < ((kinds cs).length : Int)) : atI ((kinds cs).map V.int) r = some (.int (kd cs r)) := by
  obtain ⟨i, rfl⟩ : ∃ i : Nat, r = (i : Int) := ⟨r.toNat, by omega⟩
  exact (kd_at (by omega)).1

theorem kvI_new {l : List (Int × Int)} {n v : Int} (h : n ∉ l.map (·.1)) : putK (l.map kvI) (Sum.inl n : Key) (.int v) = (l ++ [(n, v)]).map kvI := by
  rw [List.map_append]
  refine putK_new _ (valV_none fun z => ?_)
  rw [kvI_keys] at z
  obtain ⟨m, h1, h2⟩ := List.mem_map.mp z
  exact h (Sum.inl.inj h2 ▸ h1)

/-! ### the program's papers -/
def sp_not_driven_out (K : PySem.W.Frag) : Sp := fun vs H Q _ => ∃ (b : Addr) (rs : List Int) (d1 d2 : Addr) (wl al : List (Int × Int)), vs = [.ref b, .ref d1, .ref d2] ∧ SqL K H b (rs.map V.int) ∧ H d1 = some (.dK (wl.map kvI)) ∧ H d2 = some (.dK (al.map kvI)) ∧ (wl.map fun p : Int × Int => p.1).Nodup ∧ wl.length ≤ 1000 ∧ RetD ((stayL rs wl al).map kvI) H Q
def sp_in_the_way (K : PySem.W.Frag) : Sp := fun vs H Q _ => ∃ (a : Addr) (cs : List Int) (d1 d2 : Addr) (wl st : List (Int × Int)) (k : Nat), vs = [.ref a, .ref d1, .ref d2, .int (k : Int)] ∧ SqL K H a (cs.map V.int) ∧ H d1 = some (.dK (wl.map kvI)) ∧ H d2 = some (.dK (st.map kvI)) ∧ st.length ≤ 1000 ∧ (∀ p ∈ st, ∃ w, lookI wl p.1 = some w) ∧ RetL (((st.filter (inW cs wl k)).map fun p : Int × Int => p.1).map V.int) H Q
def sp_paper_number (K : PySem.W.Frag) : Sp := fun vs H Q _ => ∃ (a : Addr) (cs : List Int) (b : Addr) (rs : List Int) (d1 d2 : Addr) (wl al : List (Int × Int)) (q : Addr) (P : List Int), vs = [.ref a, .ref b, .ref d1, .ref d2, .ref q] ∧ SqL K H a (cs.map V.int) ∧ House cs ∧ SqL K H b (rs.map V.int) ∧ H d1 = some (.dK (wl.map kvI)) ∧ H d2 = some (.dK (al.map kvI)) ∧ NightOk cs rs wl al ∧ SqL K H q (P.map V.int) ∧ PaperOk cs P ∧ RetV (.int (numberN cs rs wl al P)) H Q
section
variable {K : PySem.W.Frag} {H : Hp}
theorem d_not_driven_out {b d1 d2 : Addr} {rs : List Int} {wl al : List (Int × Int)} (hR : SqL K H b (rs.map V.int)) (h1 : H d1 = some (.dK (wl.map kvI))) (h2 : H d2 = some (.dK (al.map kvI))) (hn : (wl.map fun p : Int × Int => p.1).Nodup) (hl : wl.length ≤ 1000) :
    SpD (sp_not_driven_out K) [.ref b, .ref d1, .ref d2] H ((stayL rs wl al).map kvI) := fun _ e _ q _ => ⟨b, rs, d1, d2, wl, al, rfl, ex_l e hR, e _ _ h1, e _ _ h2, hn, hl, q⟩
theorem l_in_the_way {a d1 d2 : Addr} {cs : List Int} {wl st : List (Int × Int)} (hS : SqL K H a (cs.map V.int)) (h1 : H d1 = some (.dK (wl.map kvI))) (h2 : H d2 = some (.dK (st.map kvI))) (hl : st.length ≤ 1000) (hk : ∀ p ∈ st, ∃ w, lookI wl p.1 = some w) (k : Nat) :
    SpL (sp_in_the_way K) [.ref a, .ref d1, .ref d2, .int (k : Int)] H (((st.filter (inW cs wl k)).map fun p : Int × Int => p.1).map V.int) := fun _ e _ q _ => ⟨a, cs, d1, d2, wl, st, k, rfl, ex_l e hS, e _ _ h1, e _ _ h2, hl, hk, q⟩
end
section
variable {P : Program} {w : World} {K : PySem.W.Frag} {mg : Str → Option Value} {base : Heap}
theorem cal_not_driven_out (D : Dn K mg "not_driven_out" s_not_driven_out ["rooms", "wants", "ahead"]) (T : Tp mg) : Cal P w K mg base "not_driven_out" 1 ["rooms", "wants", "ahead"] (sp_not_driven_out K) := by
  refine cal_of D sc_not_driven_out (fun vs H Q E h => ?_) (fun f cdv A outer s H vs Q E hr h => ?_)
  · obtain ⟨b, rs, d1, d2, wl, al, rfl, _⟩ := h
    rfl
  · obtain ⟨b, rs, d1, d2, wl, al, rfl, hR, h1, h2, hn, hl, k⟩ := h
    refine ⟨_, (pss_one (ps_ret (pe_lock (pe_dc (own := [("number", 3)]) (g := gName 3) (by rfl) sc_not_driven_out.nd (pi_keys (pv 1)) (blkOk_by (own := [("number", 3)]) (N := ["rooms", "wants", "ahead", "number"]) (sc := defScope s_not_driven_out) (by decide +kernel)) (fun _ _ _ _ _ => pg_name (i := 3) sc_not_driven_out.nd rfl (Or.inl rfl)) (fun _ _ _ _ _ => (pts_one (PW.pt (pw_and (pt_cmp (pc_din (hu_of hr) (pv 3) (pv 2))) (pw_and1 (pt_cmpR (r := rIn K false) op_in_seq (pe_dget (hu_of hr) (pv 2) (pv 3) (fun _ _ => rfl)) (pv 0) (by rfl))))))) (fun _ _ _ _ _ => (pv 3)) (fun _ _ _ _ _ => (pe_dget (hu_of hr) (pv 2) (pv 3) (fun _ _ => rfl))))))), ?_⟩
    refine s_retD (ed_is (ed_dcK (ks := wl.map fun p : Int × Int => p.1) (there rs al) (fun n => (n, .int (roomOf al n))) h1 (kvI_keys wl) (by rw [List.map_map]; exact hn) (by rw [List.length_map]; omega) (fun _ => rfl) (fun od => ev_var rfl) (fun od n hn' => ?_) (fun od n _ _ => ev_var rfl) (fun od n hn' hf => ?_)) ?_) k
    · have hrd := lock_dict2 (od := od) h1 h2
      refine et_is (et_and (et_B (ev_dinR (ev_var rfl) (ev_var rfl) hrd)) (b := there rs al n) fun hb => ?_) ?_
      · rw [lookI_val] at hb
        unfold there
        cases hl : lookI al n with
        | none =>
          rw [hl] at hb
          cases hb
        | some r => exact et_test (ev_inI (ev_dgetR (ev_var rfl) (ev_var rfl) hrd (by rw [lookI_val, hl]; rfl)) (ev_var rfl) (lock_list h1 hR))
      · rw [lookI_val]
        unfold there
        cases lookI al n <;> rfl
    · obtain ⟨h3, _⟩ := there_room hf
      exact ev_dgetR (ev_var rfl) (ev_var rfl) (lock_dict2 (od := od) h1 h2) (by rw [lookI_val, h3]; rfl)
    · unfold stayL
      rw [List.map_map]
      rfl
theorem cal_in_the_way (D : Dn K mg "in_the_way" s_in_the_way ["counts", "wants", "staying", "kind"]) (T : Tp mg) (C_first_room : Cal P w K mg base "first_room" 1 ["counts", "kind"] (sp_first_room K)) : Cal P w K mg base "in_the_way" 2 ["counts", "wants", "staying", "kind"] (sp_in_the_way K) := by
  refine cal_of D sc_in_the_way (fun vs H Q E h => ?_) (fun f cdv A outer s H vs Q E hr h => ?_)
  · obtain ⟨a, cs, d1, d2, wl, st, n, rfl, _⟩ := h
    rfl
  · obtain ⟨a, cs, d1, d2, wl, st, n, rfl, hS, h1, h2, hl, hk, k⟩ := h
    refine ⟨_, (pss_cons (ps_set (i := 4) sc_in_the_way.nd rfl (.inr rfl) (pe_cal C_first_room (hr.mono (by decide)) (by rfl) (pa_cons (pv 0) (pa_cons (pv 3) pa_nil)))) (pss_one (ps_ret (pe_lock (pe_lc (own := [("number", 5), ("room", 6)]) (g := gTup K 2 (gCons (gName 5) (gCons (gName 6) (gNil)))) (by rfl) sc_in_the_way.nd (pi_items (pv 2)) (blkOk_by (own := [("number", 5), ("room", 6)]) (N := ["counts", "wants", "staying", "kind", "start", "number", "room"]) (sc := defScope s_in_the_way) (by decide +kernel)) (fun _ _ _ _ _ => pg_tup rfl (pgs_cons (pg_name (i := 5) sc_in_the_way.nd rfl (Or.inl rfl)) (pgs_cons (pg_name (i := 6) sc_in_the_way.nd rfl (Or.inl rfl)) pgs_nil))) (fun _ _ _ _ _ => (pts_one (PW.pt (pw_and (pt_cmpR op_ge (pv 6) (pv 4) (nomark _)) (pw_and1 (pt_cmpR op_lt (pe_dget (hu_of hr) (pv 1) (pv 5) (fun _ _ => rfl)) (pv 3) (nomark _))))))) (fun _ _ _ _ _ => (pv 5))))))), ?_⟩
    refine q_asg (ev_call0 (ea_2 (ev_var rfl) (ev_var rfl)) (v_first_room hS n)) fun H2 e2 => ?_
    refine s_retL (el_is (el_lcI (l := st) (inW cs wl n) (fun p => .int p.1) (e2 _ _ h2) (by omega) (fun _ _ => rfl) (fun od => ev_var rfl) (fun od p hp => ?_) (fun od p _ _ => ev_var rfl)) ?_) fun p H3 hp e3 h3 => k.go e2 hp e3 h3
    · obtain ⟨w, hw⟩ := hk p hp
      refine et_is (et_and (et_test (ev_cmp (ev_var rfl) (ev_var rfl))) (b := decide (wantOf wl p.1 < (n : Int))) fun _ => ?_) rfl
      rw [wantOf_some hw]
      exact et_test (ev_cmp (ev_dgetR (ev_var rfl) (ev_var rfl) (lock_dict2 (od := od) (e2 _ _ h2) (e2 _ _ h1)) (by rw [lookI_val, hw]; rfl)) (ev_var rfl))
    · rw [List.map_map]
      rfl
theorem cal_paper_number (D : Dn K mg "paper_number" s_paper_number ["counts", "rooms", "wants", "ahead", "paper"]) (T : Tp mg) (C_not_driven_out : Cal P w K mg base "not_driven_out" 1 ["rooms", "wants", "ahead"] (sp_not_driven_out K)) (C_lacking : Cal P w K mg base "lacking" 2 ["counts", "rooms", "wants", "kind"] (sp_lacking K))
    (C_in_the_way : Cal P w K mg base "in_the_way" 2 ["counts", "wants", "staying", "kind"] (sp_in_the_way K)) : Cal P w K mg base "paper_number" 3 ["counts", "rooms", "wants", "ahead", "paper"] (sp_paper_number K) := by
  refine cal_of D sc_paper_number (fun vs H Q E h => ?_) (fun f cdv A outer s H vs Q E hr h => ?_)
  · obtain ⟨a, cs, b, rs, d1, d2, wl, al, q, P, rfl, _⟩ := h
    rfl
  · obtain ⟨a, cs, b, rs, d1, d2, wl, al, q, P, rfl, hS, hh, hR, h1, h2, N, hP, po, k⟩ := h
    have few := N.few
    have hrl := rooms_len hh N.rooms
    have hPl := paper_len hh po
    have hsl := stay_len (rs := rs) (wl := wl) (al := al)
    rw [number_eq hh N po.ok] at k
    refine ⟨_, (pss_cons (ps_lock (ps_setLc (i := 5) (own := [("number", 10)]) (g := gName 10) (by rfl) sc_paper_number.nd rfl rfl (sw_true rfl rfl rfl (by decide +kernel)) (pi_keys (pv 2)) (blkOk_by (own := [("number", 10)]) (N := ["counts", "rooms", "wants", "ahead", "paper", "guests", "staying", "total", "standing", "kind", "number"]) (sc := defScope s_paper_number) (by decide +kernel)) (fun _ _ _ _ _ => pg_name (i := 10) sc_paper_number.nd rfl (Or.inl rfl)) (fun _ _ _ _ _ => (pts_one (pt_cmp (pc_din (hu_of hr) (pv 10) (pv 3))))) (fun _ _ _ _ _ => (pv 10)))) (pss_cons (ps_set (i := 6) sc_paper_number.nd rfl (.inl rfl) (pe_cal C_not_driven_out (hr.mono (by decide)) (by rfl) (pa_cons (pv 1) (pa_cons (pv 2) (pa_cons (pv 3) pa_nil))))) (pss_cons (ps_set (i := 7) sc_paper_number.nd rfl (.inl rfl) (pe_op op_sub (pe_callB (r := rLenS K) call_len_seq (by rfl) T.z_len (by decide +kernel) (pa_cons (pv 5) pa_nil)) (pe_callB call_lenD (by rfl) T.z_len (by decide +kernel) (pa_cons (pv 6) pa_nil)))) (pss_cons (ps_set (i := 8) sc_paper_number.nd rfl (.inl rfl) (pe_lst pa_nil)) (pss_cons (ps_for PassesOwn.never rfl (pi_list (pv 4)) (pg_name (i := 9) sc_paper_number.nd rfl (.inl rfl)) (pss_cons (ps_aug (i := 7) sc_paper_number.nd rfl (.inl rfl) (pe_cal C_lacking (hr.mono (by decide)) (by rfl) (pa_cons (pv 0) (pa_cons (pv 1) (pa_cons (pv 2) (pa_cons (pv 9) pa_nil))))) ip_add) (pss_one (ps_expr (pe_bm PySem.F.plainAttrs_list PySem.F.slot_list_extend PySem.F.type_list_extend mt_extend (pv 8) (pa_cons (pe_cal C_in_the_way (hr.mono (by decide)) (by rfl) (pa_cons (pv 0) (pa_cons (pv 2) (pa_cons (pv 6) (pa_cons (pv 9) pa_nil))))) pa_nil)))))) (pss_one (ps_ret (pe_op op_add (pv 7) (pe_lenSetU (by rfl) T.z_len (by rfl) T.z_set (pv 8)))))))))), ?_⟩
    refine q_asgLK (ks := wl.map fun p : Int × Int => p.1) (fun n => (lookI al n).isSome) V.int h1 (kvI_keys wl) (by rw [List.length_map]; omega) (fun _ => rfl) (fun od => ev_var rfl) (fun od n _ => et_is (et_B (ev_dinR (ev_var rfl) (ev_var rfl) (lock_dict2 (od := od) h1 h2))) (by rw [lookI_val]; cases lookI al n <;> rfl)) (fun od n _ _ => ev_var rfl) fun p1 H1 hp1 e1 g1 => ?_
    refine q_asgD (ed_call0 (ea_3 (ev_var rfl) (ev_var rfl) (ev_var rfl)) (d_not_driven_out (ex_l e1 hR) (e1 _ _ h1) (e1 _ _ h2) N.wn (by omega))) fun p2 H2 hp2 e2 g2 => ?_
    have e02 := e1.trans e2
    refine q_asg (v := .int (((bothL wl al).length : Int) - (stayL rs wl al).length)) (ev_of (ev_sub (ev_len' (ev_var rfl) (sq_of (e2 _ _ g1))) (ev_lenD (ev_var rfl) g2)) ?_) fun H3 e3 => ?_
    · rw [List.length_map, List.length_map]
      rfl
    have e03 := e02.trans e3
    refine q_asgL el_nil fun p4 H4 hp4 e4 g4 => ?_
    have e04 := e03.trans e4
    have hp40 : H p4 = none := fresh_back e03 hp4
    refine q_forLn (ev_var rfl) (ex_l e04 hP) (fun i σ' H' => ∃ y9 y10, σ' = [some (.ref a), some (.ref b), some (.ref d1), some (.ref d2), some (.ref q), some (.ref p1), some (.ref p2), some (.int ((((bothL wl al).length : Int) - (stayL rs wl al).length) + ((P.take i).map fun k => (atLeast (wl.map fun p : Int × Int => p.2) k : Int) - atLeast rs (cs.take k.toNat).sum).sum)), some (.ref p4), y9, y10] ∧
        Ex H3 H' ∧ H' p4 = some (.lst ((standL cs wl (stayL rs wl al) (P.take i)).map V.int)))
      (fun H5 e5 => ⟨none, none, by rw [List.take_zero, List.map_nil, List.sum_nil, Int.add_zero]; rfl, e4.trans e5, e5 _ _ g4⟩) (fun i σ' H' _ ⟨_, _, _, e, _⟩ => ex_l (e03.trans e) hP) ?_ ?_
    · rintro i x σ' H5 hx ⟨y9, y10, rfl, e5, g5⟩
      rw [List.getElem?_map] at hx
      cases hm : P[i]? with
      | none =>
        rw [hm] at hx
        cases hx
      | some m =>
        rw [hm] at hx
        have ex : V.int m = x := Option.some.inj hx
        subst ex
        have e05 := e03.trans e5
        have hm' := po.ok m (List.mem_of_getElem? hm)
        have em : m = ((m.toNat : Nat) : Int) := by omega
        refine q_aug (b := (atLeast (wl.map fun p : Int × Int => p.2) m : Int) - atLeast rs (cs.take m.toNat).sum) rfl (ev_call0 (vs := [.ref a, .ref b, .ref d1, .int m]) (ea_cons (ev_var rfl) (ea_3 (ev_var rfl) (ev_var rfl) (ev_var rfl))) ?_) fun H6 e6 => ?_
        · have v := v_lacking (ex_l e05 hS) (ex_l e05 hR) (by omega) (e05 _ _ h1) (kvI_vals wl) (by rw [List.length_map]; omega) m.toNat
          rw [← em] at v
          exact v
        have e06 := e05.trans e6
        refine s_ext (ys := (((stayL rs wl al).filter (inW cs wl m.toNat)).map fun p : Int × Int => p.1).map V.int) (e6 _ _ g5) (ev_var rfl) (el_call0 (vs := [.ref a, .ref d1, .ref p2, .int m]) (ea_cons (ev_var rfl) (ea_3 (ev_var rfl) (ev_var rfl) (ev_var rfl))) ?_) ?_ fun H7 e7 => ?_
        · have v := l_in_the_way (ex_l e06 hS) (e06 _ _ h1) ((e3.trans (e5.trans e6)) _ _ g2) (by omega) (lt_of_keys fun p hp => (stay_key hp).1) m.toNat
          rw [← em] at v
          exact v
        · have s1 := stand_len (cs := cs) (wl := wl) (st := stayL rs wl al) (P.take i)
          have s2 := List.length_filter_le (inW cs wl m.toNat) (stayL rs wl al)
          have s3 : (P.take i).length ≤ 6 := by
            rw [List.length_take]
            omega
          have s4 : (P.take i).length * (stayL rs wl al).length ≤ 6 * 80 := Nat.mul_le_mul s3 (by omega)
          rw [List.length_map, List.length_map, List.length_map]
          omega
        · refine ⟨some (.int m), y10, ?_, Ex.mut ((e5.trans e6).trans e7) (fresh_back e3 (by exact hp4) |> fun _ => hp4), ?_⟩
          · have es : ((P.take (i + 1)).map fun k => (atLeast (wl.map fun p : Int × Int => p.2) k : Int) - atLeast rs (cs.take k.toNat).sum).sum = ((P.take i).map fun k => (atLeast (wl.map fun p : Int × Int => p.2) k : Int) - atLeast rs (cs.take k.toNat).sum).sum + ((atLeast (wl.map fun p : Int × Int => p.2) m : Int) - atLeast rs (cs.take m.toNat).sum) := by
              rw [take_snoc hm, List.map_append, List.sum_append]
              simp
            rw [es, ← Int.add_assoc]
            rfl
          · rw [upd_same, take_snoc hm]
            unfold standL
            rw [List.flatMap_append, List.map_append]
            simp
    · rintro σ' H5 ⟨y9, y10, rfl, e5, g5⟩
      rw [List.length_map, List.take_length] at g5 ⊢
      have s1 := stand_len (cs := cs) (wl := wl) (st := stayL rs wl al) P
      have s4 : P.length * (stayL rs wl al).length ≤ 6 * 80 := Nat.mul_le_mul hPl (by omega)
      exact s_ret (ev_add (ev_var rfl) (ev_lenSet (ev_var rfl) (sq_of g5) (by omega))) fun H6 e6 => k H6 ((e03.trans e5).trans e6)
end

/-! ### the program's best paper -/
structure NightH (K : PySem.W.Frag) (H : Hp) (a b d1 d2 : Addr) (cs rs : List Int) (wl al : List (Int × Int)) : Prop where
  c : SqL K H a (cs.map V.int)
  r : SqL K H b (rs.map V.int)
  w : H d1 = some (.dK (wl.map kvI))
  a : H d2 = some (.dK (al.map kvI))
theorem NightH.ext {K : PySem.W.Frag} {H H' : Hp} {a b d1 d2 : Addr} {cs rs : List Int} {wl al : List (Int × Int)} (h : NightH K H a b d1 d2 cs rs wl al) (e : LamX.ExtN H H') : NightH K H' a b d1 d2 cs rs wl al := ⟨xn_l e h.c, xn_l e h.r, e _ _ h.w (fun _ z => nomatch z), e _ _ h.a (fun _ z => nomatch z)⟩
theorem NightH.ex {K : PySem.W.Frag} {H H' : Hp} {a b d1 d2 : Addr} {cs rs : List Int} {wl al : List (Int × Int)} (h : NightH K H a b d1 d2 cs rs wl al) (e : Ex H H') : NightH K H' a b d1 d2 cs rs wl al := ⟨ex_l e h.c, ex_l e h.r, e _ _ h.w, e _ _ h.a⟩
def sp_greatest (K : PySem.W.Frag) (TT : List (Addr × Str)) : Sp := fun vs H Q _ => ∃ (a b d1 d2 q : Addr) (cs rs : List Int) (wl al : List (Int × Int)) (ps : List Addr) (Ps : List (List Int)), vs = [.ref a, .ref b, .ref d1, .ref d2, .ref q] ∧ NightH K H a b d1 d2 cs rs wl al ∧ House cs ∧ NightOk cs rs wl al ∧ LamX.Tabs TT H ∧
  SqL K H q (ps.map V.ref) ∧ Paired (fun p P => H p = some (.lst (P.map V.int))) ps Ps ∧ (∀ P ∈ Ps, PaperOk cs P) ∧ 0 < Ps.length ∧
  ∀ (i : Nat) (p : Addr) (H' : Hp), ps[i]? = some p → Ps[i]? = some (firstMax (numberN cs rs wl al) [] Ps) → LamX.ExtN H H' → LamX.Tabs TT H' → Q (.ref p) H'
def sp_best (K : PySem.W.Frag) (TT : List (Addr × Str)) : Sp := fun vs H Q _ => ∃ (a b d1 d2 : Addr) (cs rs : List Int) (wl al : List (Int × Int)), vs = [.ref a, .ref b, .ref d1, .ref d2] ∧ NightH K H a b d1 d2 cs rs wl al ∧ House cs ∧ NightOk cs rs wl al ∧ LamX.Tabs TT H ∧
  ∀ (p : Addr) (H' : Hp), LamX.ExtN H H' → LamX.Tabs TT H' → Fn H p → H' p = some (.lst ((bestP cs rs wl al).map V.int)) → Q (.ref p) H'
section
variable {P : Program} {w : World} {K : PySem.W.Frag} {mg : Str → Option Value} {base : Heap}
theorem v_paper_number {H : Hp} {a b d1 d2 q : Addr} {cs rs : List Int} {wl al : List (Int × Int)} {P : List Int} (h : NightH K H a b d1 d2 cs rs wl al) (hh : House cs) (N : NightOk cs rs wl al) (hP : SqL K H q (P.map V.int)) (po : PaperOk cs P) :
    SpV (sp_paper_number K) [.ref a, .ref b, .ref d1, .ref d2, .ref q] H (.int (numberN cs rs wl al P)) := fun _ e _ k _ => ⟨a, cs, b, rs, d1, d2, wl, al, q, P, rfl, ex_l e h.c, hh, ex_l e h.r, e _ _ h.w, e _ _ h.a, N, ex_l e hP, po, k⟩
theorem cal_greatest {Z : Lams mg base} (D : DnC K mg "greatest_paper" s_greatest_paper ["counts", "rooms", "wants", "ahead", "papers"] Z.cG) (T : Tp mg) (C_paper_number : Cal P w K mg base "paper_number" 3 ["counts", "rooms", "wants", "ahead", "paper"] (sp_paper_number K)) : Cal P w K mg base "greatest_paper" 6 ["counts", "rooms", "wants", "ahead", "papers"] (sp_greatest K Z.T) := by
  refine cal_ofC D sc_greatest_paper (fun vs H Q E h => ?_) (fun f A outer s H vs Q E hr h => ?_)
  · obtain ⟨a, b, d1, d2, q, cs, rs, wl, al, ps, Ps, rfl, _⟩ := h
    rfl
  · obtain ⟨a, b, d1, d2, q, cs, rs, wl, al, ps, Ps, rfl, hn, hh, N, hT, hq, hP, po, hne, k⟩ := h
    have M : LamHere (cxOf CX0 P w K mg base ["counts", "rooms", "wants", "ahead", "papers", "paper"] "greatest_paper" (defScope s_greatest_paper) f (.ref Z.cG) A outer s H E).nox Z.T Z.cG Z.pG := ⟨Z.tG, rfl, List.mem_cons_self, fun p hp e => Z.uniG p hp e, rfl, rfl⟩
    refine ⟨_, (pss_one (ps_ret (pe_maxK (k := 3) (j := 5) M (lam1_by (sc := defScope s_greatest_paper) (by decide +kernel)) (hr.mono (by decide)) sc_greatest_paper.nd rfl (by rfl) T.z_max (by decide +kernel) (pa_cons (pv 4) pa_nil) (fun _ _ _ _ _ hr => (pe_cal C_paper_number (hr.mono (by decide)) (by rfl) (pa_cons (pv 0) (pa_cons (pv 1) (pa_cons (pv 2) (pa_cons (pv 3) (pa_cons (pv 5) pa_nil)))))))))), ?_⟩
    have hl := paired_len hP
    refine ⟨_, rfl, hT, q, ps.map V.ref, fun i => numberN cs rs wl al (Ps.getD i []), fun H' => LamX.ExtN H H' ∧ LamX.Tabs Z.T H', rfl, by rw [List.length_map, hl]; exact hne, fun H2 e t => ⟨e, t⟩, fun H2 g => xn_l g.1 hq, fun i x H2 hx g => ?_, fun i x H2 hx hb g => ?_⟩
    · rw [List.getElem?_map] at hx
      cases hm : ps[i]? with
      | none =>
        rw [hm] at hx
        cases hx
      | some m =>
        rw [hm] at hx
        have ex : V.ref m = x := Option.some.inj hx
        subst ex
        obtain ⟨Pi, hPi, hmP⟩ := paired_at hP hm
        have eP : Ps.getD i [] = Pi := by rw [List.getD_eq_getElem?_getD, hPi]; rfl
        exact ev_call0 (ea_cons (ev_var rfl) (ea_cons (ev_var rfl) (ea_3 (ev_var rfl) (ev_var rfl) (ev_var rfl)))) (v_paper_number (hn.ext g.1) hh N (sq_of (g.1 _ _ hmP fun _ z => nomatch z)) (po Pi (List.mem_of_getElem? hPi))) H2 (Ex.refl _) _ fun H3 e3 => ⟨by show V.int _ = V.int (numberN cs rs wl al (Ps.getD i [])); rw [eP], .ex e3, g.1.trans (.ex e3), Tabs.ex g.2 e3⟩
    · rw [List.getElem?_map] at hx
      cases hm : ps[i]? with
      | none =>
        rw [hm] at hx
        cases hx
      | some m =>
        rw [hm] at hx
        have ex : V.ref m = x := Option.some.inj hx
        subst ex
        obtain ⟨Pi, hPi, hmP⟩ := paired_at hP hm
        refine k i m H2 hm ?_ g.1 g.2
        rw [firstMax_of hPi fun n y hy => ?_]
        · exact hPi
        · have hlt : n < Ps.length := (List.getElem?_eq_some_iff.mp hy).1
          have z := hb n (by rw [List.length_map, hl]; exact hlt)
          have e1 : Ps.getD i [] = Pi := by rw [List.getD_eq_getElem?_getD, hPi]; rfl
          have e2 : Ps.getD n [] = y := by rw [List.getD_eq_getElem?_getD, hy]; rfl
          have z : numberN cs rs wl al (Ps.getD n []) ≤ numberN cs rs wl al (Ps.getD i []) ∧ (n < i → numberN cs rs wl al (Ps.getD n []) < numberN cs rs wl al (Ps.getD i [])) := z
          rw [e1, e2] at z
          exact z
theorem cal_best {Z : Lams mg base} (D : Dn K mg "best_paper" s_best_paper ["counts", "rooms", "wants", "ahead"]) (T : Tp mg) (C_greatest_paper : Cal P w K mg base "greatest_paper" 6 ["counts", "rooms", "wants", "ahead", "papers"] (sp_greatest K Z.T)) : Cal P w K mg base "best_paper" 7 ["counts", "rooms", "wants", "ahead"] (sp_best K Z.T) := by
  refine cal_of D sc_best_paper (fun vs H Q E h => ?_) (fun f cdv A outer s H vs Q E hr h => ?_)
  · obtain ⟨a, b, d1, d2, cs, rs, wl, al, rfl, _⟩ := h
    rfl
  · obtain ⟨a, b, d1, d2, cs, rs, wl, al, rfl, hn, hh, N, hT, k⟩ := h
    refine ⟨_, (pss_cons (ps_set (i := 4) sc_best_paper.nd rfl (.inl rfl) (pe_lst (pa_cons (pe_lst pa_nil) pa_nil))) (pss_cons (ps_for PassesOwn.never rfl (pi_range1 (by rfl) T.z_range (pa_cons (pe_callB (r := rLenS K) call_len_seq (by rfl) T.z_len (by decide +kernel) (pa_cons (pv 0) pa_nil)) pa_nil)) (pg_name (i := 5) sc_best_paper.nd rfl (.inr rfl)) (pss_cons (ps_setLc (i := 6) (own := [("paper", 7)]) (g := gName 7) (by rfl) sc_best_paper.nd rfl rfl (sw_true rfl rfl rfl (by decide +kernel)) (pi_list (pv 4)) (blkOk_by (own := [("paper", 7)]) (N := ["counts", "rooms", "wants", "ahead", "papers", "kind", "longer", "paper"]) (sc := defScope s_best_paper) (by decide +kernel)) (fun _ _ _ _ _ => pg_name (i := 7) sc_best_paper.nd rfl (Or.inl rfl)) (fun _ _ _ _ _ => pts_nil) (fun _ _ _ _ _ => (pe_lst (pa_starK (K := K) rfl (pv 7) (pa_cons (pv 5) pa_nil))))) (pss_one (ps_expr (pe_bm PySem.F.plainAttrs_list PySem.F.slot_list_append PySem.F.type_list_append mt_append (pv 4) (pa_cons (pe_cal C_greatest_paper (hr.mono (by decide)) (by rfl) (pa_cons (pv 0) (pa_cons (pv 1) (pa_cons (pv 2) (pa_cons (pv 3) (pa_cons (pv 6) pa_nil)))))) pa_nil)))))) (pss_one (ps_ret (pe_cal C_greatest_paper (hr.mono (by decide)) (by rfl) (pa_cons (pv 0) (pa_cons (pv 1) (pa_cons (pv 2) (pa_cons (pv 3) (pa_cons (pv 4) pa_nil)))))))))), ?_⟩
    have hle := hh.le
    refine q_asgLst (P := fun vs H1 => ∃ p, vs = [.ref p] ∧ H p = none ∧ H1 p = some (.lst [])) (fun Q' q' => ⟨Nat.zero_le _, fun p hp => q' [.ref p] _ (Ex.new hp) ⟨p, rfl, hp, upd_same⟩⟩) (fun vs H1 ⟨p, e, _⟩ => by rw [e]; show 1 ≤ 1000; decide) ?_
    rintro vs p0 H1 e1 ⟨p1, rfl, hp1, g1⟩ hp0
    have np : p1 ≠ p0 := fun z => by
      rw [z, hp0] at g1
      cases g1
    have e02 : Ex H (upd H1 p0 (.lst [.ref p1])) := e1.trans (Ex.new hp0)
    have hp00 : Fn H p0 := Fn.of (fresh_back e1 hp0)
    refine q_forR1 (n := (cs.length : Int)) (ea_1 (ev_of (ev_len' (ev_var rfl) (ex_l e02 hn.c)) (by rw [List.length_map]))) ⟨by omega, by omega⟩
      (fun i σ' H' => ∃ y5 y6 y7 ps, σ' = [some (.ref a), some (.ref b), some (.ref d1), some (.ref d2), some (.ref p0), y5, y6, y7] ∧ LamX.ExtN H H' ∧ LamX.Tabs Z.T H' ∧ H' p0 = some (.lst (ps.map V.ref)) ∧ Paired (fun p P => (Fn H p ∧ p ≠ p0) ∧ H' p = some (.lst (P.map V.int))) ps (papersL (numberN cs rs wl al) i))
      (fun H3 e3 => ⟨none, none, none, [p1], rfl, .ex (e02.trans e3), Tabs.ex hT (e02.trans e3), e3 _ _ upd_same, .cons ⟨⟨Fn.of hp1, np⟩, e3 _ _ (by rw [upd_ne np]; exact g1)⟩ .nil⟩) ?_ ?_
    · rintro i σ' H3 hi ⟨y5, y6, y7, ps, rfl, e3, t3, h0, hP⟩
      have hi : i < cs.length := by omega
      have hl := paired_len hP
      have hl2 := papersL_len (num := numberN cs rs wl al) i
      refine q_asgLs (xss := (ps.zip (papersL (numberN cs rs wl al) i)).map fun z => (z.2 ++ [(i : Int)]).map V.int) (el_lcLs (ps.zip (papersL (numberN cs rs wl al) i)) (fun z => .ref z.1) (fun z => (z.2 ++ [(i : Int)]).map V.int) (ev_var rfl) (by rw [zip_one V.ref hl]; exact sq_of h0) (by rw [List.length_zip]; omega) (fun _ => rfl) fun z hz H4 e4 => ?_) fun d H4 qs hd e4 h4 hQ => ?_
      · have hz2 := (paired_zip hP z hz).2
        have hzl := papersL_ok i z.2 (List.of_mem_zip hz).2
        have := paper_len hh (paperOk_of (paperTo_mono (Nat.le_of_lt hi) hzl))
        refine el_is (el_star (xs := z.2.map V.int) (ev_var rfl) (sq_of (e4 _ _ hz2)) (ev_var rfl) (by rw [List.length_map]; omega)) ?_
        rw [List.map_append]
        rfl
      · have xx : (ps.zip (papersL (numberN cs rs wl al) i)).map (fun z => (z.2 ++ [(i : Int)]).map V.int) = ((papersL (numberN cs rs wl al) i).map fun P => P ++ [(i : Int)]).map fun P => P.map V.int := by
          rw [zip_two (fun P => (P ++ [(i : Int)]).map V.int) hl, List.map_map]
          rfl
        rw [xx] at hQ
        have hQ' : Paired (fun p P => H3 p = none ∧ p ≠ d ∧ H4 p = some (.lst (P.map V.int))) qs ((papersL (numberN cs rs wl al) i).map fun P => P ++ [(i : Int)]) := paired_unmap _ hQ
        refine s_appX (vs := [.ref a, .ref b, .ref d1, .ref d2, .ref d]) (e4 _ _ h0) (ev_var rfl) (ea_cons (ev_var rfl) (ea_cons (ev_var rfl) (ea_3 (ev_var rfl) (ev_var rfl) (ev_var rfl)))) fun H5 e5 => ?_
        have e35 := e4.trans e5
        refine ⟨a, b, d1, d2, d, cs, rs, wl, al, qs, _, rfl, hn.ext (e3.trans (.ex e35)), hh, N, Tabs.ex t3 e35, sq_of (e5 _ _ h4), paired_imp (fun p P z => e5 _ _ z.2.2) hQ', fun P hP' => ?_, ?_, fun n p H6 hp hPn e6 t6 => ?_⟩
        · obtain ⟨Q0, hQ0, rfl⟩ := List.mem_map.mp hP'
          exact paperOk_of (paperTo_mono hi (paperTo_snoc (papersL_ok i Q0 hQ0)))
        · rw [List.length_map]
          omega
        · have e36 : LamX.ExtN H3 H6 := (LamX.ExtN.trans (.ex e35) e6)
          have hp4 := paired_both hQ' hp hPn
          have hFn : Fn H p := Fn.back e3 (Fn.of hp4.1)
          have np0 : p ≠ p0 := fun z => by
            rw [z, h0] at hp4
            cases hp4.1
          have h6 : H6 p0 = some (.lst (ps.map V.ref)) := e36 _ _ h0 fun _ z => nomatch z
          refine ⟨p0, ps.map V.ref, .ref p, rfl, rfl, h6, sz_lt (by rw [List.length_map]; omega), some (.int (i : Int)), some (.ref d), y7, ps ++ [p], rfl, ExtN.mut (e3.trans e36) hp00, Tabs.mut t6 h6 (fun _ z => nomatch z) (fun _ _ z => nomatch z), ?_, ?_⟩
          · rw [upd_same, List.map_append]
            rfl
          · refine paired_snoc ⟨⟨hFn, np0⟩, ?_⟩ (paired_imp (fun p' P' z => ⟨z.1, ?_⟩) hP)
            · rw [upd_ne np0]
              exact e6 _ _ (e5 _ _ hp4.2.2) fun _ z => nomatch z
            · rw [upd_ne z.1.2]
              exact e36 _ _ z.2 fun _ z => nomatch z
    · rintro σ' H3 ⟨y5, y6, y7, ps, rfl, e3, t3, h0, hP⟩
      rw [Int.toNat_natCast] at hP
      refine s_retX (vs := [.ref a, .ref b, .ref d1, .ref d2, .ref p0]) (ea_cons (ev_var rfl) (ea_cons (ev_var rfl) (ea_3 (ev_var rfl) (ev_var rfl) (ev_var rfl)))) fun H4 e4 => ?_
      refine ⟨a, b, d1, d2, p0, cs, rs, wl, al, ps, _, rfl, hn.ext (e3.trans (.ex e4)), hh, N, Tabs.ex t3 e4, sq_of (e4 _ _ h0), paired_imp (fun p P z => e4 _ _ z.2) hP, fun P hP' => paperOk_of (papersL_ok _ P hP'), by rw [papersL_len]; omega, fun n p H5 hp hPn e5 t5 => ?_⟩
      have hp4 := paired_both hP hp hPn
      exact k p H5 ((e3.trans (.ex e4)).trans e5) t5 hp4.1.1 (e5 _ _ (e4 _ _ hp4.2) fun _ z => nomatch z)
end

/-! ### the program's one night -/
theorem ps_dead {X : Cx} {st : Stmt} : PS X st (fun _ _ _ => False) := ⟨fun _ _ _ _ _ _ h => h.elim⟩
def sp_who (K : PySem.W.Frag) (TT : List (Addr × Str)) : Sp := fun vs H Q _ => ∃ (a b d1 d2 : Addr) (cs rs : List Int) (wl al : List (Int × Int)), vs = [.ref a, .ref b, .ref d1, .ref d2] ∧ NightH K H a b d1 d2 cs rs wl al ∧ House cs ∧ NightOk cs rs wl al ∧ LamX.Tabs TT H ∧
  ∀ (d : Addr) (H' : Hp), LamX.ExtN H H' → LamX.Tabs TT H' → Fn H d → H' d = some (.dK ((stayF cs rs wl al).map kvI)) → Q (.ref d) H'
def sp_give (K : PySem.W.Frag) (TT : List (Addr × Str)) : Sp := fun vs H Q _ => ∃ (a b d1 d2 : Addr) (cs rs : List Int) (wl st : List (Int × Int)), vs = [.ref a, .ref b, .ref d1, .ref d2] ∧ SqL K H a (cs.map V.int) ∧ SqL K H b (rs.map V.int) ∧ H d1 = some (.dK (wl.map kvI)) ∧ H d2 = some (.dK (st.map kvI)) ∧ LamX.Tabs TT H ∧
  (wl.map fun p : Int × Int => p.1).Nodup ∧ (∀ p ∈ wl, 0 ≤ p.2) ∧ (st.map fun p : Int × Int => p.1).Nodup ∧ st.length + (othersL wl st).length < 64 ∧ wl.length ≤ 80 ∧ rs.length ≤ 54 ∧
  ∀ (d : Addr) (H' : Hp), LamX.ExtN H H' → LamX.Tabs TT H' → Fn H d → H' d = some (.dK ((dictF (givenF cs rs wl st)).map kvI)) → Q (.ref d) H'
def sp_tonight (K : PySem.W.Frag) (TT : List (Addr × Str)) : Sp := fun vs H Q _ => ∃ (a b d1 d2 : Addr) (cs rs : List Int) (wl al : List (Int × Int)), vs = [.ref a, .ref b, .ref d1, .ref d2] ∧ NightH K H a b d1 d2 cs rs wl al ∧ House cs ∧ NightOk cs rs wl al ∧ LamX.Tabs TT H ∧ shortL cs.length (wl.map fun p : Int × Int => p.2) (rs.map (kd cs)) = none ∧
  ∀ (t dg lm lp : Addr) (H' : Hp), LamX.ExtN H H' → LamX.Tabs TT H' → Fn H t → Fn H dg → Fn H lm → Fn H lp → H' t = some (.tup [.ref dg, .ref lm, .ref lp]) → H' dg = some (.dK ((nightG cs rs wl al).map kvI)) → H' lm = some (.lst ((movedF al (nightG cs rs wl al)).map V.int)) → H' lp = some (.lst ((bestP cs rs wl al).map V.int)) → Q (.ref t) H'
section
variable {K : PySem.W.Frag} {σ : L2.St} {H : Hp} {D : Ends} {tz : TS}
/-- name = sorted(xs, key=..)[:m] -/
theorem q_asgSort {TT : List (Addr × Str)} {le : (Int → Int) → Int → Int → Bool} {i j m n : Nat} {t : TA} {l d : Addr} {ns : List Int} {kvs : List (Key × V)} {g : Int → Int} (ha : EvA t σ H [.ref l]) (hT : LamX.Tabs TT H) (hl : SqL K H l (ns.map V.int)) (hz : ns.length ≤ 1000) (hσ : σ[i]? = some (some (.ref d))) (hd : H d = some (.dK kvs))
    (hg : ∀ x ∈ ns, valV kvs (Sum.inl x) = some (.int (g x))) (hm : σ[j]? = some (some (.int (m : Int))))
    (k : ∀ p H1, LamX.ExtN H H1 → LamX.Tabs TT H1 → Fn H p → H1 p = some (.lst (((ns.mergeSort (le g)).take m).map V.int)) → tz D (σ.set n (some (.ref p))) H1) : tSeq (tAsg (tSl (rSlL K) (tSortK K TT t i le) tNoPart (tPart (tVar j))) (gName n)) tz D σ H :=
  ha H (Ex.refl H) _ fun H1 e1 => ⟨Tabs.ex hT e1, l, d, ns, kvs, g, rfl, ex_l e1 hl, hz, hσ, e1 _ _ hd, hg, fun H2 e2 t2 p hp => ⟨_, hm, (m : Int), rfl, p, _, rfl, sq_of upd_same, fun q hq => by
    have e02 : LamX.ExtN H H2 := LamX.ExtN.trans (.ex e1) e2
    refine k q _ ((e02.trans (.ex (Ex.new hp))).trans (.ex (Ex.new hq))) (tabs_new (tabs_new t2 hp) hq) (Fn.back e02 (Fn.of (fresh_back (Ex.new hp) hq))) ?_
    rw [upd_same, cutV_take, List.map_take]⟩⟩
/-- for name in sorted(xs, key=..) -/
theorem q_forSort {TT : List (Addr × Str)} {le : (Int → Int) → Int → Int → Bool} {i j : Nat} {tu : TS} {t : TA} {l d : Addr} {ns : List Int} {kvs : List (Key × V)} {g : Int → Int} (ha : EvA t σ H [.ref l]) (hT : LamX.Tabs TT H) (hl : SqL K H l (ns.map V.int)) (hz : ns.length ≤ 1000) (hσ : σ[i]? = some (some (.ref d))) (hd : H d = some (.dK kvs))
    (hg : ∀ x ∈ ns, valV kvs (Sum.inl x) = some (.int (g x))) (Pv : Addr → Nat → L2.St → Hp → Prop) (h0 : ∀ p H1, LamX.ExtN H H1 → LamX.Tabs TT H1 → Fn H p → H1 p = some (.lst ((ns.mergeSort (le g)).map V.int)) → Pv p 0 σ H1)
    (hst : ∀ p n σ' H', n ≤ (ns.mergeSort (le g)).length → Pv p n σ' H' → SqL K H' p ((ns.mergeSort (le g)).map V.int)) (hs : ∀ p n x σ' H', (ns.mergeSort (le g))[n]? = some x → Pv p n σ' H' → tu { D with nx := Pv p (n + 1), ct := Pv p (n + 1), bk := tz D } (σ'.set j (some (.int x))) H') (hd' : ∀ p σ' H', Pv p (ns.mergeSort (le g)).length σ' H' → tz D σ' H') :
    tSeq (tFor (iList K (tSortK K TT t i le)) (gName j) tu) tz D σ H :=
  ha H (Ex.refl H) _ fun H1 e1 => ⟨Tabs.ex hT e1, l, d, ns, kvs, g, rfl, ex_l e1 hl, hz, hσ, e1 _ _ hd, hg, fun H2 e2 t2 p hp => ⟨p, rfl, ⟨_, sq_of upd_same⟩, by
    have e02 : LamX.ExtN H H2 := LamX.ExtN.trans (.ex e1) e2
    refine for_list (D := { D with nx := tz D }) (xs := (ns.mergeSort (le g)).map V.int) (Pv p) (h0 p _ (e02.trans (.ex (Ex.new hp))) (tabs_new t2 hp) (Fn.back e02 (Fn.of hp)) upd_same) (fun n σ' H' hn q => hst p n σ' H' (by rw [List.length_map] at hn; exact hn) q) (fun n x σ' H' hx q => ?_) fun σ' H' q => hd' p σ' H' (by rw [List.length_map] at q; exact q)
    rw [List.getElem?_map] at hx
    cases hq : (ns.mergeSort (le g))[n]? with
    | none =>
      rw [hq] at hx
      cases hx
    | some m =>
      rw [hq] at hx
      have ex : V.int m = x := Option.some.inj hx
      subst ex
      exact hs p n m σ' H' hq q⟩⟩
end
section
variable {P : Program} {w : World} {K : PySem.W.Frag} {mg : Str → Option Value} {base : Heap}
theorem cal_who {Z : Lams mg base} (D : DnC K mg "who_stays" s_who_stays ["counts", "rooms", "wants", "ahead"] Z.cW) (T : Tp mg) (C_not_driven_out : Cal P w K mg base "not_driven_out" 1 ["rooms", "wants", "ahead"] (sp_not_driven_out K)) (C_lacking : Cal P w K mg base "lacking" 2 ["counts", "rooms", "wants", "kind"] (sp_lacking K))
    (C_in_the_way : Cal P w K mg base "in_the_way" 2 ["counts", "wants", "staying", "kind"] (sp_in_the_way K)) : Cal P w K mg base "who_stays" 3 ["counts", "rooms", "wants", "ahead"] (sp_who K Z.T) := by
  refine cal_ofC D sc_who_stays (fun vs H Q E h => ?_) (fun f A outer s H vs Q E hr h => ?_)
  · obtain ⟨a, b, d1, d2, cs, rs, wl, al, rfl, _⟩ := h
    rfl
  · obtain ⟨a, b, d1, d2, cs, rs, wl, al, rfl, hn, hh, N, hT, k⟩ := h
    have M : LamHere (cxOf CX0 P w K mg base ["counts", "rooms", "wants", "ahead", "kind", "standing", "many", "leaving", "staying", "number"] "who_stays" (defScope s_who_stays) f (.ref Z.cW) A outer s H E).nox Z.T Z.cW Z.pW := ⟨Z.tW, rfl, List.mem_cons_of_mem _ List.mem_cons_self, fun p hp e => Z.uniW p hp e, rfl, rfl⟩
    have hle := hh.le
    have few := N.few
    have hrl := rooms_len hh N.rooms
    have hsl := stay_len (rs := rs) (wl := wl) (al := al)
    have hnd := stay_nodup (rs := rs) (al := al) N.wn
    refine ⟨_, (pss_cons (ps_set (i := 8) sc_who_stays.nd rfl (.inr rfl) (pe_cal C_not_driven_out (hr.mono (by decide)) (by rfl) (pa_cons (pv 1) (pa_cons (pv 2) (pa_cons (pv 3) pa_nil))))) (pss_cons (ps_for PassesOwn.never rfl (pi_range1 (by rfl) T.z_range (pa_cons (pe_callB (r := rLenS K) call_len_seq (by rfl) T.z_len (by decide +kernel) (pa_cons (pv 0) pa_nil)) pa_nil)) (pg_name (i := 4) sc_who_stays.nd rfl (.inl rfl)) (pss_cons (ps_set (i := 5) sc_who_stays.nd rfl (.inl rfl) (pe_cal C_in_the_way (hr.mono (by decide)) (by rfl) (pa_cons (pv 0) (pa_cons (pv 2) (pa_cons (pv 8) (pa_cons (pv 4) pa_nil)))))) (pss_cons (ps_set (i := 6) sc_who_stays.nd rfl (.inl rfl) (pe_callB (call_max2 rfl) (by rfl) T.z_max (by decide +kernel) (pa_cons pe_int (pa_cons (pe_op op_add (pe_cal C_lacking (hr.mono (by decide)) (by rfl) (pa_cons (pv 0) (pa_cons (pv 1) (pa_cons (pv 2) (pa_cons (pv 4) pa_nil))))) (pe_callB (r := rLenS K) call_len_seq (by rfl) T.z_len (by decide +kernel) (pa_cons (pv 5) pa_nil))) pa_nil)))) (pss_cons (ps_set (i := 7) sc_who_stays.nd rfl (.inr rfl) (pe_slice (r := rSlL K) sl_list (pe_sortDn (k := 0) (i := 8) M (lam1_by (sc := defScope s_who_stays) (by decide +kernel)) (hr.mono (by decide)) (by rfl) rfl (by rfl) T.z_sorted (by decide +kernel) (pa_cons (pv 5) pa_nil)) po_none (po_some (pv 6)))) (pss_one (ps_set (i := 8) sc_who_stays.nd rfl (.inr rfl) (pe_lock (pe_dc (own := [("number", 9)]) (g := gName 9) (by rfl) sc_who_stays.nd (pi_keys (pv 8)) (blkOk_by (own := [("number", 9)]) (N := ["counts", "rooms", "wants", "ahead", "kind", "standing", "many", "leaving", "staying", "number"]) (sc := defScope s_who_stays) (by decide +kernel)) (fun _ _ _ _ _ => pg_name (i := 9) sc_who_stays.nd rfl (Or.inl rfl)) (fun _ _ _ _ _ => (pts_one (pt_cmpR (r := rIn K true) op_notIn_seq (pv 9) (pv 7) (by rfl)))) (fun _ _ _ _ _ => (pv 9)) (fun _ _ _ _ _ => (pe_dget (hu_of hr) (pv 8) (pv 9) (fun _ _ => rfl))))))))))) (pss_one (ps_ret (pv 8))))), ?_⟩
    refine q_asgD (ed_call0 (ea_3 (ev_var rfl) (ev_var rfl) (ev_var rfl)) (d_not_driven_out hn.r hn.w hn.a N.wn (by omega))) fun ds H1 hds e1 g1 => ?_
    refine q_forR1 (n := (cs.length : Int)) (ea_1 (ev_of (ev_len' (ev_var rfl) (ex_l e1 hn.c)) (by rw [List.length_map]))) ⟨by omega, by omega⟩
      (fun i σ' H' => ∃ y4 y5 y6 y7 ds y9, σ' = [some (.ref a), some (.ref b), some (.ref d1), some (.ref d2), y4, y5, y6, y7, some (.ref ds), y9] ∧ LamX.ExtN H H' ∧ LamX.Tabs Z.T H' ∧ Fn H ds ∧ H' ds = some (.dK ((sweepK cs rs wl (stayL rs wl al) i).map kvI)))
      (fun H2 e2 => ⟨none, none, none, none, ds, none, rfl, .ex (e1.trans e2), Tabs.ex hT (e1.trans e2), Fn.of hds, e2 _ _ g1⟩) ?_ ?_
    · rintro i σ' H2 hi ⟨y4, y5, y6, y7, ds, y9, rfl, e2, t2, f2, g2⟩
      have hi : i < cs.length := by omega
      have sub := sweepK_sub (cs := cs) (rs := rs) (wl := wl) (st := stayL rs wl al) i
      have hlen := sub.length_le
      have nd := nodup_sub sub hnd
      have key := lt_of_keys (l := wl) (st := sweepK cs rs wl (stayL rs wl al) i) fun p hp => (stay_key (sub.subset hp)).1
      have hk : sweepK cs rs wl (stayL rs wl al) (i + 1) = stepK cs rs wl i (sweepK cs rs wl (stayL rs wl al) i) := rfl
      rw [hk]
      generalize sweepK cs rs wl (stayL rs wl al) i = st at g2 sub hlen nd key
      have n2 := hn.ext e2
      refine q_asgL (xs := (standK cs wl st i).map V.int) (el_call0 (ea_cons (ev_var rfl) (ea_3 (ev_var rfl) (ev_var rfl) (ev_var rfl))) (l_in_the_way n2.c n2.w g2 (by omega) key i)) fun p3 H3 hp3 e3 g3 => ?_
      have n3 := n2.ex e3
      have hstand : (standK cs wl st i).length ≤ st.length := by
        unfold standK
        rw [List.length_map]
        exact List.length_filter_le _ _
      refine q_asg (v := .int (manyK cs rs wl st i)) (ev_of (ev_max2 ev_c (ev_add (ev_call0 (ea_cons (ev_var rfl) (ea_3 (ev_var rfl) (ev_var rfl) (ev_var rfl))) (v_lacking n3.c n3.r (by omega) n3.w (kvI_vals wl) (by rw [List.length_map]; omega) i)) (ev_len' (ev_var rfl) (sq_of g3)))) ?_) fun H4 e4 => ?_
      · rw [List.length_map]
        rfl
      have hmany : manyK cs rs wl st i = (((manyK cs rs wl st i).toNat : Nat) : Int) := by
        have : 0 ≤ manyK cs rs wl st i := by
          unfold manyK
          split <;> omega
        omega
      rw [hmany]
      have e24 := e3.trans e4
      refine q_asgSort (le := leDn) (ns := standK cs wl st i) (g := roomOf st) (m := (manyK cs rs wl st i).toNat) (ea_1 (ev_var rfl)) (Tabs.ex t2 e24) (sq_of (e4 _ _ g3)) (by omega) rfl (e24 _ _ g2) (fun x hx => ?_) rfl fun p5 H5 e5 t5 f5 g5 => ?_
      · obtain ⟨p, hp, rfl⟩ := List.mem_map.mp hx
        rw [lookI_val, (roomOf_mem nd (List.mem_filter.mp hp).1).1, (roomOf_mem nd (List.mem_filter.mp hp).1).2]
        rfl
      have e25 : LamX.ExtN H2 H5 := LamX.ExtN.trans (.ex e24) e5
      have g25 : H5 ds = some (.dK (st.map kvI)) := e25 _ _ g2 fun _ z => nomatch z
      refine s_asgD (ed_is (ed_dcK (ks := st.map fun p : Int × Int => p.1) (fun n => !decide (n ∈ leaveK cs rs wl st i)) (fun n => (n, .int (roomOf st n))) g25 (kvI_keys st) (by rw [List.map_map]; exact nd) (by rw [List.length_map]; omega) (fun _ => rfl) (fun od => ev_var rfl) (fun od n _ => et_test (ev_niI (ev_var rfl) (ev_var rfl) (lock_list g25 (sq_of g5)))) (fun od n _ _ => ev_var rfl) (fun od n hn' _ => ?_)) (dict_filter nd _)) fun p6 H6 hp6 e6 g6 => ?_
      · obtain ⟨v, hv, hm⟩ := lookI_some hn'
        have z := (roomOf_mem nd hm).2
        have z : roomOf st n = v := z
        rw [z]
        exact ev_dgetR (ev_var rfl) (ev_var rfl) lock_rd (by rw [lookI_val, hv]; rfl)
      · exact ⟨_, _, _, _, p6, _, rfl, (e2.trans e25).trans (.ex e6), Tabs.ex t5 e6, Fn.back (e2.trans e25) (Fn.of hp6), g6⟩
    · rintro σ' H2 ⟨y4, y5, y6, y7, ds, y9, rfl, e2, t2, f2, g2⟩
      rw [Int.toNat_natCast] at g2
      exact s_ret (ev_var rfl) fun H3 e3 => k ds H3 (e2.trans (.ex e3)) (Tabs.ex t2 e3) f2 (e3 _ _ g2)
theorem cal_give {Z : Lams mg base} (D : DnC K mg "give_rooms" s_give_rooms ["counts", "rooms", "wants", "staying"] Z.cR) (T : Tp mg) (C_first_room : Cal P w K mg base "first_room" 1 ["counts", "kind"] (sp_first_room K)) : Cal P w K mg base "give_rooms" 3 ["counts", "rooms", "wants", "staying"] (sp_give K Z.T) := by
  refine cal_ofC D sc_give_rooms (fun vs H Q E h => ?_) (fun f A outer s H vs Q E hr h => ?_)
  · obtain ⟨a, b, d1, d2, cs, rs, wl, st, rfl, _⟩ := h
    rfl
  · obtain ⟨a, b, d1, d2, cs, rs, wl, st, rfl, hS, hR, h1, h2, hT, wn, wk, sn, hl64, hwl, hrl, k⟩ := h
    have M : LamHere (cxOf CX0 P w K mg base ["counts", "rooms", "wants", "staying", "given", "taken", "free", "number", "others", "start", "good", "room", "other"] "give_rooms" (defScope s_give_rooms) f (.ref Z.cR) A outer s H E).nox Z.T Z.cR Z.pR := ⟨Z.tR, rfl, List.mem_cons_of_mem _ (List.mem_cons_of_mem _ List.mem_cons_self), fun p hp e => Z.uniR p hp e, rfl, rfl⟩
    refine ⟨_, (pss_cons (ps_set (i := 4) sc_give_rooms.nd rfl (.inr rfl) (pe_callTy call_dictD (by rfl) T.z_dict (by decide +kernel) (pa_cons (pv 3) pa_nil))) (pss_cons (ps_set (i := 5) sc_give_rooms.nd rfl (.inr rfl) (pe_listVals rfl (pv 3) (by rfl) T.z_list)) (pss_cons (ps_setLc (i := 6) (own := [("room", 11)]) (g := gName 11) (by rfl) sc_give_rooms.nd rfl rfl (sw_true rfl rfl rfl (by decide +kernel)) (pi_list (pv 1)) (blkOk_by (own := [("room", 11)]) (N := ["counts", "rooms", "wants", "staying", "given", "taken", "free", "number", "others", "start", "good", "room", "other"]) (sc := defScope s_give_rooms) (by decide +kernel)) (fun _ _ _ _ _ => pg_name (i := 11) sc_give_rooms.nd rfl (Or.inl rfl)) (fun _ _ _ _ _ => (pts_one (pt_cmpR (r := rIn K true) op_notIn_seq (pv 11) (pv 5) (by rfl)))) (fun _ _ _ _ _ => (pv 11))) (pss_cons (ps_lock (ps_setLc (i := 8) (own := [("number", 7)]) (g := gName 7) (by rfl) sc_give_rooms.nd rfl rfl (sw_true rfl rfl rfl (by decide +kernel)) (pi_keys (pv 2)) (blkOk_by (own := [("number", 7)]) (N := ["counts", "rooms", "wants", "staying", "given", "taken", "free", "number", "others", "start", "good", "room", "other"]) (sc := defScope s_give_rooms) (by decide +kernel)) (fun _ _ _ _ _ => pg_name (i := 7) sc_give_rooms.nd rfl (Or.inl rfl)) (fun _ _ _ _ _ => (pts_one (pt_cmp (pc_dnotin (hu_of hr) (pv 7) (pv 3))))) (fun _ _ _ _ _ => (pv 7)))) (pss_cons (ps_for PassesOwn.never rfl (pi_list (pe_sortUp (k := 0) (i := 2) M (lam1_by (sc := defScope s_give_rooms) (by decide +kernel)) (hr.mono (by decide)) (by rfl) rfl (by rfl) T.z_sorted (by decide +kernel) (pa_cons (pv 8) pa_nil))) (pg_name (i := 7) sc_give_rooms.nd rfl (.inl rfl)) (pss_cons (ps_set (i := 9) sc_give_rooms.nd rfl (.inr rfl) (pe_cal C_first_room (hr.mono (by decide)) (by rfl) (pa_cons (pv 0) (pa_cons (pe_dget (hu_of hr) (pv 2) (pv 7) (fun _ _ => rfl)) pa_nil)))) (pss_cons (ps_setLc (i := 10) (own := [("room", 11)]) (g := gName 11) (by rfl) sc_give_rooms.nd rfl rfl (sw_true rfl rfl rfl (by decide +kernel)) (pi_list (pv 6)) (blkOk_by (own := [("room", 11)]) (N := ["counts", "rooms", "wants", "staying", "given", "taken", "free", "number", "others", "start", "good", "room", "other"]) (sc := defScope s_give_rooms) (by decide +kernel)) (fun _ _ _ _ _ => pg_name (i := 11) sc_give_rooms.nd rfl (Or.inl rfl)) (fun _ _ _ _ _ => (pts_one (pt_cmpR op_ge (pv 11) (pv 9) (nomark _)))) (fun _ _ _ _ _ => (pv 11))) (pss_one (ps_if (pt_truth (pv 10) (by intro _; rfl)) (pss_cons (ps_dput (hu_of hr) (pv 4) (pv 7) (pe_ix (r := rIxL K) ix_list (pv 10) pe_int (fun _ _ => rfl)) rfl) (pss_one (ps_expr (pe_bm PySem.F.plainAttrs_list PySem.F.slot_list_remove PySem.F.type_list_remove mt_remove (pv 6) (pa_cons (pe_ix (r := rIxL K) ix_list (pv 10) pe_int (fun _ _ => rfl)) pa_nil))))) pss_nil))))) (pss_one (ps_ret (pe_dc (own := [("number", 7)]) (g := gName 7) (by rfl) sc_give_rooms.nd (pi_list (pe_callB (call_sortedDI rfl) (by rfl) T.z_sorted (by decide +kernel) (pa_cons (pv 4) pa_nil))) (blkOk_by (own := [("number", 7)]) (N := ["counts", "rooms", "wants", "staying", "given", "taken", "free", "number", "others", "start", "good", "room", "other"]) (sc := defScope s_give_rooms) (by decide +kernel)) (fun _ _ _ _ _ => pg_name (i := 7) sc_give_rooms.nd rfl (Or.inl rfl)) (fun _ _ _ _ _ => pts_nil) (fun _ _ _ _ _ => (pv 7)) (fun _ _ _ _ _ => (pe_dget (hu_of hr) (pv 4) (pv 7) (fun _ _ => rfl))))))))))), ?_⟩
    refine q_asgD (ed_copy (ev_var rfl) h2) fun dg H1 hdg e1 g1 => ?_
    refine q_asgL (el_is (ys := (st.map fun p : Int × Int => p.2).map V.int) (el_vals (ev_var rfl) (e1 _ _ h2)) (kvI_vals st)) fun pt H2 hpt e2 g2 => ?_
    have e02 := e1.trans e2
    refine q_asgL (el_lcA rs V.int (fun r => !decide (r ∈ st.map fun p : Int × Int => p.2)) V.int (ev_var rfl) (ex_l e02 hR) (by omega) (fun _ => rfl) (fun x _ H3 e3 => et_test (ev_niI (ev_var rfl) (ev_var rfl) (sq_of (e3 _ _ g2)))) (fun x _ _ H3 _ => ev_var rfl)) fun pf H3 hpf e3 g3 => ?_
    have e03 := e02.trans e3
    refine q_asgLK (ks := wl.map fun p : Int × Int => p.1) (fun n => !(lookI st n).isSome) V.int (e03 _ _ h1) (kvI_keys wl) (by rw [List.length_map]; omega) (fun _ => rfl) (fun od => ev_var rfl) (fun od n _ => et_is (et_B (ev_dnotinR (ev_var rfl) (ev_var rfl) (lock_dict2 (od := od) (e03 _ _ h1) (e03 _ _ h2)))) (by rw [lookI_val]; cases lookI st n <;> rfl)) (fun od n _ _ => ev_var rfl) fun po H4 hpo e4 g4 => ?_
    have e04 := e03.trans e4
    have e14 := (e2.trans e3).trans e4
    have hol : (othersL wl st).length ≤ wl.length := by
      unfold othersL
      exact Nat.le_trans (List.length_filter_le _ _) (by rw [List.length_map]; exact Nat.le_refl _)
    have nfg : pf ≠ dg := fun z => by
      rw [z, e2 _ _ g1] at hpf
      cases hpf
    have hdg0 : Fn H dg := Fn.of hdg
    have hpf0 : Fn H pf := Fn.of (fresh_back e02 hpf)
    refine q_forSort (le := leUp) (ns := othersL wl st) (g := wantOf wl) (ea_1 (ev_var rfl)) (Tabs.ex hT e04) (sq_of g4) (by omega) rfl (e04 _ _ h1) (fun x hx => ?_)
      (fun p i σ' H' => ∃ y7 y9 y10 y11 y12, σ' = [some (.ref a), some (.ref b), some (.ref d1), some (.ref d2), some (.ref dg), some (.ref pt), some (.ref pf), y7, some (.ref po), y9, y10, y11, y12] ∧ LamX.ExtN H H' ∧ LamX.Tabs Z.T H' ∧ p ≠ dg ∧ p ≠ pf ∧ H' p = some (.lst ((turnL wl st).map V.int)) ∧
        H' dg = some (.dK ((giveL cs wl ((turnL wl st).take i) (st, freeL rs st)).1.map kvI)) ∧ H' pf = some (.lst ((giveL cs wl ((turnL wl st).take i) (st, freeL rs st)).2.map V.int)))
      (fun p H5 e5 t5 f5 g5 => ⟨none, none, none, none, none, rfl, LamX.ExtN.trans (.ex e04) e5, t5, (f5.ne (e14 _ _ g1) fun _ z => nomatch z).symm, (f5.ne (e4 _ _ g3) fun _ z => nomatch z).symm, g5, e5 _ _ (e14 _ _ g1) (fun _ z => nomatch z), e5 _ _ (e4 _ _ g3) (fun _ z => nomatch z)⟩)
      (fun p i σ' H' _ ⟨_, _, _, _, _, _, _, _, _, _, g, _⟩ => sq_of g) ?_ ?_
    · obtain ⟨v, hv, _⟩ := lookI_some (others_mem.mp hx).1
      rw [lookI_val, hv, wantOf_some hv]
      rfl
    · rintro p i n σ' H5 hn ⟨y7, y9, y10, y11, y12, rfl, e5, t5, np1, np2, gp, gg, gf⟩
      have hn : (turnL wl st)[i]? = some n := hn
      have hmem := List.mem_of_getElem? hn
      have hmo := others_mem.mp ((turn_perm wl st).subset hmem)
      obtain ⟨v, hv, hvm⟩ := lookI_some hmo.1
      have hw : wantOf wl n = v := wantOf_some hv
      have hv0 := wk (n, v) hvm
      have hv0 : 0 ≤ v := hv0
      have ev0 : v = ((v.toNat : Nat) : Int) := by omega
      have hlen := giveL_len (cs := cs) (wl := wl) (ns := (turnL wl st).take i) (g := (st, freeL rs st))
      have hfl : (freeL rs st).length ≤ rs.length := List.length_filter_le _ _
      have htl : ((turnL wl st).take i).length ≤ (othersL wl st).length := by
        rw [List.length_take, (turn_perm wl st).length_eq]
        omega
      have hlen1 : (giveL cs wl ((turnL wl st).take i) (st, freeL rs st)).1.length ≤ st.length + ((turnL wl st).take i).length := hlen.1
      have hlen2 : (giveL cs wl ((turnL wl st).take i) (st, freeL rs st)).2.length ≤ (freeL rs st).length := hlen.2
      have hkeys := giveL_keys (cs := cs) (wl := wl) (ns := (turnL wl st).take i) (g := (st, freeL rs st)) n
      have hnew : n ∉ (giveL cs wl ((turnL wl st).take i) (st, freeL rs st)).1.map (fun p : Int × Int => p.1) := fun z => by
        rcases hkeys z with z | z
        · exact turn_out n hmem z
        · obtain ⟨j, hj⟩ := List.mem_iff_getElem?.mp z
          have hji : j < i := by
            have := (List.getElem?_eq_some_iff.mp hj).1
            rw [List.length_take] at this
            omega
          rw [List.getElem?_take_of_lt hji] at hj
          have := nd_ix (turn_nodup wn) hj hn
          omega
      have hstep : giveL cs wl ((turnL wl st).take (i + 1)) (st, freeL rs st) = giveStep cs wl (giveL cs wl ((turnL wl st).take i) (st, freeL rs st)) n := by
        rw [take_snoc hn, giveL_snoc]
      generalize giveL cs wl ((turnL wl st).take i) (st, freeL rs st) = gf0 at gg gf hlen1 hlen2 hnew hstep
      refine q_asg (v := .int (cs.take v.toNat).sum) (ev_call0 (vs := [.ref a, .int v]) (ea_2 (ev_var rfl) (ev_dget (ev_var rfl) (ev_var rfl) (e5 _ _ h1 fun _ z => nomatch z) (by rw [lookI_val, hv]; rfl))) (by rw [ev0, Int.toNat_natCast]; exact v_first_room (xn_l e5 hS) v.toNat)) fun H6 e6 => ?_
      refine q_asgL (xs := (goodL cs wl n gf0.2).map V.int) (el_is (el_lcA gf0.2 V.int (fun r => decide ((cs.take v.toNat).sum ≤ r)) V.int (ev_var rfl) (sq_of (e6 _ _ gf)) (by omega) (fun _ => rfl) (fun x _ H7 _ => et_test (ev_cmp (ev_var rfl) (ev_var rfl))) (fun x _ _ H7 _ => ev_var rfl)) (by unfold goodL; rw [hw])) fun p10 H7 hp10 e7 g7 => ?_
      have e57 := e6.trans e7
      refine s_when (b := !(goodL cs wl n gf0.2).isEmpty) (fun H8 e8 Q' q' => ⟨_, rfl, _, .inl ⟨_, sq_of (e8 _ _ g7), rfl⟩, by rw [List.isEmpty_map]; exact q' H8 (Ex.refl _)⟩) (fun hb H8 e8 => ?_) (fun hb H8 e8 => ?_)
      · cases hgl : goodL cs wl n gf0.2 with
        | nil =>
          rw [hgl] at hb
          cases hb
        | cons r rest =>
          have hg1 : giveStep cs wl gf0 n = (gf0.1 ++ [(n, r)], gf0.2.erase r) := by
            unfold giveStep
            rw [hgl]
          rw [hg1] at hstep
          have hrm : r ∈ gf0.2 := (List.mem_filter.mp (show r ∈ goodL cs wl n gf0.2 by rw [hgl]; exact List.mem_cons_self)).1
          obtain ⟨j, hj1, hj2⟩ := first_at hrm
          have e58 := e57.trans e8
          have g8 : ∀ {H9}, Ex H8 H9 → SqL K H9 p10 ((r :: rest).map V.int) := fun e9 => sq_of (e9 _ _ (e8 _ _ (by rw [← hgl]; exact g7)))
          refine q_dput (v := .int r) (n := n) (ev_ixL (ev_var rfl) ev_c (g8 (Ex.refl _)) (atI_nat (j := 0) rfl)) (ev_var rfl) (ev_var rfl) (e58 _ _ gg) (by rw [List.length_map]; omega) fun H9 e9 => ?_
          have e59 := e58.trans e9
          have gf9 : upd H9 dg (.dK (putK (gf0.1.map kvI) (Sum.inl n) (.int r))) pf = some (.lst (gf0.2.map V.int)) := by
            rw [upd_ne nfg]
            exact e59 _ _ gf
          have n10 : p10 ≠ dg := fun z => by
            rw [z, e6 _ _ gg] at hp10
            cases hp10
          have g10 : SqL K (upd H9 dg (.dK (putK (gf0.1.map kvI) (Sum.inl n) (.int r)))) p10 ((r :: rest).map V.int) := sq_of (by
            rw [upd_ne n10]
            exact e9 _ _ (e8 _ _ (by rw [← hgl]; exact g7)))
          refine s_rem (j := j) gf9 (ev_var rfl) (ev_ixL (ev_var rfl) ev_c g10 (atI_nat (j := 0) rfl)) hj1 hj2 fun H10 e10 => ?_
          rw [hstep, erase_at hj1 hj2]
          have x9 : LamX.ExtN H (upd H9 dg (.dK (putK (gf0.1.map kvI) (Sum.inl n) (.int r)))) := ExtN.mut (e5.trans (.ex e59)) hdg0
          have t9 : LamX.Tabs Z.T (upd H9 dg (.dK (putK (gf0.1.map kvI) (Sum.inl n) (.int r)))) := Tabs.mut (Tabs.ex t5 e59) (e59 _ _ gg) (fun _ z => nomatch z) (fun _ _ z => nomatch z)
          refine ⟨_, _, _, _, _, rfl, ExtN.mut (x9.trans (.ex e10)) hpf0, Tabs.mut (Tabs.ex t9 e10) (e10 _ _ gf9) (fun _ z => nomatch z) (fun _ _ z => nomatch z), np1, np2, ?_, ?_, upd_same⟩
          · rw [upd_ne np2]
            refine e10 _ _ ?_
            rw [upd_ne np1]
            exact e59 _ _ gp
          · rw [upd_ne nfg.symm]
            refine e10 _ _ ?_
            rw [upd_same, kvI_new hnew]
      · cases hgl : goodL cs wl n gf0.2 with
        | cons r rest =>
          rw [hgl] at hb
          cases hb
        | nil =>
          have hg1 : giveStep cs wl gf0 n = gf0 := by
            unfold giveStep
            rw [hgl]
          rw [hstep, hg1]
          have e58 := e57.trans e8
          exact ⟨_, _, _, _, _, rfl, e5.trans (.ex e58), Tabs.ex t5 e58, np1, np2, e58 _ _ gp, e58 _ _ gg, e58 _ _ gf⟩
    · rintro p σ' H5 ⟨y7, y9, y10, y11, y12, rfl, e5, t5, np1, np2, gp, gg, gf⟩
      have ht : (turnL wl st).take ((othersL wl st).mergeSort (leUp (wantOf wl))).length = turnL wl st := List.take_length
      rw [ht] at gg
      have gg : H5 dg = some (.dK ((givenF cs rs wl st).map kvI)) := gg
      have hlen := giveL_len (cs := cs) (wl := wl) (ns := turnL wl st) (g := (st, freeL rs st))
      have hlen1 : (givenF cs rs wl st).length ≤ st.length + (turnL wl st).length := hlen.1
      rw [(turn_perm wl st).length_eq] at hlen1
      have nd : ((givenF cs rs wl st).map fun p : Int × Int => p.1).Nodup := giveL_nodup (g := (st, freeL rs st)) (turn_nodup wn) (fun n hn => turn_out n hn) sn
      refine s_retD (ed_is (ed_dcN (sortI ((givenF cs rs wl st).map fun p : Int × Int => p.1)) V.int (fun _ => true) (fun n => (n, .int (roomOf (givenF cs rs wl st) n))) (el_sortD (ks := (givenF cs rs wl st).map fun p : Int × Int => p.1) (ev_var rfl) gg (kvI_keys _) (by rw [List.length_map]; omega)) (by rw [show (fun x : Int => ((x, V.int (roomOf (givenF cs rs wl st) x)) : Int × V).1) = fun x => x from rfl, List.map_id']; exact sortI_nodup nd) (by rw [sortI_len, List.length_map]; omega) (fun _ => rfl) (fun x _ H6 _ => et_yes) (fun x _ _ H6 _ => ev_var rfl) (fun x hx _ H6 e6 => ?_)) ?_) fun p6 H6 hp6 e6 g6 => k p6 H6 (e5.trans (.ex e6)) (Tabs.ex t5 e6) (Fn.back e5 (Fn.of hp6)) g6
      · obtain ⟨v, hv, hm⟩ := lookI_some (sortI_mem.mp hx)
        have z := (roomOf_mem nd hm).2
        have z : roomOf (givenF cs rs wl st) x = v := z
        rw [z]
        exact ev_dget (ev_var rfl) (ev_var rfl) (e6 _ _ gg) (by rw [lookI_val, hv]; rfl)
      · rw [filter_tt]
        unfold dictF
        rw [List.map_map]
        rfl
theorem v_short_kind {H : Hp} {a b d : Addr} {cs rs ws : List Int} {kvs : List (Key × V)} (hS : SqL K H a (cs.map V.int)) (hc : cs.length ≤ 6) (hR : SqL K H b (rs.map V.int)) (hrl : rs.length ≤ 1000) (hd : H d = some (.dK kvs)) (hv : kvs.map (·.2) = ws.map V.int) (hw : ws.length ≤ 1000) :
    SpV (sp_short_kind K) [.ref a, .ref b, .ref d] H (onV (shortP cs rs ws)) := fun _ e _ q _ => ⟨a, cs, b, rs, d, kvs, ws, rfl, ex_l e hS, hc, ex_l e hR, hrl, e _ _ hd, hv, hw, q⟩
end

section
variable {P : Program} {w : World} {K : PySem.W.Frag} {mg : Str → Option Value} {base : Heap}
theorem cal_tonight {Z : Lams mg base} (D : Dn K mg "tonight" s_tonight ["counts", "rooms", "wants", "ahead"]) (T : Tp mg) (C_short_kind : Cal P w K mg base "short_kind" 3 ["counts", "rooms", "wants"] (sp_short_kind K)) (C_who_stays : Cal P w K mg base "who_stays" 3 ["counts", "rooms", "wants", "ahead"] (sp_who K Z.T))
    (C_give_rooms : Cal P w K mg base "give_rooms" 3 ["counts", "rooms", "wants", "staying"] (sp_give K Z.T)) (C_best_paper : Cal P w K mg base "best_paper" 7 ["counts", "rooms", "wants", "ahead"] (sp_best K Z.T)) : Cal P w K mg base "tonight" 8 ["counts", "rooms", "wants", "ahead"] (sp_tonight K Z.T) := by
  refine cal_of D sc_tonight (fun vs H Q E h => ?_) (fun f cdv A outer s H vs Q E hr h => ?_)
  · obtain ⟨a, b, d1, d2, cs, rs, wl, al, rfl, _⟩ := h
    rfl
  · obtain ⟨a, b, d1, d2, cs, rs, wl, al, rfl, hn, hh, N, hT, hs, k⟩ := h
    have hle := hh.le
    have hrl := rooms_len hh N.rooms
    have hw54 := wl_small hh N hs
    have hsF := stayF_sub (cs := cs) (rs := rs) (wl := wl) (al := al)
    have sn := nodup_sub hsF (stay_nodup N.wn)
    have sk : ∀ p ∈ stayF cs rs wl al, p.1 ∈ wl.map fun p : Int × Int => p.1 := fun p hp => (stay_key (hsF.subset hp)).1
    have spl := split_len N.wn sn sk
    refine ⟨_, (pss_cons (ps_set (i := 4) sc_tonight.nd rfl (.inl rfl) (pe_cal C_short_kind (hr.mono (by decide)) (by rfl) (pa_cons (pv 0) (pa_cons (pv 1) (pa_cons (pv 2) pa_nil))))) (pss_cons (ps_if (pt_cmpR op_notN (pv 4) pe_non (nomark _)) (pss_one ps_dead) pss_nil) (pss_cons (ps_set (i := 5) sc_tonight.nd rfl (.inl rfl) (pe_cal C_who_stays (hr.mono (by decide)) (by rfl) (pa_cons (pv 0) (pa_cons (pv 1) (pa_cons (pv 2) (pa_cons (pv 3) pa_nil)))))) (pss_cons (ps_set (i := 6) sc_tonight.nd rfl (.inr rfl) (pe_cal C_give_rooms (hr.mono (by decide)) (by rfl) (pa_cons (pv 0) (pa_cons (pv 1) (pa_cons (pv 2) (pa_cons (pv 5) pa_nil)))))) (pss_cons (ps_lock (ps_setLc (i := 7) (own := [("number", 8)]) (g := gName 8) (by rfl) sc_tonight.nd rfl rfl (sw_true rfl rfl rfl (by decide +kernel)) (pi_keys (pv 6)) (blkOk_by (own := [("number", 8)]) (N := ["counts", "rooms", "wants", "ahead", "kind", "staying", "given", "moved", "number"]) (sc := defScope s_tonight) (by decide +kernel)) (fun _ _ _ _ _ => pg_name (i := 8) sc_tonight.nd rfl (Or.inl rfl)) (fun _ _ _ _ _ => (pts_one (PW.pt (pw_and (pt_cmp (pc_din (hu_of hr) (pv 8) (pv 3))) (pw_and1 (pt_cmpR op_ne (pe_dget (hu_of hr) (pv 3) (pv 8) (fun _ _ => rfl)) (pe_dget (hu_of hr) (pv 6) (pv 8) (fun _ _ => rfl)) (nomark _))))))) (fun _ _ _ _ _ => (pv 8)))) (pss_one (ps_ret (pe_tup (pa_cons (pv 6) (pa_cons (pv 7) (pa_cons (pe_cal C_best_paper (hr.mono (by decide)) (by rfl) (pa_cons (pv 0) (pa_cons (pv 1) (pa_cons (pv 2) (pa_cons (pv 3) pa_nil))))) pa_nil))))))))))), ?_⟩
    refine q_asg (v := .non) (ev_of (ev_call0 (ea_3 (ev_var rfl) (ev_var rfl) (ev_var rfl)) (v_short_kind hn.c hle hn.r (by omega) hn.w (kvI_vals wl) (by rw [List.length_map]; omega))) (by rw [shortP_eq hh N.rooms, hs]; rfl)) fun H1 e1 => ?_
    refine q_when (et_test (ev_notN (ev_var rfl))) (fun hb => absurd hb (by decide)) (fun _ H2 e2 => ?_)
    have e02 := e1.trans e2
    refine q_asgX (vs := [.ref a, .ref b, .ref d1, .ref d2]) (ea_cons (ev_var rfl) (ea_3 (ev_var rfl) (ev_var rfl) (ev_var rfl))) fun H3 e3 => ?_
    have e03 := e02.trans e3
    refine ⟨a, b, d1, d2, cs, rs, wl, al, rfl, hn.ex e03, hh, N, Tabs.ex hT e03, fun ds H4 e4 t4 f4 g4 => ?_⟩
    have e04 : LamX.ExtN H H4 := LamX.ExtN.trans (.ex e03) e4
    have n4 := hn.ext e04
    refine q_asgX (vs := [.ref a, .ref b, .ref d1, .ref ds]) (ea_cons (ev_var rfl) (ea_3 (ev_var rfl) (ev_var rfl) (ev_var rfl))) fun H5 e5 => ?_
    have n5 := n4.ex e5
    refine ⟨a, b, d1, ds, cs, rs, wl, stayF cs rs wl al, rfl, n5.c, n5.r, n5.w, e5 _ _ g4, Tabs.ex t4 e5, N.wn, fun p hp => (N.wk p hp).1, sn, by omega, N.few, hrl, fun dg H6 e6 t6 f6 g6 => ?_⟩
    have e06 : LamX.ExtN H H6 := (e04.trans (.ex e5)).trans e6
    have n6 := hn.ext e06
    have g6 : H6 dg = some (.dK ((nightG cs rs wl al).map kvI)) := g6
    have hnum : (nightG cs rs wl al).map (fun p : Int × Int => p.1) = sortI ((givenF cs rs wl (stayF cs rs wl al)).map fun p : Int × Int => p.1) := dictF_nums _
    have hgl : (nightG cs rs wl al).length ≤ 80 := by
      have h1 := giveL_len (cs := cs) (wl := wl) (ns := turnL wl (stayF cs rs wl al)) (g := (stayF cs rs wl al, freeL rs (stayF cs rs wl al)))
      have h2 : (givenF cs rs wl (stayF cs rs wl al)).length ≤ (stayF cs rs wl al).length + (turnL wl (stayF cs rs wl al)).length := h1.1
      rw [(turn_perm _ _).length_eq] at h2
      have h3 := congrArg List.length hnum
      rw [List.length_map, sortI_len, List.length_map] at h3
      omega
    have gnd : ((nightG cs rs wl al).map fun p : Int × Int => p.1).Nodup := by
      rw [hnum]
      exact sortI_nodup (giveL_nodup (g := (stayF cs rs wl al, freeL rs (stayF cs rs wl al))) (turn_nodup N.wn) (fun n hn => turn_out n hn) sn)
    refine q_asgLK (ks := (nightG cs rs wl al).map fun p : Int × Int => p.1) (movedB al (nightG cs rs wl al)) V.int g6 (kvI_keys _) (by rw [List.length_map]; omega) (fun _ => rfl) (fun od => ev_var rfl) (fun od n hn' => ?_) (fun od n _ _ => ev_var rfl) fun lm H7 hlm e7 g7 => ?_
    · have hrd := lock_dict2 (od := od) g6 n6.a
      refine et_is (et_and (et_B (ev_dinR (ev_var rfl) (ev_var rfl) hrd)) (b := movedB al (nightG cs rs wl al) n) fun hb => ?_) ?_
      · rw [lookI_val] at hb
        obtain ⟨v, hv, hm⟩ := lookI_some hn'
        have hz : roomOf (nightG cs rs wl al) n = v := (roomOf_mem gnd hm).2
        unfold movedB
        cases hl : lookI al n with
        | none =>
          rw [hl] at hb
          cases hb
        | some r =>
          show EvT _ _ _ (!decide (r = roomOf (nightG cs rs wl al) n))
          rw [hz]
          exact et_test (ev_neI (ev_dgetR (ev_var rfl) (ev_var rfl) hrd (by rw [lookI_val, hl]; rfl)) (ev_dgetR (ev_var rfl) (ev_var rfl) lock_rd (by rw [lookI_val, hv]; rfl)))
      · rw [lookI_val]
        unfold movedB
        cases lookI al n <;> rfl
    · have e07 : LamX.ExtN H H7 := e06.trans (.ex e7)
      refine ⟨_, rfl, _, rfl, _, rfl, _, rfl, _, rfl, _, rfl, ?_⟩
      refine ⟨a, b, d1, d2, cs, rs, wl, al, rfl, hn.ext e07, hh, N, Tabs.ex t6 e7, fun lp H9 e9 t9 f9 g9 => ⟨by show 3 ≤ sizeLine; decide, fun t ht => ?_⟩⟩
      have e09 := e07.trans e9
      refine k t dg lm lp _ (e09.trans (.ex (Ex.new ht))) (tabs_new t9 ht) (Fn.back e09 (Fn.of ht)) (Fn.back (e04.trans (.ex e5)) f6) (Fn.back e06 (Fn.of hlm)) (Fn.back e07 f9) upd_same (Ex.new ht _ _ (e9 _ _ (e7 _ _ g6) fun _ z => nomatch z)) (Ex.new ht _ _ (e9 _ _ g7 fun _ z => nomatch z)) (Ex.new ht _ _ g9)
end


def shutL (l : List Ent) (night : Int) : List Int := ((nums l).filter (actN l night)).map (kindN l)
theorem mem_shut {l : List Ent} (hn : (l.map Ent.num).Nodup) (night k : Int) : k ∈ shutL l night ↔ k ∈ (wantsL l night).map (·.2) := by
  unfold shutL wantsL
  rw [List.map_map]
  constructor
  · intro h
    obtain ⟨n, hm, hk⟩ := List.mem_map.mp h
    obtain ⟨h1, h2⟩ := List.mem_filter.mp hm
    exact List.mem_map.mpr ⟨n, List.mem_filter.mpr ⟨sortI_mem.mpr h1, h2⟩, hk⟩
  · intro h
    obtain ⟨n, hm, hk⟩ := List.mem_map.mp h
    obtain ⟨h1, h2⟩ := List.mem_filter.mp hm
    exact List.mem_map.mpr ⟨n, List.mem_filter.mpr ⟨sortI_mem.mp h1, h2⟩, hk⟩

def nightP (cs : List Int) (m l : List Ent) (n : Int) : Option Nat := shortP cs (roomsOn cs ((kindsOn m n).map fun p : Int × Int => p.2)) ((kindsOn l n).map fun p : Int × Int => p.2)
def roomsL (cs : List Int) (m : List Ent) (n : Int) : List Int := (openR cs (shutL m n)).map fun r : Nat => (r : Int)
def nightL (cs : List Int) (m l : List Ent) (n : Int) : Option Nat := shortL cs.length ((wantsL l n).map fun p : Int × Int => p.2) ((roomsL cs m n).map (kd cs))
theorem roomsL_ok {cs : List Int} (m : List Ent) (n : Int) : RoomsOk cs (roomsL cs m n) := by
  unfold roomsL
  refine ⟨fun r hr => ?_, ?_⟩
  · obtain ⟨x, hx, rfl⟩ := List.mem_map.mp hr
    have := openR_lt x hx
    omega
  · rw [List.pairwise_map]
    refine ((List.pairwise_lt_range (n := (kinds cs).length)).sublist List.filter_sublist).imp fun h => ?_
    omega
theorem night_eq {cs : List Int} {m l : List Ent} (hh : House cs) (hm : (m.map Ent.num).Nodup) (hl : (l.map Ent.num).Nodup) (om : ∀ e ∈ m, SpanOk cs.length e) (ol : ∀ e ∈ l, SpanOk cs.length e) (n : Int) : nightP cs m l n = nightL cs m l n := by
  unfold nightP nightL
  rw [kindsOn_eq hm om, kindsOn_eq hl ol]
  have e : roomsOn cs ((wantsL m n).map fun p : Int × Int => p.2) = roomsL cs m n := by
    unfold roomsL
    rw [← openR_eq hh, openR_congr fun k => (mem_shut hm n k).symm]
  rw [e]
  exact shortP_eq hh (roomsL_ok m n) _
def firstN (g : Int → Option Nat) : Option (Nat × Nat) := (List.range 40).findSome? fun n : Nat => (g (n : Int)).map fun k => (n, k)
theorem firstN_some {g : Int → Option Nat} {i k : Nat} (hi : i < 40) (h : g (i : Int) = some k) (hn : ∀ j : Nat, j < i → g (j : Int) = none) : firstN g = some (i, k) := by
  unfold firstN
  obtain ⟨m, hm⟩ : ∃ m, 40 = i + (m + 1) := ⟨40 - i - 1, by omega⟩
  rw [hm, List.range_add, List.findSome?_append, List.findSome?_eq_none_iff.mpr fun x hx => by rw [hn x (List.mem_range.mp hx)]; rfl, List.range_succ_eq_map, List.map_cons, List.findSome?_cons, Nat.add_zero, h]
  rfl
theorem firstN_none {g : Int → Option Nat} (hn : ∀ j : Nat, j < 40 → g (j : Int) = none) : firstN g = none := List.findSome?_eq_none_iff.mpr fun x hx => by rw [hn x (List.mem_range.mp hx)]; rfl
def TupO (o : Option (Nat × Nat)) (v : V) (H : Hp) : Prop := match o with
  | none => v = .non
  | some (n, k) => ∃ t, v = .ref t ∧ H t = some (.tup [.int (n : Int), .int (k : Int)])
def sp_short_night (K : PySem.W.Frag) : Sp := fun vs H Q _ => ∃ (a : Addr) (cs : List Int) (c : Addr) (m : List Ent) (d : Addr) (l : List Ent), vs = [.ref a, .ref c, .ref d] ∧ SqL K H a (cs.map V.int) ∧ House cs ∧ Sps H c m ∧ m.length < 64 ∧ Sps H d l ∧ l.length < 64 ∧
  ∀ v H', Ex H H' → TupO (firstN (nightP cs m l)) v H' → Q v H'
section
variable {P : Program} {w : World} {K : PySem.W.Frag} {mg : Str → Option Value} {base : Heap}
theorem cal_short_night (D : Dn K mg "short_night" s_short_night ["counts", "closings", "stays"]) (T : Tp mg) (C_rooms_on : Cal P w K mg base "rooms_on" 3 ["counts", "closings", "night"] (sp_rooms_on K)) (C_wants_on : Cal P w K mg base "wants_on" 2 ["stays", "night"] sp_kinds_on)
    (C_short_kind : Cal P w K mg base "short_kind" 3 ["counts", "rooms", "wants"] (sp_short_kind K)) : Cal P w K mg base "short_night" 4 ["counts", "closings", "stays"] (sp_short_night K) := by
  refine cal_of D sc_short_night (fun vs H Q E h => ?_) (fun f cdv A outer s H vs Q E hr h => ?_)
  · obtain ⟨a, cs, c, m, d, l, rfl, _⟩ := h
    rfl
  · obtain ⟨a, cs, c, m, d, l, rfl, hS, hh, M, hm, S, hl, k⟩ := h
    have hle := hh.le
    refine ⟨_, (pss_cons (ps_for PassesOwn.never rfl (pi_range1 (by rfl) T.z_range (pa_cons (pe_glob (v := .int 40) rfl T.g_NIGHTS.choose_spec ⟨_, rfl⟩) pa_nil)) (pg_name (i := 3) sc_short_night.nd rfl (.inl rfl)) (pss_cons (ps_set (i := 4) sc_short_night.nd rfl (.inl rfl) (pe_cal C_rooms_on (hr.mono (by decide)) (by rfl) (pa_cons (pv 0) (pa_cons (pv 1) (pa_cons (pv 3) pa_nil))))) (pss_cons (ps_set (i := 5) sc_short_night.nd rfl (.inl rfl) (pe_cal C_short_kind (hr.mono (by decide)) (by rfl) (pa_cons (pv 0) (pa_cons (pv 4) (pa_cons (pe_cal C_wants_on (hr.mono (by decide)) (by rfl) (pa_cons (pv 2) (pa_cons (pv 3) pa_nil))) pa_nil))))) (pss_one (ps_if (pt_cmpR op_notN (pv 5) pe_non (nomark _)) (pss_one (ps_ret (pe_tup (pa_cons (pv 3) (pa_cons (pv 5) pa_nil))))) pss_nil))))) (pss_one (ps_ret pe_non))), ?_⟩
    refine q_forR1 (n := 40) (ea_1 ev_c) ⟨by decide, by decide⟩ (fun i σ' H' => ∃ y3 y4 y5, σ' = [some (.ref a), some (.ref c), some (.ref d), y3, y4, y5] ∧ Ex H H' ∧ ∀ j : Nat, j < i → nightP cs m l (j : Int) = none)
      (fun H1 e1 => ⟨none, none, none, rfl, e1, fun j hj => absurd hj (Nat.not_lt_zero j)⟩) ?_ ?_
    · rintro i σ' H1 hi ⟨y3, y4, y5, rfl, e1, hn⟩
      have hi : i < 40 := by omega
      refine q_asgL (el_call0 (ea_3 (ev_var rfl) (ev_var rfl) (ev_var rfl)) (l_rooms_on (ex_l e1 hS) hh (M.mono e1) hm (i : Int))) fun p H2 hp e2 h2 => ?_
      have e02 := e1.trans e2
      have hrl := roomsOn_take_len hh ((kindsOn m (i : Int)).map (·.2))
      have hwl : ((kindsOn l (i : Int)).map fun p : Int × Int => p.2).length ≤ 1000 := by
        rw [List.length_map]
        unfold kindsOn
        split
        · have := wants_len l (i : Int)
          omega
        · exact Nat.zero_le _
      refine q_asg (v := onV (nightP cs m l (i : Int))) (ev_callVVD (ev_var rfl) (ev_var rfl) (ed_call0 (ea_2 (ev_var rfl) (ev_var rfl)) (d_kinds_on (S.mono e02) hl (i : Int))) fun q H3 e3 h3 H4 e4 Q' q' E' => ⟨a, cs, p, _, q, _, _, rfl, ex_l ((e02.trans e3).trans e4) hS, hle, sq_of ((e3.trans e4) _ _ h2), by omega, e4 _ _ h3, kvI_vals _, hwl, q'⟩) fun H3 e3 => ?_
      have e03 := e02.trans e3
      cases hg : nightP cs m l (i : Int) with
      | none =>
        refine s_when (b := false) (et_is (et_test (ev_notN (ev_var rfl))) (by simp [onV])) (fun z => nomatch z) (fun _ H4 e4 => ⟨_, _, _, rfl, e03.trans e4, fun j hj => ?_⟩)
        by_cases q : j = i
        · subst q
          exact hg
        · exact hn j (by omega)
      | some n =>
        refine s_when (b := true) (et_is (et_test (ev_notN (ev_var rfl))) (by simp [onV])) (fun _ H4 e4 => ?_) (fun z => nomatch z)
        refine s_retU (eu_tup (ea_2 (ev_var rfl) (ev_var rfl)) (by show 2 ≤ 100000; decide)) fun t H5 _ e5 h5 => ?_
        have ef := firstN_some hi hg hn
        exact k _ H5 ((e03.trans e4).trans e5) (by rw [ef]; exact ⟨t, rfl, h5⟩)
    · rintro σ' H1 ⟨y3, y4, y5, rfl, e1, hn⟩
      have ef : firstN (nightP cs m l) = none := firstN_none hn
      exact s_ret ev_c fun H2 e2 => k _ H2 (e1.trans e2) (by rw [ef]; rfl)
end

/-! ### a plan: night after night -/
def rsN (cs : List Int) (m : List Ent) (i : Nat) : List Int := roomsOn cs ((kindsOn m (i : Int)).map fun p : Int × Int => p.2)
def wlN (l : List Ent) (i : Nat) : List (Int × Int) := kindsOn l (i : Int)
def ahN (cs : List Int) (m l : List Ent) : Nat → List (Int × Int)
  | 0 => []
  | i + 1 => nightG cs (rsN cs m i) (wlN l i) (ahN cs m l i)
def lastN (l : List Ent) : Int := maxL 0 (l.map Ent.last)
structure AhOk (cs : List Int) (l : List Ent) (al : List (Int × Int)) : Prop where
  nd : (al.map (·.1)).Nodup
  ri : RoomsIn cs (al.map (·.2))
  had : ∀ p ∈ al, kindN l p.1 ≤ kd cs p.2
  few : al.length ≤ 80
structure Both (cs : List Int) (m l : List Ent) : Prop where
  hh : House cs
  mn : (m.map Ent.num).Nodup
  ln : (l.map Ent.num).Nodup
  om : ∀ e ∈ m, SpanOk cs.length e
  ol : ∀ e ∈ l, SpanOk cs.length e
  lm : m.length < 64
  ll : l.length < 64
theorem wants_mem {l : List Ent} {night : Int} {p : Int × Int} (h : p ∈ wantsL l night) : p.2 = kindN l p.1 ∧ p.1 ∈ nums l := by
  obtain ⟨n, hn, rfl⟩ := List.mem_map.mp h
  exact ⟨rfl, sortI_mem.mp (List.mem_filter.mp hn).1⟩
section
variable {cs : List Int} {m l : List Ent} {al : List (Int × Int)}
theorem wlN_eq (B : Both cs m l) (i : Nat) : wlN l i = wantsL l (i : Int) := kindsOn_eq B.ln B.ol _
theorem rsN_eq (B : Both cs m l) (i : Nat) : rsN cs m i = roomsL cs m (i : Int) := by
  unfold rsN roomsL
  rw [kindsOn_eq B.mn B.om, ← openR_eq B.hh, openR_congr fun k => (mem_shut B.mn (i : Int) k).symm]
theorem night_ok (B : Both cs m l) (A : AhOk cs l al) (i : Nat) : NightOk cs (rsN cs m i) (wlN l i) al := by
  have hw := wlN_eq B i
  refine ⟨by rw [rsN_eq B]; exact roomsL_ok m _, by rw [hw]; exact wants_nodup B.ln _, A.nd, fun p hp => ?_, A.ri, fun p hp q hq e => ?_, ?_, A.few⟩
  · rw [hw] at hp
    obtain ⟨h1, h2⟩ := wants_mem hp
    obtain ⟨e, he, hm, _⟩ := look_some h2
    have := B.ol e hm
    rw [h1]
    unfold kindN
    rw [he]
    exact ⟨this.k0, this.km⟩
  · rw [hw] at hp
    rw [(wants_mem hp).1, e]
    exact A.had q hq
  · rw [hw]
    have := wants_len l (i : Int)
    have := B.ll
    omega
theorem night_none (B : Both cs m l) {i : Nat} (h : nightP cs m l (i : Int) = none) : shortL cs.length ((wlN l i).map fun p : Int × Int => p.2) ((rsN cs m i).map (kd cs)) = none := by
  rw [night_eq B.hh B.mn B.ln B.om B.ol] at h
  rw [wlN_eq B, rsN_eq B]
  exact h
theorem ah_next (B : Both cs m l) (A : AhOk cs l al) {i : Nat} (h : nightP cs m l (i : Int) = none) : AhOk cs l (nightG cs (rsN cs m i) (wlN l i) al) := by
  have N := night_ok B A i
  obtain ⟨_, _, W, hk⟩ := night_way (al := al) B.hh N (night_none B h)
  refine ⟨W.nums.symm.nodup N.wn, ⟨fun r hr => ?_, W.rooms⟩, fun p hp => ?_, ?_⟩
  · obtain ⟨p, hp, rfl⟩ := List.mem_map.mp hr
    exact N.rooms.ok _ (W.mem p hp)
  · have hg := W.good p hp
    have hn : p.1 ∈ (wlN l i).map fun p : Int × Int => p.1 := W.nums.subset (List.mem_map.mpr ⟨p, hp, rfl⟩)
    obtain ⟨v, hv, hm⟩ := lookI_some hn
    rw [wantOf_some hv] at hg
    rw [wlN_eq B] at hm
    have e : v = kindN l p.1 := (wants_mem hm).1
    omega
  · have := W.nums.length_eq
    rw [List.length_map, List.length_map] at this
    have := N.few
    omega
theorem ah_ok (B : Both cs m l) (h : ∀ i : Nat, i < 40 → nightP cs m l (i : Int) = none) : ∀ i : Nat, i ≤ 40 → AhOk cs l (ahN cs m l i)
  | 0, _ => ⟨List.nodup_nil, ⟨fun _ h => (by cases h), List.nodup_nil⟩, fun _ h => (by cases h), Nat.zero_le _⟩
  | i + 1, hi => ah_next B (ah_ok B h i (by omega)) (h i (by omega))
theorem firstN_no {g : Int → Option Nat} (h : firstN g = none) {i : Nat} (hi : i < 40) : g (i : Int) = none := by
  have z := List.findSome?_eq_none_iff.mp h i (List.mem_range.mpr hi)
  cases hg : g (i : Int) with
  | none => rfl
  | some k =>
    rw [hg] at z
    cases z
theorem last_bd (B : Both cs m l) : 0 ≤ lastN l ∧ lastN l ≤ 40 := by
  refine ⟨?_, maxL_le (by decide) fun n hn => ?_⟩
  · unfold lastN
    cases l with
    | nil => exact Int.le_refl _
    | cons e r =>
      have h := B.ol e List.mem_cons_self
      have := maxL_ge (d := 0) (ns := (e :: r).map Ent.last) (n := e.last) (List.mem_map.mpr ⟨e, List.mem_cons_self, rfl⟩)
      have := h.f0
      have := h.fl
      omega
  · obtain ⟨e, he, rfl⟩ := List.mem_map.mp hn
    exact (B.ol e he).l40
end

structure ToldH (H : Hp) (t dg lm lp : Addr) (al g : List (Int × Int)) (P : List Int) : Prop where
  ht : H t = some (.tup [.ref dg, .ref lm, .ref lp])
  hg : H dg = some (.dK (g.map kvI))
  hm : H lm = some (.lst ((movedF al g).map V.int))
  hp : H lp = some (.lst (P.map V.int))
theorem ToldH.ex {H H' : Hp} {t dg lm lp : Addr} {al g : List (Int × Int)} {P : List Int} (h : ToldH H t dg lm lp al g P) (e : Ex H H') : ToldH H' t dg lm lp al g P := ⟨e _ _ h.ht, e _ _ h.hg, e _ _ h.hm, e _ _ h.hp⟩

/-! ### the program's plan -/
def sp_nights_of : Sp := fun vs H Q _ => ∃ (d : Addr) (l : List Ent), vs = [.ref d] ∧ Sps H d l ∧ l.length < 64 ∧ RetV (.int (if lastN l < 40 then lastN l else 40)) H Q
abbrev Q4 := Addr × Addr × Addr × Addr

/-- the i-th night as it was told -/
structure NightT (H0 H : Hp) (cs : List Int) (m l : List Ent) (i : Nat) (q : Q4) : Prop where
  f1 : Fn H0 q.1
  f2 : Fn H0 q.2.1
  f3 : Fn H0 q.2.2.1
  f4 : Fn H0 q.2.2.2
  told : ToldH H q.1 q.2.1 q.2.2.1 q.2.2.2 (ahN cs m l i) (ahN cs m l (i + 1)) (bestP cs (rsN cs m i) (wlN l i) (ahN cs m l i))
def sp_plan (K : PySem.W.Frag) (TT : List (Addr × Str)) : Sp := fun vs H Q _ => ∃ (a c d : Addr) (cs : List Int) (m l : List Ent), vs = [.ref a, .ref c, .ref d] ∧ SqL K H a (cs.map V.int) ∧ Both cs m l ∧ Sps H c m ∧ Sps H d l ∧ LamX.Tabs TT H ∧ firstN (nightP cs m l) = none ∧
  ∀ (p : Addr) (H' : Hp) (ts : List Q4), LamX.ExtN H H' → LamX.Tabs TT H' → Fn H p → H' p = some (.lst (ts.map fun q => V.ref q.1)) → ts.length = (lastN l).toNat → (∀ i q, ts[i]? = some q → NightT H H' cs m l i q) → Q (.ref p) H'
section
variable {P : Program} {w : World} {K : PySem.W.Frag} {mg : Str → Option Value} {base : Heap}
theorem sps_extN {H H' : Hp} {d : Addr} {l : List Ent} (S : Sps H d l) (e : LamX.ExtN H H') : Sps H' d l := ⟨e _ _ S.dc (fun _ z => nomatch z), fun x hx => e _ _ (S.tp x hx) (fun _ z => nomatch z), S.nd⟩
theorem ToldH.extN {H H' : Hp} {t dg lm lp : Addr} {al g : List (Int × Int)} {P : List Int} (h : ToldH H t dg lm lp al g P) (e : LamX.ExtN H H') : ToldH H' t dg lm lp al g P := ⟨e _ _ h.ht (fun _ z => nomatch z), e _ _ h.hg (fun _ z => nomatch z), e _ _ h.hm (fun _ z => nomatch z), e _ _ h.hp (fun _ z => nomatch z)⟩
theorem cal_nights_of (D : Dn K mg "nights_of" s_nights_of ["stays"]) (T : Tp mg) : Cal P w K mg base "nights_of" 1 ["stays"] sp_nights_of := by
  refine cal_of D sc_nights_of (fun vs H Q E h => ?_) (fun f cdv A outer s H vs Q E hr h => ?_)
  · obtain ⟨d, l, rfl, _⟩ := h
    rfl
  · obtain ⟨d, l, rfl, S, hl, k⟩ := h
    refine ⟨_, (pss_one (ps_ret (pe_callB (call_min2 rfl) (by rfl) T.z_min (by decide +kernel) (pa_cons (pe_glob (v := .int 40) rfl T.g_NIGHTS.choose_spec ⟨_, rfl⟩) (pa_cons (pe_callBK (r := rMaxDf K) (cr_maxDf hr.units) (by rfl) T.z_max (by decide +kernel) (pa_cons (pe_lock (pe_lc (own := [("span", 1)]) (g := gName 1) (by rfl) sc_nights_of.nd (pi_values (pv 0)) (blkOk_by (own := [("span", 1)]) (N := ["stays", "span"]) (sc := defScope s_nights_of) (by decide +kernel)) (fun _ _ _ _ _ => pg_name (i := 1) sc_nights_of.nd rfl (Or.inl rfl)) (fun _ _ _ _ _ => pts_nil) (fun _ _ _ _ _ => (pe_ix (r := rIxT K) ix_tup (pv 1) pe_int (fun _ _ => rfl))))) pa_nil) (pk_cons pe_int pk_nil)) pa_nil))))), ?_⟩
    refine s_ret (ev_min2 ev_c (ev_maxDf (el_is (el_lcV l (fun e => V.ref e.at_) (fun _ => true) (fun e => .int e.last) S.dc (by rw [List.map_map]; rfl) (by omega) (fun _ => rfl) (fun od => ev_var rfl) (fun od x _ => et_yes) (fun od x hx _ => ev_ixT (ev_var rfl) ev_c (st_of (lock_at S.dc (S.tp x hx) fun k z => (by cases z))) (atI_nat (j := 1) rfl))) ?_))) k
    rw [filter_tt, List.map_map]
    rfl
theorem q_appX {σ : L2.St} {H : Hp} {D : Ends} {tz : TS} {ta : TE} {l : Addr} {sp : Sp} {vs xs : List V} {E : XK} {tb : TA} (hl : H l = some (.lst xs)) (ha : Ev ta σ H (.ref l)) (hv : EvA tb σ H vs) (hs : ∀ H1, Ex H H1 → sp vs H1 (fun v H2 => rAppend (.ref l) [v] H2 fun _ H3 => tz D σ H3) E) :
    tSeq (tDrop (tBM K "list" rAppend ta (tCons (tCall sp [] E tb) tNil))) tz D σ H := s_appX (D := { D with nx := tz D }) hl ha hv hs
end

section
variable {P : Program} {w : World} {K : PySem.W.Frag} {mg : Str → Option Value} {base : Heap}
theorem cal_plan {Z : Lams mg base} (D : Dn K mg "plan" s_plan ["counts", "closings", "stays"]) (T : Tp mg) (C_short_night : Cal P w K mg base "short_night" 4 ["counts", "closings", "stays"] (sp_short_night K)) (C_nights_of : Cal P w K mg base "nights_of" 1 ["stays"] sp_nights_of)
    (C_rooms_on : Cal P w K mg base "rooms_on" 3 ["counts", "closings", "night"] (sp_rooms_on K)) (C_wants_on : Cal P w K mg base "wants_on" 2 ["stays", "night"] sp_kinds_on) (C_tonight : Cal P w K mg base "tonight" 8 ["counts", "rooms", "wants", "ahead"] (sp_tonight K Z.T)) :
    Cal P w K mg base "plan" 9 ["counts", "closings", "stays"] (sp_plan K Z.T) := by
  refine cal_of D sc_plan (fun vs H Q E h => ?_) (fun f cdv A outer s H vs Q E hr h => ?_)
  · obtain ⟨a, c, d, cs, m, l, rfl, _⟩ := h
    rfl
  · obtain ⟨a, c, d, cs, m, l, rfl, hS, B, M, S, hT, hf, k⟩ := h
    refine ⟨_, (pss_cons (ps_set (i := 3) sc_plan.nd rfl (.inl rfl) (pe_cal C_short_night (hr.mono (by decide)) (by rfl) (pa_cons (pv 0) (pa_cons (pv 1) (pa_cons (pv 2) pa_nil))))) (pss_cons (ps_if (pt_cmpR op_notN (pv 3) pe_non (nomark _)) (pss_cons (ps_asg (pv 3) (pg_tup rfl (pgs_cons (pg_name (i := 4) sc_plan.nd rfl (.inl rfl)) (pgs_cons (pg_name (i := 5) sc_plan.nd rfl (.inl rfl)) pgs_nil)))) (pss_one ps_dead)) pss_nil) (pss_cons (ps_set (i := 6) sc_plan.nd rfl (.inl rfl) (pe_lst pa_nil)) (pss_cons (ps_set (i := 7) sc_plan.nd rfl (.inl rfl) pe_dnewK) (pss_cons (ps_for PassesOwn.never rfl (pi_range1 (by rfl) T.z_range (pa_cons (pe_cal C_nights_of (hr.mono (by decide)) (by rfl) (pa_cons (pv 2) pa_nil)) pa_nil)) (pg_name (i := 4) sc_plan.nd rfl (.inl rfl)) (pss_cons (ps_set (i := 8) sc_plan.nd rfl (.inl rfl) (pe_cal C_rooms_on (hr.mono (by decide)) (by rfl) (pa_cons (pv 0) (pa_cons (pv 1) (pa_cons (pv 4) pa_nil))))) (pss_cons (ps_set (i := 9) sc_plan.nd rfl (.inl rfl) (pe_cal C_wants_on (hr.mono (by decide)) (by rfl) (pa_cons (pv 2) (pa_cons (pv 4) pa_nil)))) (pss_cons (ps_expr (pe_bm PySem.F.plainAttrs_list PySem.F.slot_list_append PySem.F.type_list_append mt_append (pv 6) (pa_cons (pe_cal C_tonight (hr.mono (by decide)) (by rfl) (pa_cons (pv 0) (pa_cons (pv 8) (pa_cons (pv 9) (pa_cons (pv 7) pa_nil))))) pa_nil))) (pss_one (ps_set (i := 7) sc_plan.nd rfl (.inl rfl) (pe_ix (r := rIxT K) ix_tup (pe_ix (r := rIxL K) ix_list (pv 6) (pv 4) (fun _ _ => rfl)) pe_int (fun _ _ => rfl)))))))) (pss_one (ps_ret (pv 6)))))))), ?_⟩
    have hb := last_bd B
    refine q_asg (v := .non) (ev_call0 (ea_3 (ev_var rfl) (ev_var rfl) (ev_var rfl)) fun H1 e1 Q' q' E' => ⟨a, cs, c, m, d, l, rfl, ex_l e1 hS, B.hh, M.mono e1, B.lm, S.mono e1, B.ll, fun v H2 e2 ho => by
      rw [hf] at ho
      have ho : v = .non := ho
      subst ho
      exact q' H2 e2⟩) fun H1 e1 => ?_
    refine q_when (b := false) (et_is (et_test (ev_notN (ev_var rfl))) (by simp)) (fun z => nomatch z) (fun _ H2 e2 => ?_)
    refine q_asgL el_nil fun pt H3 hpt e3 g3 => ?_
    refine q_asgD ed_new fun pa H4 hpa e4 g4 => ?_
    have e04 := ((e1.trans e2).trans e3).trans e4
    have fpt : Fn H pt := Fn.of (fresh_back (e1.trans e2) hpt)
    refine q_forR1 (n := lastN l) (ea_1 (ev_of (ev_call0 (z := .int (if lastN l < 40 then lastN l else 40)) (ea_1 (ev_var rfl)) fun H5 e5 Q' q' E' => ⟨d, l, rfl, S.mono (e04.trans e5), B.ll, q'⟩) (congrArg V.int (by split <;> omega)))) ⟨by omega, by omega⟩
      (fun i σ' H' => ∃ y4 y5 pa y8 y9 ts, σ' = [some (.ref a), some (.ref c), some (.ref d), some .non, y4, y5, some (.ref pt), some (.ref pa), y8, y9] ∧ LamX.ExtN H H' ∧ LamX.Tabs Z.T H' ∧ H' pt = some (.lst (ts.map fun q : Q4 => V.ref q.1)) ∧ ts.length = i ∧
        (∀ (j : Nat) (q : Q4), ts[j]? = some q → NightT H H' cs m l j q ∧ q.2.2.1 ≠ pt ∧ q.2.2.2 ≠ pt) ∧ H' pa = some (.dK ((ahN cs m l i).map kvI)))
      (fun H5 e5 => ⟨none, none, pa, none, none, [], rfl, .ex (e04.trans e5), Tabs.ex hT (e04.trans e5), (e4.trans e5) _ _ g3, rfl, fun j q hq => (by cases hq), e5 _ _ g4⟩) ?_ ?_
    · rintro i σ' H5 hi ⟨y4, y5, pa, y8, y9, ts, rfl, e5, t5, g5, hts, hq, ga⟩
      have hi40 : i < 40 := by omega
      have hno := firstN_no hf hi40
      have A := ah_ok B (fun j hj => firstN_no hf hj) i (by omega)
      have N := night_ok B A i
      refine q_asgL (el_call0 (ea_3 (ev_var rfl) (ev_var rfl) (ev_var rfl)) (l_rooms_on (xn_l e5 hS) B.hh (sps_extN M e5) B.lm (i : Int))) fun pr H6 hpr e6 g6 => ?_
      have e06 : LamX.ExtN H H6 := e5.trans (.ex e6)
      refine q_asgD (ed_call0 (ea_2 (ev_var rfl) (ev_var rfl)) (d_kinds_on (sps_extN S e06) B.ll (i : Int))) fun pw H7 hpw e7 g7 => ?_
      have e57 := e6.trans e7
      have e07 : LamX.ExtN H H7 := e06.trans (.ex e7)
      refine q_appX (vs := [.ref a, .ref pr, .ref pw, .ref pa]) (e57 _ _ g5) (ev_var rfl) (ea_cons (ev_var rfl) (ea_3 (ev_var rfl) (ev_var rfl) (ev_var rfl))) fun H8 e8 => ?_
      have e58 := e57.trans e8
      have e08 : LamX.ExtN H H8 := e07.trans (.ex e8)
      refine ⟨a, pr, pw, pa, cs, rsN cs m i, wlN l i, ahN cs m l i, rfl, ⟨xn_l e08 hS, sq_of ((e7.trans e8) _ _ g6), e8 _ _ g7, e58 _ _ ga⟩, B.hh, N, Tabs.ex t5 e58, night_none B hno, fun t dg lm lp H9 e9 t9 f1 f2 f3 f4 h1 h2 h3 h4 => ?_⟩
      have e59 : LamX.ExtN H5 H9 := LamX.ExtN.trans (.ex e58) e9
      have e09 : LamX.ExtN H H9 := e5.trans e59
      have gpt8 := e58 _ _ g5
      have gpt9 : H9 pt = some (.lst (ts.map fun q : Q4 => V.ref q.1)) := e59 _ _ g5 fun _ z => nomatch z
      have n1 : t ≠ pt := (f1.ne gpt8 fun _ z => nomatch z).symm
      have n2 : dg ≠ pt := (f2.ne gpt8 fun _ z => nomatch z).symm
      have n3 : lm ≠ pt := (f3.ne gpt8 fun _ z => nomatch z).symm
      have n4 : lp ≠ pt := (f4.ne gpt8 fun _ z => nomatch z).symm
      refine ⟨pt, _, .ref t, rfl, rfl, gpt9, sz_lt (by rw [List.length_map]; omega), ?_⟩
      generalize hH10 : upd H9 pt (.lst ((ts.map fun q : Q4 => V.ref q.1) ++ [.ref t])) = H10
      have same : ∀ {b o}, b ≠ pt → H9 b = some o → H10 b = some o := fun hb h => by rw [← hH10, upd_ne hb]; exact h
      have g10 : H10 pt = some (.lst ((ts ++ [(t, dg, lm, lp)]).map fun q : Q4 => V.ref q.1)) := by
        rw [← hH10, upd_same, List.map_append]
        rfl
      have e010 : LamX.ExtN H H10 := by
        rw [← hH10]
        exact ExtN.mut e09 fpt
      have t10 : LamX.Tabs Z.T H10 := by
        rw [← hH10]
        exact Tabs.mut t9 gpt9 (fun _ z => nomatch z) (fun _ _ z => nomatch z)
      clear hH10
      refine s_asg (v := .ref dg) (ev_ixT (xs := [.ref dg, .ref lm, .ref lp]) (ev_ixL (v := .ref t) (ev_var rfl) (ev_var rfl) (sq_of g10) (atI_nat (j := i) (by rw [List.getElem?_map, List.getElem?_append_right (by omega), hts, Nat.sub_self]; rfl))) ev_c (st_of (same n1 h1)) (atI_nat (j := 0) rfl)) fun H11 e11 => ?_
      refine ⟨_, y5, dg, _, _, ts ++ [(t, dg, lm, lp)], rfl, e010.trans (.ex e11), Tabs.ex t10 e11, e11 _ _ g10, by rw [List.length_append, hts]; rfl, fun j q hjq => ?_, e11 _ _ (same n2 h2)⟩
      by_cases hj : j < ts.length
      · rw [List.getElem?_append_left hj] at hjq
        obtain ⟨z1, z2, z3⟩ := hq j q hjq
        have told := z1.told.extN e59
        have q1 : q.1 ≠ pt := fun z => by
          have w := told.ht
          rw [z, gpt9] at w
          cases w
        have q2 : q.2.1 ≠ pt := fun z => by
          have w := told.hg
          rw [z, gpt9] at w
          cases w
        exact ⟨⟨z1.f1, z1.f2, z1.f3, z1.f4, (ToldH.mk (same q1 told.ht) (same q2 told.hg) (same z2 told.hm) (same z3 told.hp)).ex e11⟩, z2, z3⟩
      · have hjl : j = ts.length := by
          have := (List.getElem?_eq_some_iff.mp hjq).1
          rw [List.length_append, List.length_singleton] at this
          omega
        subst hjl
        rw [List.getElem?_append_right (Nat.le_refl _), Nat.sub_self] at hjq
        have eq0 : (t, dg, lm, lp) = q := Option.some.inj hjq
        subst eq0
        rw [hts]
        exact ⟨⟨Fn.back e08 f1, Fn.back e08 f2, Fn.back e08 f3, Fn.back e08 f4, (ToldH.mk (same n1 h1) (same n2 h2) (same n3 h3) (same n4 h4)).ex e11⟩, n3, n4⟩
    · rintro σ' H5 ⟨y4, y5, pa, y8, y9, ts, rfl, e5, t5, g5, hts, hq, ga⟩
      exact s_ret (ev_var rfl) fun H6 e6 => k pt H6 ts (e5.trans (.ex e6)) (Tabs.ex t5 e6) fpt (e6 _ _ g5) hts fun i q h => ⟨(hq i q h).1.f1, (hq i q h).1.f2, (hq i q h).1.f3, (hq i q h).1.f4, (hq i q h).1.told.ex e6⟩
end


end Ik
namespace PySem.W
section
variable {prog : Program} {w : World} {K : Type} [DecidableEq K] {knd : KeyKind prog w K} {A : Around} {E : Value → Shared → Prop} {s : Shared}
theorem ik_neP_dicts {a b : Addr} {ka kb : List (K × Value)} {r : Bool} (ha : (a == sysModules) = false) (hb : (b == sysModules) = false)
    (da : s.heap.DictOf knd a ka) (db : s.heap.DictOf knd b kb) (hu : A.units < cLine) (hits : ka.length = kb.length → KeqHitsP prog w A.in1 s kb ka r) (E Q : Value → Shared → Prop) (h : Q (.bool (!(ka.length == kb.length && r))) s) : wpAny (model prog w) A (compareOp .NotEq (.ref a) (.ref b)) Q E s := by
  refine wpAny_richCompare_same_room (op := .NotEq) da.typeIs db.typeIs PySem.F.slot_dict_ne (wpAny_call_entry PySem.F.slot_dict_ne da.typeIs PySem.F.entry_dict_ne ?_ (PySem.F.args_dict_ne_2 _ _)) hu
  show wpAny _ _ (Builtin.Dict.dictSlotArgs "__ne__" ⟨[.ref a, .ref b], []⟩ >>= _) _ _ s
  refine wpAny_bind ?_
  unfold Builtin.Dict.dictSlotArgs
  refine wpAny_bind (wpAny_notOrdered_dict da.typeIs ?_)
  show wpAny _ _ (pure (Value.ref a, Value.ref b)) _ _ s
  refine wpAny_pure ?_
  refine wpAny_bind (wpAny_isInstance (T := "dict") db.typeIs PySem.F.sub_dict_dict ?_)
  simp only [Bool.not_true, Bool.false_eq_true, if_false]
  refine wpAny_bind (wpAny_pure (wpAny_bind (wpAny_pure ?_)))
  refine wpAny_bind (samePairsP ha hb da db hits ?_)
  refine wpAny_pure ⟨_, rfl, ?_, ?_⟩
  · exact fun x => nomatch x
  · simpa using h
end
end PySem.W
namespace Ik
open PySem PySem.Spec PyProof.Rows L2 Evl
/-- != of two dicts of the same keys whose values are equal tuples -/
def rNeDT (K : PySem.W.Frag) : R2 := fun x y H Q => ∃ n a b ks ls, n ≤ 50 ∧ x = .ref a ∧ y = .ref b ∧ H a = some (.dK ks) ∧ H b = some (.dK ls) ∧ ks.length = ls.length ∧ (∀ p ∈ ks, ∃ u, valV ls p.1 = some u ∧ TupEq K H n p.2 u) ∧ Q (.bl false) H
theorem op_neDT {X : Cx} (hu : X.A.units + 64 < cLine) : OpR X (compareOp .NotEq) (rNeDT X.K) := by
  intro pins s σ H x y v u Q I rx ry h
  obtain ⟨n, a, b, ks, ls, hn, rfl, rfl, ea, eb, hlen, hp, q⟩ := h
  obtain rfl : v = Value.ref a := rx
  obtain rfl : u = Value.ref b := ry
  obtain ⟨_, ya, va, ra, da⟩ := (show ObjOk X.prog X.w H s.heap a (.dK ks) from I.hok a _ ea)
  obtain ⟨_, yb, vb, rb, db⟩ := (show ObjOk X.prog X.w H s.heap b (.dK ls) from I.hok b _ eb)
  have hl : va.length = vb.length := by rw [← ra.length, ← rb.length]; exact hlen
  refine PySem.W.ik_neP_dicts (knd := mixKind X.prog X.w) (r := true) ya yb da db (by omega) (fun _ => hits_run (tupEq_run I (A := X.A.in1) (by show X.A.units + 1 + 1 + n < cLine; omega)) rb ra hp) _ _ ?_
  have e : (!(va.length == vb.length && true)) = false := by rw [hl]; simp
  rw [e]
  exact ⟨.bl false, H, I, rfl, q⟩
end Ik

/-! ### own classes: methods that may raise, methods that don't, objects made -/
namespace Ik
open PySem PySem.Spec PyProof.Rows L2 Evl
structure MetX (P : Program) (w : World) (K : PySem.W.Frag) (mg : Str → Option Value) (base : Heap) (C : Addr) (m : Str) (k : Nat) (ps : List Str) (sp : Sp) : Prop where
  ex : ∃ (f : Addr) (fd : FuncData), FnOk P w K mg base (L2N.CX P w) k f fd ps sp ∧ Meth K C m f ∧ Binds K fd ps []
structure MetC (P : Program) (w : World) (K : PySem.W.Frag) (mg : Str → Option Value) (base : Heap) (C : Addr) (m : Str) (k : Nat) (ps : List Str) (sp : Sp) : Prop where
  ex : ∃ (f : Addr) (fd : FuncData), FnOk P w K mg base CX0 k f fd ps sp ∧ Meth K C m f ∧ Binds K fd ps []
structure MakX (P : Program) (w : World) (K : PySem.W.Frag) (mg : Str → Option Value) (base : Heap) (C : Addr) (k : Nat) (ps : List Str) (sp : Sp) : Prop where
  ex : ∃ (f : Addr) (fd : FuncData), FnOk P w K mg base (L2N.CX P w) k f fd ps sp ∧ Mk K C f ∧ Binds K fd ps []
structure MakC (P : Program) (w : World) (K : PySem.W.Frag) (mg : Str → Option Value) (base : Heap) (C : Addr) (k : Nat) (ps : List Str) (sp : Sp) : Prop where
  ex : ∃ (f : Addr) (fd : FuncData), FnOk P w K mg base CX0 k f fd ps sp ∧ Mk K C f ∧ Binds K fd ps []
section
variable {X : Cx} {C : Addr} {m x : Str} {k : Nat} {ps : List Str} {sp : Sp} {o e : Expr} {es : List Expr} {ta : TE} {t : TA} {p pos apos : Pos} {W : WX}
theorem pe_fldK {K : PySem.W.Frag} {f : Str} (hK : K = X.K) (he : PE X e ta) (hb : attributeBase e f X.env (eval e X.env) = eval e X.env) : PE X (.Attribute e f pos) (tFld K ta f) := by
  subst hK
  exact pe_fld he hb
theorem pe_metX {pl : Sem Bool} (M : MetX X.prog X.w X.K X.mg X.base C m k ps sp) (c : Cls X.K C) (tk : L2N.Takes X W) (hr : Room k X.A) (he : PE X o ta) (ha : PA X (e :: es) t)
    (hst : starEach (e :: es) X.env = (false, eval e X.env) :: starEach es X.env := by rfl) (hpl : (backTo pos (starEach es X.env)).any (·.1) = false := by rfl)
    (ht : eval (.Call (.Attribute o m apos) (e :: es) [] pos) X.env = (do
      let ov ← eval o X.env
      standAt apos.atName
      let (f, first) ← holding [ov] (getMethod ov m pl)
      callWith pos f first (backTo pos (starEach (e :: es) X.env)) (backToKw pos (keywordEach [] X.env))) := by rfl) :
    PE X (.Call (.Attribute o m apos) (e :: es) [] pos) (L2N.tMethS C m sp (WE W) ta t) := by
  obtain ⟨f, fd, F, hm, hb⟩ := M.ex
  exact L2N.pe_methS he c hm F hr hb (fun σ => passAtN tk σ) ha hst hpl ht
theorem pe_metX0 {pl : Sem Bool} (M : MetX X.prog X.w X.K X.mg X.base C m k ps sp) (c : Cls X.K C) (tk : L2N.Takes X W) (hr : Room k X.A) (he : PE X o ta)
    (ht : eval (.Call (.Attribute o m apos) [] [] pos) X.env = (do
      let ov ← eval o X.env
      standAt apos.atName
      let (f, first) ← holding [ov] (getMethod ov m pl)
      callWith pos f first (backTo pos (starEach [] X.env)) (backToKw pos (keywordEach [] X.env))) := by rfl) :
    PE X (.Call (.Attribute o m apos) [] [] pos) (L2N.tMethS C m sp (WE W) ta tNil) := by
  obtain ⟨f, fd, F, hm, hb⟩ := M.ex
  exact L2N.pe_methS0 he c hm F hr hb (fun σ => passAtN tk σ) ht
theorem pe_metC {pl : Sem Bool} (M : MetC X.prog X.w X.K X.mg X.base C m k ps sp) (c : Cls X.K C) (hr : Room k X.A) (he : PE X o ta) (ha : PA X (e :: es) t)
    (hst : starEach (e :: es) X.env = (false, eval e X.env) :: starEach es X.env := by rfl) (hpl : (backTo pos (starEach es X.env)).any (·.1) = false := by rfl)
    (ht : eval (.Call (.Attribute o m apos) (e :: es) [] pos) X.env = (do
      let ov ← eval o X.env
      standAt apos.atName
      let (f, first) ← holding [ov] (getMethod ov m pl)
      callWith pos f first (backTo pos (starEach (e :: es) X.env)) (backToKw pos (keywordEach [] X.env))) := by rfl) :
    PE X (.Call (.Attribute o m apos) (e :: es) [] pos) (tMeth C m sp [] E0 ta t) := by
  obtain ⟨f, fd, F, hm, hb⟩ := M.ex
  exact pe_meth he c hm F hr hb .nil pass0 ha hst hpl ht
theorem pe_metC0 {pl : Sem Bool} (M : MetC X.prog X.w X.K X.mg X.base C m k ps sp) (c : Cls X.K C) (hr : Room k X.A) (he : PE X o ta)
    (ht : eval (.Call (.Attribute o m apos) [] [] pos) X.env = (do
      let ov ← eval o X.env
      standAt apos.atName
      let (f, first) ← holding [ov] (getMethod ov m pl)
      callWith pos f first (backTo pos (starEach [] X.env)) (backToKw pos (keywordEach [] X.env))) := by rfl) :
    PE X (.Call (.Attribute o m apos) [] [] pos) (tMeth C m sp [] E0 ta tNil) := by
  obtain ⟨f, fd, F, hm, hb⟩ := M.ex
  exact pe_meth0 he c hm F hr hb .nil pass0 ht
theorem pe_makX (M : MakX X.prog X.w X.K X.mg X.base C k ps sp) (hm : X.mg x = some (.ref C)) (tk : L2N.Takes X W) (hr : Room (k + 1) X.A) (hg : Gl X x) (ha : PA X (e :: es) t)
    (hdb : (x == ("__debug__" : Str)) = false := by decide) (he : starEach (e :: es) X.env = (false, eval e X.env) :: starEach es X.env := by rfl) (hpl : (backTo pos (starEach es X.env)).any (·.1) = false := by rfl) :
    PE X (.Call (.Name x p) (e :: es) [] pos) (L2N.tMakeS C sp (WE W) t) := by
  obtain ⟨f, fd, F, hk, hb⟩ := M.ex
  exact L2N.pe_makeS hk F hr hg hm hb (fun σ => passAtN tk σ) ha hdb he hpl
theorem pe_makC (M : MakC X.prog X.w X.K X.mg X.base C k ps sp) (hm : X.mg x = some (.ref C)) (hr : Room (k + 1) X.A) (hg : Gl X x) (ha : PA X (e :: es) t)
    (hdb : (x == ("__debug__" : Str)) = false := by decide) (he : starEach (e :: es) X.env = (false, eval e X.env) :: starEach es X.env := by rfl) (hpl : (backTo pos (starEach es X.env)).any (·.1) = false := by rfl) :
    PE X (.Call (.Name x p) (e :: es) [] pos) (tMake C sp [] E0 t) := by
  obtain ⟨f, fd, F, hk, hb⟩ := M.ex
  exact pe_make hk F hr hg hm hb .nil pass0 ha hdb he hpl
end
section
variable {P : Program} {w : World} {K : PySem.W.Frag} {mg : Str → Option Value} {base : Heap}
/-- an error is never met -/
theorem fn_calm {k : Nat} {f : Addr} {fd : FuncData} {ps : List Str} {sp sp0 : Sp} (F : FnOk P w K mg base (L2N.CX P w) k f fd ps sp) (h : ∀ vs H Q E, sp0 vs H Q E → sp vs H Q (fun _ _ _ => False)) : FnOk P w K mg base CX0 k f fd ps sp0 := by
  refine ⟨fun vs H Q E z => F.len vs H Q _ (h vs H Q E z), fun A outer s H args us vs Q E hr e0 hb' r z => codeAny_mono (F.run A outer s H args us vs Q (fun _ _ _ => False) hr e0 hb' r (h vs H Q E z)) fun r s' hq => ?_⟩
  cases r with
  | error e =>
    obtain ⟨_, _, _, _, _, _, _, _, _, _, _, _, z⟩ := hq
    exact z.elim
  | ok fl =>
    cases fl with
    | ret u => exact hq
    | next => exact hq
    | brk => exact hq
    | cont => exact hq
theorem met_calm {C : Addr} {m : Str} {k : Nat} {ps : List Str} {sp sp0 : Sp} (M : MetX P w K mg base C m k ps sp) (h : ∀ vs H Q E, sp0 vs H Q E → sp vs H Q (fun _ _ _ => False)) : MetC P w K mg base C m k ps sp0 := by
  obtain ⟨f, fd, F, hm, hb⟩ := M.ex
  exact ⟨f, fd, fn_calm F h, hm, hb⟩
theorem mak_calm {C : Addr} {k : Nat} {ps : List Str} {sp sp0 : Sp} (M : MakX P w K mg base C k ps sp) (h : ∀ vs H Q E, sp0 vs H Q E → sp vs H Q (fun _ _ _ => False)) : MakC P w K mg base C k ps sp0 := by
  obtain ⟨f, fd, F, hm, hb⟩ := M.ex
  exact ⟨f, fd, fn_calm F h, hm, hb⟩
/-- a method, as the top has left it -/
structure Dm (K : PySem.W.Frag) (C : Addr) (m q : Str) (st : Stmt) (ps : List Str) : Prop where
  ex : ∃ (f : Addr) (fd : FuncData), Fun K m q st f fd ∧ Meth K C m f ∧ Binds K fd ps []
theorem met_ofX {C : Addr} {m q : Str} {st : Stmt} {N ps : List Str} {k : Nat} {sp : Sp} (D : Dm K C m q st ps) (S : FnScope N ps (defScope st)) (len : ∀ vs H Q E, sp vs H Q E → vs.length = ps.length)
    (hbody : ∀ (f : Addr) (cdv : Value) (A : Around) (outer : List Env) (s : Shared) (H : Hp) (vs : List V) (Q : VK) (E : XK), Room k (A.deeper (envOfC q (defScope st) s.heap.objs.size f cdv)) → sp vs H Q E →
      ∃ t, PSs (cxOf (L2N.CX P w) P w K mg base N q (defScope st) f cdv A outer s H E) (defBody st) t ∧ t { nx := fun _ H' => Q .non H', rt := Q } (start N vs) H) : MetX P w K mg base C m (k + 1) ps sp := by
  obtain ⟨f, fd, F, hm, b⟩ := D.ex
  obtain ⟨oc, od, kV, doc, pm, an, cdv, ct, osl, rfl, lk, hcd⟩ := F.ex
  exact ⟨f, _, fn_of lk hcd S len fun A outer s H vs Q E hr h => hbody f cdv A outer s H vs Q E hr h, hm, b⟩
theorem met_of {C : Addr} {m q : Str} {st : Stmt} {N ps : List Str} {k : Nat} {sp : Sp} (D : Dm K C m q st ps) (S : FnScope N ps (defScope st)) (len : ∀ vs H Q E, sp vs H Q E → vs.length = ps.length)
    (hbody : ∀ (f : Addr) (cdv : Value) (A : Around) (outer : List Env) (s : Shared) (H : Hp) (vs : List V) (Q : VK) (E : XK), Room k (A.deeper (envOfC q (defScope st) s.heap.objs.size f cdv)) → sp vs H Q E →
      ∃ t, PSs (cxOf CX0 P w K mg base N q (defScope st) f cdv A outer s H E) (defBody st) t ∧ t { nx := fun _ H' => Q .non H', rt := Q } (start N vs) H) : MetC P w K mg base C m (k + 1) ps sp := by
  obtain ⟨f, fd, F, hm, b⟩ := D.ex
  obtain ⟨oc, od, kV, doc, pm, an, cdv, ct, osl, rfl, lk, hcd⟩ := F.ex
  exact ⟨f, _, fn_of lk hcd S len fun A outer s H vs Q E hr h => hbody f cdv A outer s H vs Q E hr h, hm, b⟩
/-- __init__, as the top has left it -/
structure Di (K : PySem.W.Frag) (C : Addr) (q : Str) (st : Stmt) (ps : List Str) : Prop where
  ex : ∃ (f : Addr) (fd : FuncData), Fun K "__init__" q st f fd ∧ Mk K C f ∧ Binds K fd ps []
theorem mak_of {C : Addr} {q : Str} {st : Stmt} {N ps : List Str} {k : Nat} {sp : Sp} (D : Di K C q st ps) (S : FnScope N ps (defScope st)) (len : ∀ vs H Q E, sp vs H Q E → vs.length = ps.length)
    (hbody : ∀ (f : Addr) (cdv : Value) (A : Around) (outer : List Env) (s : Shared) (H : Hp) (vs : List V) (Q : VK) (E : XK), Room k (A.deeper (envOfC q (defScope st) s.heap.objs.size f cdv)) → sp vs H Q E →
      ∃ t, PSs (cxOf (L2N.CX P w) P w K mg base N q (defScope st) f cdv A outer s H E) (defBody st) t ∧ t { nx := fun _ H' => Q .non H', rt := Q } (start N vs) H) : MakX P w K mg base C (k + 1) ps sp := by
  obtain ⟨f, fd, F, hm, b⟩ := D.ex
  obtain ⟨oc, od, kV, doc, pm, an, cdv, ct, osl, rfl, lk, hcd⟩ := F.ex
  exact ⟨f, _, fn_of lk hcd S len fun A outer s H vs Q E hr h => hbody f cdv A outer s H vs Q E hr h, hm, b⟩
/-- an own error that is made of a text alone -/
structure PlainX (K : PySem.W.Frag) (C : Addr) : Prop where
  ex : PySem.W.excIn K C [.type "ValueError", .type "Exception", .type "BaseException", .type "object"] "ValueError.__new__" = true
  kp : PySem.W.keepIn K (.ref C) = true
  sb : PySem.W.subIn K (.ref C) (.type "BaseException") = some true
  ty : PySem.W.typeIn K (.ref C) = some (.type "type")
end
end Ik

/-! ### an inn as it stands in the heap -/
namespace Ik
open PySem PySem.Spec PyProof.Rows L2 Evl
structure InnT (K : PySem.W.Frag) (mg : Str → Option Value) where
  a : Addr
  g : mg "Inn" = some (.ref a)
  cl : Cls K a
  n1 : NoAttr K a "_counts"
  n2 : NoAttr K a "_stays"
  n3 : NoAttr K a "_shut"
  n4 : NoAttr K a "_next_stay"
  n5 : NoAttr K a "_next_shut"
  n6 : NoAttr K a "_past"
structure Plains (K : PySem.W.Frag) (mg : Str → Option Value) (EX : Ecs K mg) : Prop where
  BadHouse : PlainX K EX.a_BadHouse
  BadSpan : PlainX K EX.a_BadSpan
  NoPromise : PlainX K EX.a_NoPromise
  NoClosing : PlainX K EX.a_NoClosing
  NoWayBack : PlainX K EX.a_NoWayBack
def flds (a d c : Addr) (n k : Int) (p : Addr) : List (Str × V) := [("_counts", .ref a), ("_stays", .ref d), ("_shut", .ref c), ("_next_stay", .int n), ("_next_shut", .int k), ("_past", .ref p)]
theorem put_stays {a d d' c p : Addr} {n k : Int} : putF "_stays" (.ref d') (flds a d c n k p) = flds a d' c n k p := by rfl
theorem put_shut {a d c c' p : Addr} {n k : Int} : putF "_shut" (.ref c') (flds a d c n k p) = flds a d c' n k p := by rfl
theorem put_next_stay {a d c p : Addr} {n n' k : Int} : putF "_next_stay" (.int n') (flds a d c n k p) = flds a d c n' k p := by rfl
theorem put_next_shut {a d c p : Addr} {n k k' : Int} : putF "_next_shut" (.int k') (flds a d c n k p) = flds a d c n k' p := by rfl
structure InnS where
  o : Addr
  dx : Addr
  a : Addr
  d : Addr
  c : Addr
  p : Addr
  cs : List Int
  l : List Ent
  m : List Ent
  n : Int
  k : Int
  ps : List V
structure InnAt (C : Addr) (H : Hp) (S : InnS) : Prop where
  ob : H S.o = some (.ins C S.dx (flds S.a S.d S.c S.n S.k S.p))
  ct : H S.a = some (.lst (S.cs.map V.int))
  st : Sps H S.d S.l
  sh : Sps H S.c S.m
  pt : H S.p = some (.lst S.ps)
  ap : S.a ≠ S.p
/-- all stays but the inn at o, its past at p, and tables -/
structure Kp (T : List (Addr × Str)) (o p : Addr) (H H' : Hp) : Prop where
  k : ∀ b ob, H b = some ob → b ≠ o → b ≠ p → (∀ xs, ob ≠ .tbl xs) → H' b = some ob
  t : LamX.Tabs T H → LamX.Tabs T H'
section
variable {T : List (Addr × Str)} {o p q : Addr} {H H' H'' : Hp} {C dx : Addr} {S : InnS}
theorem Kp.refl : Kp T o p H H := ⟨fun _ _ h _ _ _ => h, id⟩
theorem Kp.trans (x : Kp T o p H H') (y : Kp T o p H' H'') : Kp T o p H H'' := ⟨fun b ob h h1 h2 h3 => y.k b ob (x.k b ob h h1 h2 h3) h1 h2 h3, fun t => y.t (x.t t)⟩
theorem Kp.ex (e : Ex H H') : Kp T o p H H' := ⟨fun b ob h _ _ _ => e _ _ h, fun t => Tabs.ex t e⟩
theorem Kp.extN (e : LamX.ExtN H H') (t : LamX.Tabs T H') : Kp T o p H H' := ⟨fun b ob h _ _ n => e _ _ h n, fun _ => t⟩
theorem Kp.setO {fs fs' : List (Str × V)} (h : H o = some (.ins C dx fs)) : Kp T o p H (upd H o (.ins C dx fs')) := ⟨fun b ob hb h1 _ _ => by rw [upd_ne h1]; exact hb, fun t => Tabs.mut t h (fun _ z => nomatch z) (fun _ _ z => nomatch z)⟩
theorem Kp.setP {xs ys : List V} (h : H p = some (.lst xs)) : Kp T o p H (upd H p (.lst ys)) := ⟨fun b ob hb _ h1 _ => by rw [upd_ne h1]; exact hb, fun t => Tabs.mut t h (fun _ z => nomatch z) (fun _ _ z => nomatch z)⟩
theorem InnAt.ex (I : InnAt C H S) (e : Ex H H') : InnAt C H' S := ⟨e _ _ I.ob, e _ _ I.ct, I.st.mono e, I.sh.mono e, e _ _ I.pt, I.ap⟩
theorem InnAt.extN (I : InnAt C H S) (e : LamX.ExtN H H') : InnAt C H' S := ⟨e _ _ I.ob (fun _ z => nomatch z), e _ _ I.ct (fun _ z => nomatch z), sps_extN I.st e, sps_extN I.sh e, e _ _ I.pt (fun _ z => nomatch z), I.ap⟩
theorem Kp.sps {d' : Addr} {l' : List Ent} (x : Kp T S.o S.p H H') (I : InnAt C H S) (Z : Sps H d' l') : Sps H' d' l' :=
  ⟨x.k _ _ Z.dc (ne_of Z.dc I.ob fun z => nomatch z) (ne_of Z.dc I.pt fun z => nomatch z) (fun _ z => nomatch z), fun e he => x.k _ _ (Z.tp e he) (ne_of (Z.tp e he) I.ob fun z => nomatch z) (ne_of (Z.tp e he) I.pt fun z => nomatch z) (fun _ z => nomatch z), Z.nd⟩
theorem Kp.tup {t : Addr} {xs : List V} (x : Kp T S.o S.p H H') (I : InnAt C H S) (h : H t = some (.tup xs)) : H' t = some (.tup xs) := x.k _ _ h (ne_of h I.ob fun z => nomatch z) (ne_of h I.pt fun z => nomatch z) (fun _ z => nomatch z)
/-- the past grows, or shrinks -/
theorem InnAt.past (I : InnAt C H S) (ys : List V) : InnAt C (upd H S.p (.lst ys)) { S with ps := ys } := by
  have x : Kp [] S.o S.p H (upd H S.p (.lst ys)) := Kp.setP I.pt
  have np : S.o ≠ S.p := ne_of I.ob I.pt fun z => nomatch z
  exact ⟨by show upd H S.p _ S.o = _; rw [upd_ne np]; exact I.ob, by show upd H S.p _ S.a = _; rw [upd_ne I.ap]; exact I.ct, x.sps I I.st, x.sps I I.sh, upd_same, I.ap⟩
theorem InnAt.put {d' c' : Addr} {l' m' : List Ent} {n' k' : Int} (I : InnAt C H S) (Z : Sps H d' l') (M : Sps H c' m') : InnAt C (upd H S.o (.ins C S.dx (flds S.a d' c' n' k' S.p))) { S with d := d', c := c', l := l', m := m', n := n', k := k' } := by
  have x : Kp [] S.o S.p H (upd H S.o (.ins C S.dx (flds S.a d' c' n' k' S.p))) := Kp.setO I.ob
  have np : S.p ≠ S.o := ne_of I.pt I.ob fun z => nomatch z
  have na : S.a ≠ S.o := ne_of I.ct I.ob fun z => nomatch z
  exact ⟨upd_same, by show upd H S.o _ S.a = _; rw [upd_ne na]; exact I.ct, x.sps I Z, x.sps I M, by show upd H S.o _ S.p = _; rw [upd_ne np]; exact I.pt, I.ap⟩
end
section
variable {K : PySem.W.Frag} {σ : L2.St} {H : Hp} {te ta td tk tv : TE} {t : TA} {o C dx : Addr} {f : Str} {fs : List (Str × V)} {v : V} {D : Ends} {tz : TS} {W : WX} {sp : Sp} {vs : List V} {mm : Str}
theorem ev_fld (h : Ev te σ H (.ref o)) (ho : H o = some (.ins C dx fs)) (c : Cls K C) (n : NoAttr K C f) (hl : fs.lookup f = some v) : Ev (tFld K te f) σ H v := fun H1 e Q q => h H1 e _ fun H2 e2 => ⟨o, C, dx, fs, v, rfl, (e.trans e2) _ _ ho, c, n, hl, q H2 e2⟩
/-- a method call, whatever it does -/
theorem mx_run (h : Ev te σ H (.ref o)) (ho : H o = some (.ins C dx fs)) (hl : fs.lookup mm = none) (ha : EvA t σ H vs) {Q : VK} (k : ∀ H1, Ex H H1 → sp (.ref o :: vs) H1 Q (WE W σ)) : L2N.tMethS C mm sp (WE W) te t σ H Q :=
  h H (Ex.refl H) _ fun H1 e1 => ⟨o, dx, fs, rfl, e1 _ _ ho, hl, ha H1 e1 _ fun H2 e2 => k H2 (e1.trans e2)⟩
theorem mc_run (h : Ev te σ H (.ref o)) (ho : H o = some (.ins C dx fs)) (hl : fs.lookup mm = none) (ha : EvA t σ H vs) {Q : VK} {E : XK} (k : ∀ H1, Ex H H1 → sp (.ref o :: (vs ++ [])) H1 Q E) : tMeth C mm sp [] E te t σ H Q :=
  h H (Ex.refl H) _ fun H1 e1 => ⟨o, dx, fs, rfl, e1 _ _ ho, hl, ha H1 e1 _ fun H2 e2 => k H2 (e1.trans e2)⟩
theorem q_dropR (h : te σ H fun _ H1 => tz D σ H1) : tSeq (tDrop te) tz D σ H := h
theorem s_dropR (h : te σ H fun _ H1 => D.nx σ H1) : tDrop te D σ H := h
theorem q_fld (hv : Ev tv σ H v) (h : Ev te σ H (.ref o)) (ho : H o = some (.ins C dx fs)) (c : Cls K C) (n : NoAttr K C f) (hz : fs.length < 1000) (k : ∀ H1, Ex H H1 → tz D σ (upd H1 o (.ins C dx (putF f v fs)))) : tSeq (sFld K te tv f) tz D σ H :=
  hv H (Ex.refl H) _ fun H1 e1 => h H1 e1 _ fun H2 e2 => ⟨o, C, dx, fs, rfl, (e1.trans e2) _ _ ho, c, n, hz, k H2 (e1.trans e2)⟩
theorem s_fld (hv : Ev tv σ H v) (h : Ev te σ H (.ref o)) (ho : H o = some (.ins C dx fs)) (c : Cls K C) (n : NoAttr K C f) (hz : fs.length < 1000) (k : ∀ H1, Ex H H1 → D.nx σ (upd H1 o (.ins C dx (putF f v fs)))) : sFld K te tv f D σ H :=
  hv H (Ex.refl H) _ fun H1 e1 => h H1 e1 _ fun H2 e2 => ⟨o, C, dx, fs, rfl, (e1.trans e2) _ _ ho, c, n, hz, k H2 (e1.trans e2)⟩
theorem s_fldD {kvs : List (Key × V)} (hv : EvD tv σ H kvs) (h : Ev te σ H (.ref o)) (ho : H o = some (.ins C dx fs)) (c : Cls K C) (n : NoAttr K C f) (hz : fs.length < 1000) (k : ∀ q H1, H q = none → Ex H H1 → H1 q = some (.dK kvs) → D.nx σ (upd H1 o (.ins C dx (putF f (.ref q) fs)))) : sFld K te tv f D σ H :=
  hv H (Ex.refl H) _ fun q H1 hq e1 g1 => h H1 e1 _ fun H2 e2 => ⟨o, C, dx, fs, rfl, (e1.trans e2) _ _ ho, c, n, hz, k q H2 hq (e1.trans e2) (e2 _ _ g1)⟩
theorem q_fldD {kvs : List (Key × V)} (hv : EvD tv σ H kvs) (h : Ev te σ H (.ref o)) (ho : H o = some (.ins C dx fs)) (c : Cls K C) (n : NoAttr K C f) (hz : fs.length < 1000) (k : ∀ q H1, H q = none → Ex H H1 → H1 q = some (.dK kvs) → tz D σ (upd H1 o (.ins C dx (putF f (.ref q) fs)))) : tSeq (sFld K te tv f) tz D σ H :=
  s_fldD (D := { D with nx := tz D }) hv h ho c n hz k
theorem q_fldL {xs : List V} (hv : EvL tv σ H xs) (h : Ev te σ H (.ref o)) (ho : H o = some (.ins C dx fs)) (c : Cls K C) (n : NoAttr K C f) (hz : fs.length < 1000) (k : ∀ q H1, H q = none → Ex H H1 → H1 q = some (.lst xs) → tz D σ (upd H1 o (.ins C dx (putF f (.ref q) fs)))) : tSeq (sFld K te tv f) tz D σ H :=
  hv H (Ex.refl H) _ fun q H1 hq e1 g1 => h H1 e1 _ fun H2 e2 => ⟨o, C, dx, fs, rfl, (e1.trans e2) _ _ ho, c, n, hz, k q H2 hq (e1.trans e2) (e2 _ _ g1)⟩
theorem s_fldL {xs : List V} (hv : EvL tv σ H xs) (h : Ev te σ H (.ref o)) (ho : H o = some (.ins C dx fs)) (c : Cls K C) (n : NoAttr K C f) (hz : fs.length < 1000) (k : ∀ q H1, H q = none → Ex H H1 → H1 q = some (.lst xs) → D.nx σ (upd H1 o (.ins C dx (putF f (.ref q) fs)))) : sFld K te tv f D σ H :=
  hv H (Ex.refl H) _ fun q H1 hq e1 g1 => h H1 e1 _ fun H2 e2 => ⟨o, C, dx, fs, rfl, (e1.trans e2) _ _ ho, c, n, hz, k q H2 hq (e1.trans e2) (e2 _ _ g1)⟩
/-- {**d, n: (..)}, d empty -/
theorem q_asgStar {i : Nat} {d : Addr} {n : Int} {xs : List V} (hd : Ev td σ H (.ref d)) (hn : Ev tk σ H (.int n)) (hx : EvU tv σ H xs) (h0 : H d = some (.dK [])) (k : ∀ q t H1, Ex H H1 → H q = none → H t = none → H1 q = some (.dK [((Sum.inl n : Key), V.ref t)]) → H1 t = some (.tup xs) → tz D (σ.set i (some (.ref q))) H1) :
    tSeq (tAsg (tDStar td tk tv) (gName i)) tz D σ H := by
  intro dn hdn
  refine hd _ (Ex.new hdn) _ fun H1 e1 => ?_
  have e01 := (Ex.new (o := .dK []) hdn).trans e1
  have g1 := e1 _ _ (upd_same (H := H) (a := dn) (o := .dK []))
  have ne : dn ≠ d := fun z => by
    rw [← z, hdn] at h0
    cases h0
  refine ⟨d, [], rfl, ne, e01 _ _ h0, g1, Nat.zero_le _, fun q hq => ?_⟩
  have nq : dn ≠ q := fun z => by
    rw [← z, upd_same] at hq
    cases hq
  rw [upd_ne nq.symm] at hq
  have hq0 := fresh_back e01 hq
  have e2 : Ex H (upd (upd H1 dn (.dK (mergeK [] []))) q (.dK [])) := Ex.mut (Ex.mut e01 hdn) hq0
  refine hn _ e2 _ fun H3 e3 => ?_
  refine hx _ (e2.trans e3) _ fun t H4 ht e4 g4 => ?_
  have g4q := (e3.trans e4) _ _ (upd_same (H := upd H1 dn (.dK (mergeK [] []))) (a := q) (o := .dK []))
  have g4d := (e3.trans e4) dn (.dK []) (by rw [upd_ne nq, upd_same]; rfl)
  have t1 : t ≠ q := ne_of g4 g4q fun z => nomatch z
  have t2 : t ≠ dn := ne_of g4 g4d fun z => nomatch z
  have e05 := (e2.trans e3).trans e4
  refine ⟨Sum.inl n, .ref t, rfl, g4q, g4d, nq, ?_⟩
  refine k dn t _ (Ex.mut (Ex.mut e05 hq0) hdn) hdn (fresh_back (e2.trans e3) ht) upd_same ?_
  rw [upd_ne t2, upd_ne t1]
  exact g4
/-- a comprehension over what a call gives, the call with effects -/
theorem lc_run {tl tx : TE} {tt : TT} {g : TG} {ns : List Nat} {Q : VK} (h : tl σ H fun x H1 => tLc (iList K (tC x)) g tt tx ns σ H1 Q) : tLc (iList K tl) g tt tx ns σ H Q := h
end
/-! ### texts of errors -/
def EvJ (ts : List TE) (σ : L2.St) (H : Hp) (n : Nat) : Prop := ∀ acc : Str, acc.length + n ≤ 100000 → ∀ H1, Ex H H1 → ∀ Q : Str → Hp → Prop, (∀ out H2, Ex H1 H2 → Q out H2) → tJs ts acc σ H1 Q
section
variable {σ : L2.St} {H : Hp} {te : TE} {ts : List TE} {n : Nat}
theorem j_nil : EvJ [] σ H 0 := fun acc _ H1 _ Q q => q acc H1 (Ex.refl _)
theorem j_str {x : Str} (hx : x.length ≤ 100) (r : EvJ ts σ H n) : EvJ (tC (.str x) :: ts) σ H (n + 100) := fun acc ha H1 e Q q => by
  have hl : (acc ++ x).length = acc.length + x.length := Str.length_append _ _
  exact ⟨x, rfl, sz_of (by omega), r (acc ++ x) (by omega) H1 e Q q⟩
theorem j_int {i : Int} (h : Ev te σ H (.int i)) (hi : i.natAbs < 10 ^ 40) (r : EvJ ts σ H n) : EvJ (tFmt te :: ts) σ H (n + 100) := fun acc ha H1 e Q q => h H1 e _ fun H2 e2 => by
  have h1 : (toString i).length ≤ 41 := int_text_length_le10 (by decide) hi
  have hl : (acc ++ (Str.ofString (toString i))).length = acc.length + (Str.ofString (toString i)).length := Str.length_append _ _
  rw [PySem.ofString_length] at hl
  have h2 : i.natAbs.log2 < 1920 := by
    by_cases hz : i.natAbs = 0
    · rw [hz]
      decide
    · refine (Nat.log2_lt hz).mpr (Nat.lt_trans hi ?_)
      exact Nat.lt_of_lt_of_le (show (10 : Nat) ^ 40 < 2 ^ 140 by decide) (Nat.pow_le_pow_right (by decide) (by decide))
  exact .inr ⟨i, rfl, h2, _, rfl, sz_of (by omega), r _ (by omega) H2 (e.trans e2) Q fun out H3 e3 => q out H3 (e2.trans e3)⟩
theorem js_run (h : EvJ ts σ H n) (hn : n ≤ 90000) {Q : Hp → Prop} (k : ∀ H1, Ex H H1 → Q H1) : tJs ts Str.empty σ H (fun out H1 => ∃ m, [V.str out] = [V.str m] ∧ Q H1) :=
  h Str.empty (by show 0 + n ≤ 100000; omega) H (Ex.refl _) _ fun out H2 e2 => ⟨out, rfl, k H2 e2⟩
end
end Ik

namespace Ik
open PySem PySem.Spec PyProof.Rows L2 Evl
open L2H (cr_sumH cr_allH pe_lcH pix_range1 pix_list)
/-! ### the inn's methods -/
def sm (i : Int) : Prop := i.natAbs < 10 ^ 40
def snap (S : InnS) : HO := .tup [.ref S.d, .ref S.c, .int S.n, .int S.k]
def sp_check_span {K : PySem.W.Frag} {mg : Str → Option Value} (EX : Ecs K mg) (C : Addr) : Sp := fun vs H Q E => ∃ (S : InnS) (f l k : Int), vs = [.ref S.o, .int f, .int l, .int k] ∧ InnAt C H S ∧ sm f ∧ sm l ∧ sm k ∧
  ((isSpan S.cs f l k = true ∧ RetV .non H Q) ∨ (isSpan S.cs f l k = false ∧ ∀ H', Ex H H' → E (.ref EX.a_BadSpan) none H'))
def sp_check_needs (C : Addr) : Sp := fun vs H Q _ => ∃ (S : InnS) (c d : Addr) (m l : List Ent), vs = [.ref S.o, .ref c, .ref d] ∧ InnAt C H S ∧ Sps H c m ∧ Sps H d l ∧ Both S.cs m l ∧ firstN (nightP S.cs m l) = none ∧ RetV .non H Q
def sp_remember (C : Addr) : Sp := fun vs H Q _ => ∃ (S : InnS), vs = [.ref S.o] ∧ InnAt C H S ∧ S.ps.length ≤ 1000 ∧ ∀ t H', Ex H H' → H t = none → H' t = some (snap S) → Q .non (upd H' S.p (.lst (S.ps ++ [.ref t])))
/-- a deed is done: the new inn, what was remembered -/
def Done (C : Addr) (T : List (Addr × Str)) (H : Hp) (S S' : InnS) (t : Addr) (H' : Hp) : Prop := InnAt C H' S' ∧ Kp T S.o S.p H H' ∧ H' t = some (snap S)
def ent (n f l k : Int) (t : Addr) : Ent := ⟨n, f, l, k, t⟩
def sp_promise {K : PySem.W.Frag} {mg : Str → Option Value} (EX : Ecs K mg) (C : Addr) (T : List (Addr × Str)) : Sp := fun vs H Q E => ∃ (S : InnS) (f l k : Int), vs = [.ref S.o, .int f, .int l, .int k] ∧ InnAt C H S ∧ sm f ∧ sm l ∧ sm k ∧
  ((isSpan S.cs f l k = false ∧ ∀ H', Ex H H' → E (.ref EX.a_BadSpan) none H') ∨
   (isSpan S.cs f l k = true ∧ S.l = [] ∧ S.ps.length ≤ 1000 ∧ (∀ t, Both S.cs S.m [ent S.n f l k t]) ∧ (∀ t, firstN (nightP S.cs S.m [ent S.n f l k t]) = none) ∧
     ∀ d' t t0 H', Done C T H S { S with d := d', l := [ent S.n f l k t], n := S.n + 1, ps := S.ps ++ [.ref t0] } t0 H' → Q (.int S.n) H'))
def sp_close {K : PySem.W.Frag} {mg : Str → Option Value} (EX : Ecs K mg) (C : Addr) (T : List (Addr × Str)) : Sp := fun vs H Q E => ∃ (S : InnS) (f l k : Int), vs = [.ref S.o, .int f, .int l, .int k] ∧ InnAt C H S ∧ sm f ∧ sm l ∧ sm k ∧
  ((isSpan S.cs f l k = false ∧ ∀ H', Ex H H' → E (.ref EX.a_BadSpan) none H') ∨
   (isSpan S.cs f l k = true ∧ S.m = [] ∧ S.ps.length ≤ 1000 ∧ (∀ t, Both S.cs [ent S.k f l k t] S.l) ∧ (∀ t, firstN (nightP S.cs [ent S.k f l k t] S.l) = none) ∧
     ∀ c' t t0 H', Done C T H S { S with c := c', m := [ent S.k f l k t], k := S.k + 1, ps := S.ps ++ [.ref t0] } t0 H' → Q (.int S.k) H'))
def sp_drop {K : PySem.W.Frag} {mg : Str → Option Value} (EX : Ecs K mg) (C : Addr) (T : List (Addr × Str)) : Sp := fun vs H Q E => ∃ (S : InnS) (x : Int), vs = [.ref S.o, .int x] ∧ InnAt C H S ∧ sm x ∧
  ((S.l = [] ∧ ∀ H', Ex H H' → E (.ref EX.a_NoPromise) none H') ∨
   ((∃ e, S.l = [e] ∧ e.num = x) ∧ S.ps.length ≤ 1000 ∧ ∀ d' t0 H', Done C T H S { S with d := d', l := [], ps := S.ps ++ [.ref t0] } t0 H' → Q .non H'))
def sp_reopen {K : PySem.W.Frag} {mg : Str → Option Value} (EX : Ecs K mg) (C : Addr) (T : List (Addr × Str)) : Sp := fun vs H Q E => ∃ (S : InnS) (x : Int), vs = [.ref S.o, .int x] ∧ InnAt C H S ∧ sm x ∧
  ((S.m = [] ∧ ∀ H', Ex H H' → E (.ref EX.a_NoClosing) none H') ∨
   ((∃ e, S.m = [e] ∧ e.num = x) ∧ S.ps.length ≤ 1000 ∧ ∀ c' t0 H', Done C T H S { S with c := c', m := [], ps := S.ps ++ [.ref t0] } t0 H' → Q .non H'))
def sp_undo {K : PySem.W.Frag} {mg : Str → Option Value} (EX : Ecs K mg) (C : Addr) (T : List (Addr × Str)) : Sp := fun vs H Q E => ∃ (S : InnS), vs = [.ref S.o] ∧ InnAt C H S ∧
  ((S.ps = [] ∧ ∀ H', Ex H H' → E (.ref EX.a_NoWayBack) none H') ∨
   (∃ (Z : InnS) (t : Addr), S.ps = Z.ps ++ [.ref t] ∧ H t = some (snap Z) ∧ Sps H Z.d Z.l ∧ Sps H Z.c Z.m ∧ ∀ H', InnAt C H' { S with d := Z.d, c := Z.c, l := Z.l, m := Z.m, n := Z.n, k := Z.k, ps := Z.ps } → Kp T S.o S.p H H' → Q .non H'))
def sp_promises (C : Addr) : Sp := fun vs H Q _ => ∃ (S : InnS), vs = [.ref S.o] ∧ InnAt C H S ∧ RetD (S.l.map Ent.kv) H Q
def sp_closings (C : Addr) : Sp := fun vs H Q _ => ∃ (S : InnS), vs = [.ref S.o] ∧ InnAt C H S ∧ RetD (S.m.map Ent.kv) H Q
def sp_nights (C : Addr) (T : List (Addr × Str)) : Sp := fun vs H Q _ => ∃ (S : InnS), vs = [.ref S.o] ∧ InnAt C H S ∧ Both S.cs S.m S.l ∧ LamX.Tabs T H ∧ firstN (nightP S.cs S.m S.l) = none ∧
  ∀ (p : Addr) (H' : Hp) (ts : List Q4), LamX.ExtN H H' → LamX.Tabs T H' → H' p = some (.lst (ts.map fun q => V.ref q.1)) → ts.length = (lastN S.l).toNat → (∀ i q, ts[i]? = some q → NightT H H' S.cs S.m S.l i q) → Q (.ref p) H'
def sp_rooms_for {K : PySem.W.Frag} {mg : Str → Option Value} (EX : Ecs K mg) (C : Addr) (T : List (Addr × Str)) : Sp := fun vs H Q E => ∃ (S : InnS) (x : Int), vs = [.ref S.o, .int x] ∧ InnAt C H S ∧ sm x ∧
  ((S.l = [] ∧ ∀ H', Ex H H' → E (.ref EX.a_NoPromise) none H') ∨
   (∃ e, S.l = [e] ∧ e.num = x ∧ e.first = 0 ∧ Both S.cs S.m S.l ∧ LamX.Tabs T H ∧ firstN (nightP S.cs S.m S.l) = none ∧
     ∀ (q : Addr) (H' : Hp) (rs : List Int), LamX.ExtN H H' → LamX.Tabs T H' → H' q = some (.lst (rs.map V.int)) → rs.length = e.last.toNat → Q (.ref q) H'))
def sp_init {K : PySem.W.Frag} {mg : Str → Option Value} (EX : Ecs K mg) (C : Addr) : Sp := fun vs H Q E => ∃ (o dx b : Addr) (cs : List Int), vs = [.ref o, .ref b] ∧ H o = some (.ins C dx []) ∧ SqL K H b (cs.map V.int) ∧ cs.length ≤ 1000 ∧
  ((isHouse cs = true ∧ ∀ a d c p H', InnAt C H' ⟨o, dx, a, d, c, p, cs, [], [], 0, 0, []⟩ → (∀ b ob, H b = some ob → b ≠ o → H' b = some ob) → Q .non H') ∨ (isHouse cs = false ∧ ∀ H', Ex H H' → E (.ref EX.a_BadHouse) none H'))
section
variable {P : Program} {w : World} {K : PySem.W.Frag} {mg : Str → Option Value} {base : Heap}
theorem met_check_span (IT : InnT K mg) (D : Dm K IT.a "_check_span" "Inn._check_span" s_Inn__check_span ["self", "first", "last", "kind"]) (T : Tp mg) (EX : Ecs K mg) (XP : Plains K mg EX) (C_is_span : Cal P w K mg base "is_span" 1 ["counts", "first", "last", "kind"] (sp_is_span K)) :
    MetX P w K mg base IT.a "_check_span" 2 ["self", "first", "last", "kind"] (sp_check_span EX IT.a) := by
  refine met_ofX D sc_Inn__check_span (fun vs H Q E h => ?_) (fun f cdv A outer s H vs Q E hr h => ?_)
  · obtain ⟨S, f, l, k, rfl, _⟩ := h
    rfl
  · obtain ⟨S, f, l, k, rfl, I, hf, hl, hk, h⟩ := h
    refine ⟨_, (pss_one (ps_if (pt_not (pt_val (pe_cal C_is_span (hr.mono (by decide)) (by rfl) (pa_cons (pe_fldK (K := K) rfl (pv 0) (by rfl)) (pa_cons (pv 1) (pa_cons (pv 2) (pa_cons (pv 3) pa_nil))))))) (pss_one (L2N.ps_raise (by rfl) takesOf (L2N.pmk_ownE PySem.F.excBase_ValueError XP.BadSpan.ex EX.g_BadSpan XP.BadSpan.kp (raises_own XP.BadSpan.sb XP.BadSpan.ty) (by rfl) (pe_joined (PJ.cons pe_str (PJ.cons (pe_fmt (pv 1)) (PJ.cons pe_str (PJ.cons (pe_fmt (pv 2)) (PJ.cons pe_str (PJ.cons (pe_fmt (pv 3)) (PJ.cons pe_str PJ.nil))))))))))) pss_nil)), ?_⟩
    refine s_when (b := !isSpan S.cs f l k) (et_not (et_B (ev_call0 (ea_cons (ev_fld (ev_var rfl) I.ob IT.cl IT.n1 rfl) (ea_3 (ev_var rfl) (ev_var rfl) (ev_var rfl))) (v_is_span (sq_of I.ct) f l k)))) (fun hb H1 e1 => ?_) (fun hb H1 e1 => ?_)
    · rcases h with ⟨h1, _⟩ | ⟨_, h2⟩
      · rw [h1] at hb
        cases hb
      · exact js_run (j_str (by decide +kernel) (j_int (ev_var rfl) hf (j_str (by decide +kernel) (j_int (ev_var rfl) hl (j_str (by decide +kernel) (j_int (ev_var rfl) hk (j_str (by decide +kernel) j_nil))))))) (by decide) fun H2 e2 => h2 _ (e1.trans e2)
    · rcases h with ⟨_, h2⟩ | ⟨h1, _⟩
      · exact h2 _ e1
      · rw [h1] at hb
        cases hb
theorem met_check_needs (IT : InnT K mg) (D : Dm K IT.a "_check_needs" "Inn._check_needs" s_Inn__check_needs ["self", "shut", "stays"]) (T : Tp mg) (EX : Ecs K mg) (C_short_night : Cal P w K mg base "short_night" 4 ["counts", "closings", "stays"] (sp_short_night K)) :
    MetX P w K mg base IT.a "_check_needs" 5 ["self", "shut", "stays"] (sp_check_needs IT.a) := by
  refine met_ofX D sc_Inn__check_needs (fun vs H Q E h => ?_) (fun f cdv A outer s H vs Q E hr h => ?_)
  · obtain ⟨S, c, d, m, l, rfl, _⟩ := h
    rfl
  · obtain ⟨S, c, d, m, l, rfl, I, M, L, B, hf, k⟩ := h
    refine ⟨_, (pss_cons (ps_set (i := 3) sc_Inn__check_needs.nd rfl (.inl rfl) (pe_cal C_short_night (hr.mono (by decide)) (by rfl) (pa_cons (pe_fldK (K := K) rfl (pv 0) (by rfl)) (pa_cons (pv 1) (pa_cons (pv 2) pa_nil))))) (pss_one (ps_if (pt_cmpR op_notN (pv 3) pe_non (nomark _)) (pss_cons (ps_asg (pv 3) (pg_tup rfl (pgs_cons (pg_name (i := 4) sc_Inn__check_needs.nd rfl (.inl rfl)) (pgs_cons (pg_name (i := 5) sc_Inn__check_needs.nd rfl (.inl rfl)) pgs_nil)))) (pss_one ps_dead)) pss_nil))), ?_⟩
    refine q_asg (v := .non) (ev_call0 (ea_3 (ev_fld (ev_var rfl) I.ob IT.cl IT.n1 rfl) (ev_var rfl) (ev_var rfl)) fun H1 e1 Q' q' E' => ⟨S.a, S.cs, c, m, d, l, rfl, sq_of (e1 _ _ I.ct), B.hh, M.mono e1, B.lm, L.mono e1, B.ll, fun v H2 e2 ho => by
      rw [hf] at ho
      have ho : v = .non := ho
      subst ho
      exact q' H2 e2⟩) fun H1 e1 => ?_
    exact s_when (b := false) (et_is (et_test (ev_notN (ev_var rfl))) (by simp)) (fun z => nomatch z) (fun _ H2 e2 => k _ (e1.trans e2))
theorem met_remember (IT : InnT K mg) (D : Dm K IT.a "_remember" "Inn._remember" s_Inn__remember ["self"]) (T : Tp mg) : MetC P w K mg base IT.a "_remember" 1 ["self"] (sp_remember IT.a) := by
  refine met_of D sc_Inn__remember (fun vs H Q E h => ?_) (fun f cdv A outer s H vs Q E hr h => ?_)
  · obtain ⟨S, rfl, _⟩ := h
    rfl
  · obtain ⟨S, rfl, I, hp, k⟩ := h
    refine ⟨_, (pss_one (ps_expr (pe_bm PySem.F.plainAttrs_list PySem.F.slot_list_append PySem.F.type_list_append mt_append (pe_fldK (K := K) rfl (pv 0) (by rfl)) (pa_cons (pe_tup (pa_cons (pe_fldK (K := K) rfl (pv 0) (by rfl)) (pa_cons (pe_fldK (K := K) rfl (pv 0) (by rfl)) (pa_cons (pe_fldK (K := K) rfl (pv 0) (by rfl)) (pa_cons (pe_fldK (K := K) rfl (pv 0) (by rfl)) pa_nil))))) pa_nil)))), ?_⟩
    refine s_appU (xs := S.ps) (ys := [.ref S.d, .ref S.c, .int S.n, .int S.k]) I.pt (ev_fld (ev_var rfl) I.ob IT.cl IT.n6 rfl) (eu_tup (ea_cons (ev_fld (ev_var rfl) I.ob IT.cl IT.n2 rfl) (ea_3 (ev_fld (ev_var rfl) I.ob IT.cl IT.n3 rfl) (ev_fld (ev_var rfl) I.ob IT.cl IT.n4 rfl) (ev_fld (ev_var rfl) I.ob IT.cl IT.n5 rfl))) (by show 4 ≤ 100000; decide)) (by omega) fun t H1 ht e1 g1 => ?_
    exact k t H1 e1 ht g1
theorem met_promises (IT : InnT K mg) (D : Dm K IT.a "promises" "Inn.promises" s_Inn_promises ["self"]) (T : Tp mg) : MetC P w K mg base IT.a "promises" 1 ["self"] (sp_promises IT.a) := by
  refine met_of D sc_Inn_promises (fun vs H Q E h => ?_) (fun f cdv A outer s H vs Q E hr h => ?_)
  · obtain ⟨S, rfl, _⟩ := h
    rfl
  · obtain ⟨S, rfl, I, k⟩ := h
    refine ⟨_, (pss_one (ps_ret (pe_callTy call_dictD (by rfl) T.z_dict (by decide +kernel) (pa_cons (pe_fldK (K := K) rfl (pv 0) (by rfl)) pa_nil)))), ?_⟩
    exact s_retD (ed_copy (ev_fld (ev_var rfl) I.ob IT.cl IT.n2 rfl) I.st.dc) k
theorem met_closings (IT : InnT K mg) (D : Dm K IT.a "closings" "Inn.closings" s_Inn_closings ["self"]) (T : Tp mg) : MetC P w K mg base IT.a "closings" 1 ["self"] (sp_closings IT.a) := by
  refine met_of D sc_Inn_closings (fun vs H Q E h => ?_) (fun f cdv A outer s H vs Q E hr h => ?_)
  · obtain ⟨S, rfl, _⟩ := h
    rfl
  · obtain ⟨S, rfl, I, k⟩ := h
    refine ⟨_, (pss_one (ps_ret (pe_callTy call_dictD (by rfl) T.z_dict (by decide +kernel) (pa_cons (pe_fldK (K := K) rfl (pv 0) (by rfl)) pa_nil)))), ?_⟩
    exact s_retD (ed_copy (ev_fld (ev_var rfl) I.ob IT.cl IT.n3 rfl) I.sh.dc) k
end

/-! ### the inn's deeds -/
section
variable {K : PySem.W.Frag} {σ : L2.St} {H : Hp} {te : TE} {p : Addr} {xs : List V}
theorem et_truL (h : Ev te σ H (.ref p)) (hp : H p = some (.lst xs)) : EvT (fun σ H Q => te σ H fun x H' => ∃ k, TruV K x H' k ∧ Q k H') σ H (!xs.isEmpty) := fun H1 e Q q => h H1 e _ fun H2 e2 => ⟨!xs.isEmpty, .inl ⟨xs, sq_of ((e.trans e2) _ _ hp), rfl⟩, q H2 e2⟩
theorem s_asgR {D : Ends} {r : V → List V → Hp → VK → Prop} {g : TG} {n : String} (h : te σ H fun x H1 => tyV K n x H1 ∧ r x [] H1 fun v H2 => g v σ H2 D.nx) : tAsg (tBM0 K n r te) g D σ H := h
theorem cut_take (xs : List V) (k : Nat) : cutV xs (some ((0 : Nat) : Int)) (some (k : Int)) = xs.take k := by
  unfold cutV
  rw [HT.sIx_nat, HT.sIx_nat, Nat.zero_min, Nat.sub_zero, List.drop_zero]
  by_cases h : k ≤ xs.length
  · rw [Nat.min_eq_left h]
  · rw [Nat.min_eq_right (by omega), List.take_of_length_le (Nat.le_refl _), List.take_of_length_le (by omega)]
end
section
variable {C : Addr} {T : List (Addr × Str)} {H H' H'' : Hp} {S S' : InnS} {t : Addr}
/-- remembered, and all else as it was -/
theorem done_past (I : InnAt C H S) (e : Ex H H') (g : H' t = some (snap S)) : Done C T H S { S with ps := S.ps ++ [.ref t] } t (upd H' S.p (.lst (S.ps ++ [.ref t]))) := by
  have I' := I.ex e
  have x : Kp T S.o S.p H' (upd H' S.p (.lst (S.ps ++ [.ref t]))) := Kp.setP I'.pt
  exact ⟨I'.past _, (Kp.ex e).trans x, x.tup I' g⟩
theorem Done.ex (D : Done C T H S S' t H') (e : Ex H' H'') : Done C T H S S' t H'' := ⟨D.1.ex e, D.2.1.trans (Kp.ex e), e _ _ D.2.2⟩
theorem Done.put {d' c' : Addr} {l' m' : List Ent} {n' k' : Int} (D : Done C T H S S' t H') (ho : S'.o = S.o) (hp : S'.p = S.p) (Z : Sps H' d' l') (M : Sps H' c' m') :
    Done C T H S { S' with d := d', c := c', l := l', m := m', n := n', k := k' } t (upd H' S'.o (.ins C S'.dx (flds S'.a d' c' n' k' S'.p))) := by
  have x : Kp T S'.o S'.p H' (upd H' S'.o (.ins C S'.dx (flds S'.a d' c' n' k' S'.p))) := Kp.setO D.1.ob
  have t' := x.tup D.1 D.2.2
  have x' : Kp T S.o S.p H' (upd H' S'.o (.ins C S'.dx (flds S'.a d' c' n' k' S'.p))) := ⟨fun b ob h h1 h2 h3 => x.k b ob h (by rw [ho]; exact h1) (by rw [hp]; exact h2) h3, x.t⟩
  exact ⟨D.1.put Z M, D.2.1.trans x', t'⟩
end
section
variable {P : Program} {w : World} {K : PySem.W.Frag} {mg : Str → Option Value} {base : Heap}
theorem met_init (IT : InnT K mg) (D : Di K IT.a "Inn.__init__" s_Inn___init__ ["self", "counts"]) (T : Tp mg) (EX : Ecs K mg) (XP : Plains K mg EX) (C_is_house : Cal P w K mg base "is_house" 1 ["counts"] (sp_is_house K)) : MakX P w K mg base IT.a 2 ["self", "counts"] (sp_init EX IT.a) := by
  refine mak_of D sc_Inn___init__ (fun vs H Q E h => ?_) (fun f cdv A outer s H vs Q E hr h => ?_)
  · obtain ⟨o, dx, b, cs, rfl, _⟩ := h
    rfl
  · obtain ⟨o, dx, b, cs, rfl, ho, hS, hl, h⟩ := h
    refine ⟨_, (pss_cons (ps_if (pt_not (pt_val (pe_cal C_is_house (hr.mono (by decide)) (by rfl) (pa_cons (pv 1) pa_nil)))) (pss_one (L2N.ps_raise (by rfl) takesOf (L2N.pmk_own PySem.F.excBase_ValueError XP.BadHouse.ex EX.g_BadHouse XP.BadHouse.kp (raises_own XP.BadHouse.sb XP.BadHouse.ty) (by rfl)))) pss_nil) (pss_cons (ps_fld (pv 0) (pe_callTy (r := rListS K) call_list_of (by rfl) T.z_list (by decide +kernel) (pa_cons (pv 1) pa_nil)) rfl) (pss_cons (ps_fld (pv 0) pe_dnewK rfl) (pss_cons (ps_fld (pv 0) pe_dnewK rfl) (pss_cons (ps_fld (pv 0) pe_int rfl) (pss_cons (ps_fld (pv 0) pe_int rfl) (pss_one (ps_fld (pv 0) (pe_lst pa_nil) rfl)))))))), ?_⟩
    refine q_when (b := !isHouse cs) (et_not (et_B (ev_call0 (ea_1 (ev_var rfl)) (v_is_house hS hl)))) (fun hb H1 e1 => ?_) (fun hb H1 e1 => ?_)
    · rcases h with ⟨h1, _⟩ | ⟨_, h2⟩
      · rw [h1] at hb
        cases hb
      · exact h2 _ e1
    · rcases h with ⟨_, k⟩ | ⟨h1, _⟩
      · have kc : ∀ {H0 H2 : Hp} {b' : Addr} {ob : HO} {fs : List (Str × V)}, Ex H0 H2 → H0 b' = some ob → b' ≠ o → (upd H2 o (.ins IT.a dx fs)) b' = some ob := fun e hb hne => by
          rw [upd_ne hne]
          exact e _ _ hb
        refine q_fldL (el_list (ev_var rfl) (ex_l e1 hS)) (ev_var rfl) (e1 _ _ ho) IT.cl IT.n1 (by show 0 < 1000; decide) fun a H2 ha e2 g2 => ?_
        have na : a ≠ o := (ne_of_none (e1 _ _ ho) ha).symm
        refine q_fldD ed_new (ev_var rfl) upd_same IT.cl IT.n2 (by show 1 < 1000; decide) fun d H3 hd e3 g3 => ?_
        have nd : d ≠ o := (ne_of_none (upd_same) hd).symm
        have k3 : ∀ b' ob, H2 b' = some ob → b' ≠ o → H3 b' = some ob := fun b' ob hb hne => e3 _ _ (by rw [upd_ne hne]; exact hb)
        refine q_fldD ed_new (ev_var rfl) upd_same IT.cl IT.n3 (by show 2 < 1000; decide) fun c H4 hc e4 g4 => ?_
        have nc : c ≠ o := (ne_of_none (upd_same) hc).symm
        have k4 : ∀ b' ob, H3 b' = some ob → b' ≠ o → H4 b' = some ob := fun b' ob hb hne => e4 _ _ (by rw [upd_ne hne]; exact hb)
        refine q_fld ev_c (ev_var rfl) upd_same IT.cl IT.n4 (by show 3 < 1000; decide) fun H5 e5 => ?_
        have k5 : ∀ b' ob, H4 b' = some ob → b' ≠ o → H5 b' = some ob := fun b' ob hb hne => e5 _ _ (by rw [upd_ne hne]; exact hb)
        refine q_fld ev_c (ev_var rfl) upd_same IT.cl IT.n5 (by show 4 < 1000; decide) fun H6 e6 => ?_
        have k6 : ∀ b' ob, H5 b' = some ob → b' ≠ o → H6 b' = some ob := fun b' ob hb hne => e6 _ _ (by rw [upd_ne hne]; exact hb)
        refine s_fldL el_nil (ev_var rfl) upd_same IT.cl IT.n6 (by show 5 < 1000; decide) fun p H7 hp e7 g7 => ?_
        have np : p ≠ o := (ne_of_none (upd_same) hp).symm
        have k7 : ∀ b' ob, H6 b' = some ob → b' ≠ o → H7 b' = some ob := fun b' ob hb hne => e7 _ _ (by rw [upd_ne hne]; exact hb)
        have k8 : ∀ b' ob, H7 b' = some ob → b' ≠ o → ∀ fs, (upd H7 o (.ins IT.a dx fs)) b' = some ob := fun b' ob hb hne fs => by rw [upd_ne hne]; exact hb
        have ga := k7 _ _ (k6 _ _ (k5 _ _ (k4 _ _ (k3 _ _ g2 na) na) na) na) na
        have gd := k7 _ _ (k6 _ _ (k5 _ _ (k4 _ _ g3 nd) nd) nd) nd
        have gc := k7 _ _ (k6 _ _ (k5 _ _ g4 nc) nc) nc
        have nap : a ≠ p := fun z => by
          have w := k6 _ _ (k5 _ _ (k4 _ _ (k3 _ _ g2 na) na) na) na
          rw [z] at w
          rw [upd_ne np, w] at hp
          cases hp
        refine k a d c p _ ⟨upd_same, k8 _ _ ga na _, ⟨k8 _ _ gd nd _, fun _ z => (by cases z), List.nodup_nil⟩, ⟨k8 _ _ gc nc _, fun _ z => (by cases z), List.nodup_nil⟩, k8 _ _ g7 np _, nap⟩ fun b' ob hb hne => ?_
        exact k8 _ _ (k7 _ _ (k6 _ _ (k5 _ _ (k4 _ _ (k3 _ _ (e2 _ _ (e1 _ _ hb)) hne) hne) hne) hne) hne) hne _
      · rw [h1] at hb
        cases hb
theorem met_promise {TT : List (Addr × Str)} (IT : InnT K mg) (D : Dm K IT.a "promise" "Inn.promise" s_Inn_promise ["self", "first", "last", "kind"]) (T : Tp mg) (EX : Ecs K mg) (M_check_span : MetX P w K mg base IT.a "_check_span" 2 ["self", "first", "last", "kind"] (sp_check_span EX IT.a)) (M_check_needs : MetX P w K mg base IT.a "_check_needs" 5 ["self", "shut", "stays"] (sp_check_needs IT.a))
    (N_remember : MetC P w K mg base IT.a "_remember" 1 ["self"] (sp_remember IT.a)) : MetX P w K mg base IT.a "promise" 6 ["self", "first", "last", "kind"] (sp_promise EX IT.a TT) := by
  refine met_ofX D sc_Inn_promise (fun vs H Q E h => ?_) (fun f cdv A outer s H vs Q E hr h => ?_)
  · obtain ⟨S, f, l, k, rfl, _⟩ := h
    rfl
  · obtain ⟨S, f, l, kd, rfl, I, hf, hl, hk, h⟩ := h
    refine ⟨_, (pss_cons (ps_expr (pe_metX M_check_span IT.cl takesOf (hr.mono (by decide)) (pv 0) (pa_cons (pv 1) (pa_cons (pv 2) (pa_cons (pv 3) pa_nil))))) (pss_cons (ps_set (i := 4) sc_Inn_promise.nd rfl (.inl rfl) (pe_fldK (K := K) rfl (pv 0) (by rfl))) (pss_cons (ps_set (i := 5) sc_Inn_promise.nd rfl (.inl rfl) (pe_dstar (pe_fldK (K := K) rfl (pv 0) (by rfl)) (pps_cons (pv 4) (pe_tup (pa_cons (pv 1) (pa_cons (pv 2) (pa_cons (pv 3) pa_nil)))) pps_nil))) (pss_cons (ps_expr (pe_metX M_check_needs IT.cl takesOf (hr.mono (by decide)) (pv 0) (pa_cons (pe_fldK (K := K) rfl (pv 0) (by rfl)) (pa_cons (pv 5) pa_nil)))) (pss_cons (ps_expr (pe_metC0 N_remember IT.cl (hr.mono (by decide)) (pv 0))) (pss_cons (ps_fld (pv 0) (pv 5) rfl) (pss_cons (ps_fld (pv 0) (pe_op op_add (pv 4) pe_int) rfl) (pss_one (ps_ret (pv 4)))))))))), ?_⟩
    refine q_dropR (mx_run (ev_var rfl) I.ob rfl (ea_3 (ev_var rfl) (ev_var rfl) (ev_var rfl)) fun H1 e1 => ?_)
    rcases h with ⟨hs, h⟩ | ⟨hs, hS, hp, hB, hn, k⟩
    · exact ⟨S, f, l, kd, rfl, I.ex e1, hf, hl, hk, .inr ⟨hs, fun H2 e2 => h _ (e1.trans e2)⟩⟩
    · refine ⟨S, f, l, kd, rfl, I.ex e1, hf, hl, hk, .inl ⟨hs, fun H2 e2 => ?_⟩⟩
      have I2 := I.ex (e1.trans e2)
      refine q_asg (ev_fld (ev_var rfl) I2.ob IT.cl IT.n4 rfl) fun H3 e3 => ?_
      have I3 := I2.ex e3
      refine q_asgStar (n := S.n) (ev_fld (ev_var rfl) I3.ob IT.cl IT.n2 rfl) (ev_var rfl) (eu_tup (ea_3 (ev_var rfl) (ev_var rfl) (ev_var rfl)) (by show 3 ≤ 100000; decide)) (by rw [I3.st.dc, hS]; rfl) fun q t H4 e4 hq ht gq gt => ?_
      have I4 := I3.ex e4
      have Z4 : Sps H4 q [ent S.n f l kd t] := ⟨gq, fun e he => by rw [List.mem_singleton.mp he]; exact gt, (by simp)⟩
      refine q_dropR (mx_run (ev_var rfl) I4.ob rfl (ea_2 (ev_fld (ev_var rfl) I4.ob IT.cl IT.n3 rfl) (ev_var rfl)) fun H5 e5 => ?_)
      refine ⟨S, S.c, q, S.m, [ent S.n f l kd t], rfl, I4.ex e5, (I4.ex e5).sh, Z4.mono e5, hB t, hn t, fun H6 e6 => ?_⟩
      have I6 := I4.ex (e5.trans e6)
      refine q_dropR (mc_run (ev_var rfl) I6.ob rfl ea_nil fun H7 e7 => ?_)
      refine ⟨S, rfl, I6.ex e7, hp, fun t0 H8 e8 h0 g0 => ?_⟩
      have e08 : Ex H H8 := ((((((e1.trans e2).trans e3).trans e4).trans e5).trans e6).trans e7).trans e8
      have Dn := done_past (T := TT) I e08 g0
      have x8 : Kp TT S.o S.p H8 (upd H8 S.p (.lst (S.ps ++ [.ref t0]))) := Kp.setP (I.ex e08).pt
      have Z9 := x8.sps (I.ex e08) (Z4.mono (((e5.trans e6).trans e7).trans e8))
      generalize upd H8 S.p (.lst (S.ps ++ [.ref t0])) = H9 at Dn x8 Z9 ⊢
      refine q_fld (ev_var rfl) (ev_var rfl) Dn.1.ob IT.cl IT.n2 (by show 6 < 1000; decide) fun H10 e10 => ?_
      rw [put_stays]
      have Dp := (Dn.ex e10).put (n' := S.n) (k' := S.k) rfl rfl (Z9.mono e10) (Dn.ex e10).1.sh
      refine q_fld (ev_add (ev_var rfl) ev_c) (ev_var rfl) Dp.1.ob IT.cl IT.n4 (by show 6 < 1000; decide) fun H11 e11 => ?_
      rw [put_next_stay]
      have Dq := (Dp.ex e11).put (n' := S.n + 1) (k' := S.k) rfl rfl (Dp.ex e11).1.st (Dp.ex e11).1.sh
      exact s_ret (ev_var rfl) fun H12 e12 => k q t t0 H12 (Dq.ex e12)
theorem met_close {TT : List (Addr × Str)} (IT : InnT K mg) (D : Dm K IT.a "close" "Inn.close" s_Inn_close ["self", "first", "last", "kind"]) (T : Tp mg) (EX : Ecs K mg) (M_check_span : MetX P w K mg base IT.a "_check_span" 2 ["self", "first", "last", "kind"] (sp_check_span EX IT.a)) (M_check_needs : MetX P w K mg base IT.a "_check_needs" 5 ["self", "shut", "stays"] (sp_check_needs IT.a))
    (N_remember : MetC P w K mg base IT.a "_remember" 1 ["self"] (sp_remember IT.a)) : MetX P w K mg base IT.a "close" 6 ["self", "first", "last", "kind"] (sp_close EX IT.a TT) := by
  refine met_ofX D sc_Inn_close (fun vs H Q E h => ?_) (fun f cdv A outer s H vs Q E hr h => ?_)
  · obtain ⟨S, f, l, k, rfl, _⟩ := h
    rfl
  · obtain ⟨S, f, l, kd, rfl, I, hf, hl, hk, h⟩ := h
    refine ⟨_, (pss_cons (ps_expr (pe_metX M_check_span IT.cl takesOf (hr.mono (by decide)) (pv 0) (pa_cons (pv 1) (pa_cons (pv 2) (pa_cons (pv 3) pa_nil))))) (pss_cons (ps_set (i := 4) sc_Inn_close.nd rfl (.inl rfl) (pe_fldK (K := K) rfl (pv 0) (by rfl))) (pss_cons (ps_set (i := 5) sc_Inn_close.nd rfl (.inl rfl) (pe_dstar (pe_fldK (K := K) rfl (pv 0) (by rfl)) (pps_cons (pv 4) (pe_tup (pa_cons (pv 1) (pa_cons (pv 2) (pa_cons (pv 3) pa_nil)))) pps_nil))) (pss_cons (ps_expr (pe_metX M_check_needs IT.cl takesOf (hr.mono (by decide)) (pv 0) (pa_cons (pv 5) (pa_cons (pe_fldK (K := K) rfl (pv 0) (by rfl)) pa_nil)))) (pss_cons (ps_expr (pe_metC0 N_remember IT.cl (hr.mono (by decide)) (pv 0))) (pss_cons (ps_fld (pv 0) (pv 5) rfl) (pss_cons (ps_fld (pv 0) (pe_op op_add (pv 4) pe_int) rfl) (pss_one (ps_ret (pv 4)))))))))), ?_⟩
    refine q_dropR (mx_run (ev_var rfl) I.ob rfl (ea_3 (ev_var rfl) (ev_var rfl) (ev_var rfl)) fun H1 e1 => ?_)
    rcases h with ⟨hs, h⟩ | ⟨hs, hS, hp, hB, hn, k⟩
    · exact ⟨S, f, l, kd, rfl, I.ex e1, hf, hl, hk, .inr ⟨hs, fun H2 e2 => h _ (e1.trans e2)⟩⟩
    · refine ⟨S, f, l, kd, rfl, I.ex e1, hf, hl, hk, .inl ⟨hs, fun H2 e2 => ?_⟩⟩
      have I2 := I.ex (e1.trans e2)
      refine q_asg (ev_fld (ev_var rfl) I2.ob IT.cl IT.n5 rfl) fun H3 e3 => ?_
      have I3 := I2.ex e3
      refine q_asgStar (n := S.k) (ev_fld (ev_var rfl) I3.ob IT.cl IT.n3 rfl) (ev_var rfl) (eu_tup (ea_3 (ev_var rfl) (ev_var rfl) (ev_var rfl)) (by show 3 ≤ 100000; decide)) (by rw [I3.sh.dc, hS]; rfl) fun q t H4 e4 hq ht gq gt => ?_
      have I4 := I3.ex e4
      have Z4 : Sps H4 q [ent S.k f l kd t] := ⟨gq, fun e he => by rw [List.mem_singleton.mp he]; exact gt, (by simp)⟩
      refine q_dropR (mx_run (ev_var rfl) I4.ob rfl (ea_2 (ev_var rfl) (ev_fld (ev_var rfl) I4.ob IT.cl IT.n2 rfl)) fun H5 e5 => ?_)
      refine ⟨S, q, S.d, [ent S.k f l kd t], S.l, rfl, I4.ex e5, Z4.mono e5, (I4.ex e5).st, hB t, hn t, fun H6 e6 => ?_⟩
      have I6 := I4.ex (e5.trans e6)
      refine q_dropR (mc_run (ev_var rfl) I6.ob rfl ea_nil fun H7 e7 => ?_)
      refine ⟨S, rfl, I6.ex e7, hp, fun t0 H8 e8 h0 g0 => ?_⟩
      have e08 : Ex H H8 := ((((((e1.trans e2).trans e3).trans e4).trans e5).trans e6).trans e7).trans e8
      have Dn := done_past (T := TT) I e08 g0
      have x8 : Kp TT S.o S.p H8 (upd H8 S.p (.lst (S.ps ++ [.ref t0]))) := Kp.setP (I.ex e08).pt
      have Z9 := x8.sps (I.ex e08) (Z4.mono (((e5.trans e6).trans e7).trans e8))
      generalize upd H8 S.p (.lst (S.ps ++ [.ref t0])) = H9 at Dn x8 Z9 ⊢
      refine q_fld (ev_var rfl) (ev_var rfl) Dn.1.ob IT.cl IT.n3 (by show 6 < 1000; decide) fun H10 e10 => ?_
      rw [put_shut]
      have Dp := (Dn.ex e10).put (n' := S.n) (k' := S.k) rfl rfl (Dn.ex e10).1.st (Z9.mono e10)
      refine q_fld (ev_add (ev_var rfl) ev_c) (ev_var rfl) Dp.1.ob IT.cl IT.n5 (by show 6 < 1000; decide) fun H11 e11 => ?_
      rw [put_next_shut]
      have Dq := (Dp.ex e11).put (n' := S.n) (k' := S.k + 1) rfl rfl (Dp.ex e11).1.st (Dp.ex e11).1.sh
      exact s_ret (ev_var rfl) fun H12 e12 => k q t t0 H12 (Dq.ex e12)
theorem met_drop {TT : List (Addr × Str)} (IT : InnT K mg) (D : Dm K IT.a "drop" "Inn.drop" s_Inn_drop ["self", "number"]) (T : Tp mg) (EX : Ecs K mg) (XP : Plains K mg EX) (N_remember : MetC P w K mg base IT.a "_remember" 1 ["self"] (sp_remember IT.a)) : MetX P w K mg base IT.a "drop" 2 ["self", "number"] (sp_drop EX IT.a TT) := by
  refine met_ofX D sc_Inn_drop (fun vs H Q E h => ?_) (fun f cdv A outer s H vs Q E hr h => ?_)
  · obtain ⟨S, x, rfl, _⟩ := h
    rfl
  · obtain ⟨S, x, rfl, I, hx, h⟩ := h
    refine ⟨_, (pss_cons (ps_if (pt_cmp (pc_dnotin (hu_of hr) (pv 1) (pe_fldK (K := K) rfl (pv 0) (by rfl)))) (pss_one (L2N.ps_raise (by rfl) takesOf (L2N.pmk_ownE PySem.F.excBase_ValueError XP.NoPromise.ex EX.g_NoPromise XP.NoPromise.kp (raises_own XP.NoPromise.sb XP.NoPromise.ty) (by rfl) (pe_joined (PJ.cons pe_str (PJ.cons (pe_fmt (pv 1)) PJ.nil)))))) pss_nil) (pss_cons (ps_expr (pe_metC0 N_remember IT.cl (hr.mono (by decide)) (pv 0))) (pss_one (ps_fld (pv 0) (pe_lock (pe_dc (own := [("other", 2)]) (g := gName 2) (by rfl) sc_Inn_drop.nd (pi_keys (pe_fldK (K := K) rfl (pv 0) (by rfl))) (blkOk_by (own := [("other", 2)]) (N := ["self", "number", "other"]) (sc := defScope s_Inn_drop) (by decide +kernel)) (fun _ _ _ _ _ => pg_name (i := 2) sc_Inn_drop.nd rfl (Or.inl rfl)) (fun _ _ _ _ _ => (pts_one (pt_cmpR op_ne (pv 2) (pv 1) (nomark _)))) (fun _ _ _ _ _ => (pv 2)) (fun _ _ _ _ _ => (pe_dget (hu_of hr) (pe_fldK (K := K) rfl (pv 0) (by rfl)) (pv 2) (fun _ _ => rfl))))) rfl)))), ?_⟩
    refine q_when (et_B (ev_dnotin (ev_var rfl) (ev_fld (ev_var rfl) I.ob IT.cl IT.n2 rfl) I.st.dc)) (fun hb H1 e1 => ?_) (fun hb H1 e1 => ?_)
    · rcases h with ⟨_, h⟩ | ⟨⟨e, hS, he⟩, _⟩
      · exact js_run (j_str (by decide +kernel) (j_int (ev_var rfl) hx j_nil)) (by decide) fun H2 e2 => h _ (e1.trans e2)
      · rw [hS, look_val, ← he, look_mem (e := e) ((by simp)) List.mem_cons_self] at hb
        cases hb
    · rcases h with ⟨hS, _⟩ | ⟨⟨e, hS, he⟩, hp, k⟩
      · rw [hS] at hb
        cases hb
      · refine q_dropR (mc_run (ev_var rfl) (I.ex e1).ob rfl ea_nil fun H7 e7 => ?_)
        refine ⟨S, rfl, (I.ex e1).ex e7, hp, fun t0 H8 e8 h0 g0 => ?_⟩
        have e08 : Ex H H8 := (e1.trans e7).trans e8
        have Dn := done_past (T := TT) I e08 g0
        generalize upd H8 S.p (.lst (S.ps ++ [.ref t0])) = H9 at Dn ⊢
        have hdc := Dn.1.st.dc
        refine s_fldD (kvs := []) (ed_is (ed_dcK (ks := nums S.l) (fun y => !decide (y = x)) (fun y => (y, .non)) hdc (kv_keys S.l) (by rw [hS]; simp [nums]) (by rw [hS]; show 1 < 50000; decide) (fun _ => rfl) (fun od => ev_fld (ev_var rfl) (lock_at hdc Dn.1.ob (fun k z => nomatch z)) IT.cl IT.n2 rfl)
          (fun od y hy => et_test (ev_neI (ev_var rfl) (ev_var rfl))) (fun od y hy hf => ev_var rfl) (fun od y hy hf => ?_)) ?_) (ev_var rfl) Dn.1.ob IT.cl IT.n2 (by show 6 < 1000; decide) fun q H10 hq e10 g10 => ?_
        · rw [hS] at hy
          rw [List.mem_singleton.mp hy, he] at hf
          simp at hf
        · rw [hS]
          show List.map _ (List.filter _ [e.num]) = []
          rw [he]
          simp
        · rw [put_stays]
          exact k q t0 _ ((Dn.ex e10).put (n' := S.n) (k' := S.k) rfl rfl ⟨g10, fun _ z => (by cases z), List.nodup_nil⟩ (Dn.ex e10).1.sh)
theorem met_reopen {TT : List (Addr × Str)} (IT : InnT K mg) (D : Dm K IT.a "reopen" "Inn.reopen" s_Inn_reopen ["self", "number"]) (T : Tp mg) (EX : Ecs K mg) (XP : Plains K mg EX) (N_remember : MetC P w K mg base IT.a "_remember" 1 ["self"] (sp_remember IT.a)) : MetX P w K mg base IT.a "reopen" 2 ["self", "number"] (sp_reopen EX IT.a TT) := by
  refine met_ofX D sc_Inn_reopen (fun vs H Q E h => ?_) (fun f cdv A outer s H vs Q E hr h => ?_)
  · obtain ⟨S, x, rfl, _⟩ := h
    rfl
  · obtain ⟨S, x, rfl, I, hx, h⟩ := h
    refine ⟨_, (pss_cons (ps_if (pt_cmp (pc_dnotin (hu_of hr) (pv 1) (pe_fldK (K := K) rfl (pv 0) (by rfl)))) (pss_one (L2N.ps_raise (by rfl) takesOf (L2N.pmk_ownE PySem.F.excBase_ValueError XP.NoClosing.ex EX.g_NoClosing XP.NoClosing.kp (raises_own XP.NoClosing.sb XP.NoClosing.ty) (by rfl) (pe_joined (PJ.cons pe_str (PJ.cons (pe_fmt (pv 1)) PJ.nil)))))) pss_nil) (pss_cons (ps_expr (pe_metC0 N_remember IT.cl (hr.mono (by decide)) (pv 0))) (pss_one (ps_fld (pv 0) (pe_lock (pe_dc (own := [("other", 2)]) (g := gName 2) (by rfl) sc_Inn_reopen.nd (pi_keys (pe_fldK (K := K) rfl (pv 0) (by rfl))) (blkOk_by (own := [("other", 2)]) (N := ["self", "number", "other"]) (sc := defScope s_Inn_reopen) (by decide +kernel)) (fun _ _ _ _ _ => pg_name (i := 2) sc_Inn_reopen.nd rfl (Or.inl rfl)) (fun _ _ _ _ _ => (pts_one (pt_cmpR op_ne (pv 2) (pv 1) (nomark _)))) (fun _ _ _ _ _ => (pv 2)) (fun _ _ _ _ _ => (pe_dget (hu_of hr) (pe_fldK (K := K) rfl (pv 0) (by rfl)) (pv 2) (fun _ _ => rfl))))) rfl)))), ?_⟩
    refine q_when (et_B (ev_dnotin (ev_var rfl) (ev_fld (ev_var rfl) I.ob IT.cl IT.n3 rfl) I.sh.dc)) (fun hb H1 e1 => ?_) (fun hb H1 e1 => ?_)
    · rcases h with ⟨_, h⟩ | ⟨⟨e, hS, he⟩, _⟩
      · exact js_run (j_str (by decide +kernel) (j_int (ev_var rfl) hx j_nil)) (by decide) fun H2 e2 => h _ (e1.trans e2)
      · rw [hS, look_val, ← he, look_mem (e := e) ((by simp)) List.mem_cons_self] at hb
        cases hb
    · rcases h with ⟨hS, _⟩ | ⟨⟨e, hS, he⟩, hp, k⟩
      · rw [hS] at hb
        cases hb
      · refine q_dropR (mc_run (ev_var rfl) (I.ex e1).ob rfl ea_nil fun H7 e7 => ?_)
        refine ⟨S, rfl, (I.ex e1).ex e7, hp, fun t0 H8 e8 h0 g0 => ?_⟩
        have e08 : Ex H H8 := (e1.trans e7).trans e8
        have Dn := done_past (T := TT) I e08 g0
        generalize upd H8 S.p (.lst (S.ps ++ [.ref t0])) = H9 at Dn ⊢
        have hdc := Dn.1.sh.dc
        refine s_fldD (kvs := []) (ed_is (ed_dcK (ks := nums S.m) (fun y => !decide (y = x)) (fun y => (y, .non)) hdc (kv_keys S.m) (by rw [hS]; simp [nums]) (by rw [hS]; show 1 < 50000; decide) (fun _ => rfl) (fun od => ev_fld (ev_var rfl) (lock_at hdc Dn.1.ob (fun k z => nomatch z)) IT.cl IT.n3 rfl)
          (fun od y hy => et_test (ev_neI (ev_var rfl) (ev_var rfl))) (fun od y hy hf => ev_var rfl) (fun od y hy hf => ?_)) ?_) (ev_var rfl) Dn.1.ob IT.cl IT.n3 (by show 6 < 1000; decide) fun q H10 hq e10 g10 => ?_
        · rw [hS] at hy
          rw [List.mem_singleton.mp hy, he] at hf
          simp at hf
        · rw [hS]
          show List.map _ (List.filter _ [e.num]) = []
          rw [he]
          simp
        · rw [put_shut]
          exact k q t0 _ ((Dn.ex e10).put (n' := S.n) (k' := S.k) rfl rfl (Dn.ex e10).1.st ⟨g10, fun _ z => (by cases z), List.nodup_nil⟩)
theorem met_undo {TT : List (Addr × Str)} (IT : InnT K mg) (D : Dm K IT.a "undo" "Inn.undo" s_Inn_undo ["self"]) (T : Tp mg) (EX : Ecs K mg) (XP : Plains K mg EX) : MetX P w K mg base IT.a "undo" 1 ["self"] (sp_undo EX IT.a TT) := by
  refine met_ofX D sc_Inn_undo (fun vs H Q E h => ?_) (fun f cdv A outer s H vs Q E hr h => ?_)
  · obtain ⟨S, rfl, _⟩ := h
    rfl
  · obtain ⟨S, rfl, I, h⟩ := h
    refine ⟨_, (pss_cons (ps_if (pt_not (pt_truth (pe_fldK (K := K) rfl (pv 0) (by rfl)) (by intro _; rfl))) (pss_one (L2N.ps_raise (by rfl) takesOf (L2N.pmk_own PySem.F.excBase_ValueError XP.NoWayBack.ex EX.g_NoWayBack XP.NoWayBack.kp (raises_own XP.NoWayBack.sb XP.NoWayBack.ty) (by rfl)))) pss_nil) (pss_one (ps_asg (pe_bm0 PySem.F.plainAttrs_list PySem.F.slot_list_pop PySem.F.type_list_pop mt_pop (pe_fldK (K := K) rfl (pv 0) (by rfl))) (pg_tup rfl (pgs_cons (L2N.pg_fld (pv 0)) (pgs_cons (L2N.pg_fld (pv 0)) (pgs_cons (L2N.pg_fld (pv 0)) (pgs_cons (L2N.pg_fld (pv 0)) pgs_nil)))))))), ?_⟩
    refine q_when (et_not (et_truL (ev_fld (ev_var rfl) I.ob IT.cl IT.n6 rfl) I.pt)) (fun hb H1 e1 => ?_) (fun hb H1 e1 => ?_)
    · rcases h with ⟨_, h⟩ | ⟨Z, t, hS, _⟩
      · exact h _ e1
      · rw [hS] at hb
        cases hz : Z.ps ++ [.ref t] with
        | nil => exact absurd hz (by simp)
        | cons y ys =>
          rw [hz] at hb
          cases hb
    · rcases h with ⟨hS, _⟩ | ⟨Z, t, hS, ht, hZ, hM, k⟩
      · rw [hS] at hb
        cases hb
      · have I1 := I.ex e1
        refine s_asgR ?_
        refine ev_fld (ev_var rfl) I1.ob IT.cl IT.n6 rfl H1 (Ex.refl _) _ fun H2 e2 => ?_
        have I2 := I1.ex e2
        have e02 := e1.trans e2
        refine ⟨.inl ⟨rfl, _, sq_of I2.pt⟩, S.p, S.ps, .ref t, rfl, rfl, I2.pt, by rw [hS]; simp, ?_⟩
        have hdl : S.ps.dropLast = Z.ps := by rw [hS]; simp
        rw [hdl]
        have I3 : InnAt IT.a _ { S with ps := Z.ps } := I2.past Z.ps
        have x3 : Kp TT S.o S.p H2 (upd H2 S.p (.lst Z.ps)) := Kp.setP I2.pt
        have t3 := x3.tup I2 (e02 _ _ ht)
        have Z3 := x3.sps I2 (hZ.mono e02)
        have M3 := x3.sps I2 (hM.mono e02)
        have x03 : Kp TT S.o S.p H (upd H2 S.p (.lst Z.ps)) := (Kp.ex e02).trans x3
        generalize upd H2 S.p (.lst Z.ps) = H3 at I3 x03 x3 t3 Z3 M3 ⊢
        refine ⟨t, [.ref Z.d, .ref Z.c, .int Z.n, .int Z.k], rfl, st_of t3, rfl, .ref Z.d, _, rfl, .ref S.o, rfl, S.o, IT.a, S.dx, _, rfl, I3.ob, IT.cl, IT.n2, by show 6 < 1000; decide, ?_⟩
        rw [put_stays]
        have I4 := I3.put (n' := S.n) (k' := S.k) Z3 I3.sh
        have x4 : Kp TT S.o S.p H3 (upd H3 S.o (.ins IT.a S.dx (flds S.a Z.d S.c S.n S.k S.p))) := Kp.setO I3.ob
        have M4 := Kp.sps (S := { S with ps := Z.ps }) x4 I3 M3
        have x04 := x03.trans x4
        generalize upd H3 S.o (.ins IT.a S.dx (flds S.a Z.d S.c S.n S.k S.p)) = H4 at I4 x04 M4 ⊢
        refine ⟨.ref Z.c, _, rfl, .ref S.o, rfl, S.o, IT.a, S.dx, _, rfl, I4.ob, IT.cl, IT.n3, by show 6 < 1000; decide, ?_⟩
        rw [put_shut]
        have I5 := I4.put (n' := S.n) (k' := S.k) I4.st M4
        have x5 : Kp TT S.o S.p H4 (upd H4 S.o (.ins IT.a S.dx (flds S.a Z.d Z.c S.n S.k S.p))) := Kp.setO I4.ob
        have x05 := x04.trans x5
        generalize upd H4 S.o (.ins IT.a S.dx (flds S.a Z.d Z.c S.n S.k S.p)) = H5 at I5 x05 ⊢
        refine ⟨.int Z.n, _, rfl, .ref S.o, rfl, S.o, IT.a, S.dx, _, rfl, I5.ob, IT.cl, IT.n4, by show 6 < 1000; decide, ?_⟩
        rw [put_next_stay]
        have I6 := I5.put (n' := Z.n) (k' := S.k) I5.st I5.sh
        have x6 : Kp TT S.o S.p H5 (upd H5 S.o (.ins IT.a S.dx (flds S.a Z.d Z.c Z.n S.k S.p))) := Kp.setO I5.ob
        have x06 := x05.trans x6
        generalize upd H5 S.o (.ins IT.a S.dx (flds S.a Z.d Z.c Z.n S.k S.p)) = H6 at I6 x06 ⊢
        refine ⟨.int Z.k, _, rfl, .ref S.o, rfl, S.o, IT.a, S.dx, _, rfl, I6.ob, IT.cl, IT.n5, by show 6 < 1000; decide, ?_⟩
        rw [put_next_shut]
        have I7 := I6.put (n' := Z.n) (k' := Z.k) I6.st I6.sh
        have x7 : Kp TT S.o S.p H6 (upd H6 S.o (.ins IT.a S.dx (flds S.a Z.d Z.c Z.n Z.k S.p))) := Kp.setO I6.ob
        exact ⟨rfl, k _ I7 (x06.trans x7)⟩
end

/-! ### nights, rooms_for -/
section
variable {cs : List Int} {m : List Ent} {e : Ent}
/-- the one guest of an inn has a room on each of its nights -/
theorem guest_has (B : Both cs m [e]) (hf : firstN (nightP cs m [e]) = none) (h0 : e.first = 0) {i : Nat} (hi : (i : Int) < e.last) (h40 : e.last ≤ 40) : ∃ r : Int, lookI (ahN cs m [e] (i + 1)) e.num = some r := by
  have hi40 : i < 40 := by omega
  have A := ah_ok B (fun j hj => firstN_no hf hj) i (by omega)
  have N := night_ok B A i
  obtain ⟨_, _, _, hk⟩ := night_way B.hh N (night_none B (firstN_no hf hi40))
  have hm : e.num ∈ (ahN cs m [e] (i + 1)).map fun p : Int × Int => p.1 := by
    show e.num ∈ (nightG cs (rsN cs m i) (wlN [e] i) (ahN cs m [e] i)).map fun p : Int × Int => p.1
    rw [hk, sortI_mem, wlN_eq B]
    refine List.mem_map.mpr ⟨(e.num, kindN [e] e.num), List.mem_map.mpr ⟨e.num, List.mem_filter.mpr ⟨sortI_mem.mpr (by simp [nums]), ?_⟩, rfl⟩, rfl⟩
    unfold actN
    rw [look_mem (e := e) (by simp) List.mem_cons_self]
    show act (i : Int) e = true
    unfold act
    rw [h0, Bool.and_eq_true, decide_eq_true_eq, decide_eq_true_eq]
    omega
  obtain ⟨v, hv, _⟩ := lookI_some hm
  exact ⟨v, hv⟩
end
section
variable {P : Program} {w : World} {K : PySem.W.Frag} {mg : Str → Option Value} {base : Heap}
theorem met_nights {Z : Lams mg base} (IT : InnT K mg) (D : Dm K IT.a "nights" "Inn.nights" s_Inn_nights ["self"]) (T : Tp mg) (C_plan : Cal P w K mg base "plan" 9 ["counts", "closings", "stays"] (sp_plan K Z.T)) : MetC P w K mg base IT.a "nights" 10 ["self"] (sp_nights IT.a Z.T) := by
  refine met_of D sc_Inn_nights (fun vs H Q E h => ?_) (fun f cdv A outer s H vs Q E hr h => ?_)
  · obtain ⟨S, rfl, _⟩ := h
    rfl
  · obtain ⟨S, rfl, I, B, hT, hf, k⟩ := h
    refine ⟨_, (pss_one (ps_ret (pe_cal C_plan (hr.mono (by decide)) (by rfl) (pa_cons (pe_fldK (K := K) rfl (pv 0) (by rfl)) (pa_cons (pe_fldK (K := K) rfl (pv 0) (by rfl)) (pa_cons (pe_fldK (K := K) rfl (pv 0) (by rfl)) pa_nil)))))), ?_⟩
    refine s_retX (vs := [.ref S.a, .ref S.c, .ref S.d]) (ea_3 (ev_fld (ev_var rfl) I.ob IT.cl IT.n1 rfl) (ev_fld (ev_var rfl) I.ob IT.cl IT.n3 rfl) (ev_fld (ev_var rfl) I.ob IT.cl IT.n2 rfl)) fun H1 e1 => ?_
    have I1 := I.ex e1
    refine ⟨S.a, S.c, S.d, S.cs, S.m, S.l, rfl, sq_of I1.ct, B, I1.sh, I1.st, Tabs.ex hT e1, hf, fun p H' ts e t _ g hl hq => k p H' ts (LamX.ExtN.trans (.ex e1) e) t g hl fun i q h => ?_⟩
    have z := hq i q h
    exact ⟨Fn.back (.ex e1) z.f1, Fn.back (.ex e1) z.f2, Fn.back (.ex e1) z.f3, Fn.back (.ex e1) z.f4, z.told⟩
theorem met_rooms_for {Z : Lams mg base} (IT : InnT K mg) (D : Dm K IT.a "rooms_for" "Inn.rooms_for" s_Inn_rooms_for ["self", "number"]) (T : Tp mg) (EX : Ecs K mg) (XP : Plains K mg EX) (N_nights : MetC P w K mg base IT.a "nights" 10 ["self"] (sp_nights IT.a Z.T)) : MetX P w K mg base IT.a "rooms_for" 11 ["self", "number"] (sp_rooms_for EX IT.a Z.T) := by
  refine met_ofX D sc_Inn_rooms_for (fun vs H Q E h => ?_) (fun f cdv A outer s H vs Q E hr h => ?_)
  · obtain ⟨S, x, rfl, _⟩ := h
    rfl
  · obtain ⟨S, x, rfl, I, hx, h⟩ := h
    refine ⟨_, (pss_cons (ps_if (pt_cmp (pc_dnotin (hu_of hr) (pv 1) (pe_fldK (K := K) rfl (pv 0) (by rfl)))) (pss_one (L2N.ps_raise (by rfl) takesOf (L2N.pmk_ownE PySem.F.excBase_ValueError XP.NoPromise.ex EX.g_NoPromise XP.NoPromise.kp (raises_own XP.NoPromise.sb XP.NoPromise.ty) (by rfl) (pe_joined (PJ.cons pe_str (PJ.cons (pe_fmt (pv 1)) PJ.nil)))))) pss_nil) (pss_cons (ps_asg (pe_dget (hu_of hr) (pe_fldK (K := K) rfl (pv 0) (by rfl)) (pv 1) (fun _ _ => rfl)) (pg_tup rfl (pgs_cons (pg_name (i := 2) sc_Inn_rooms_for.nd rfl (.inl rfl)) (pgs_cons (pg_name (i := 3) sc_Inn_rooms_for.nd rfl (.inl rfl)) (pgs_cons (pg_name (i := 4) sc_Inn_rooms_for.nd rfl (.inl rfl)) pgs_nil))))) (pss_one (ps_ret (pe_lc (own := [("night", 5)]) (g := gName 5) (by rfl) sc_Inn_rooms_for.nd (pi_list (pe_slice (r := rSlL K) sl_list (pe_metC0 N_nights IT.cl (hr.mono (by decide)) (pv 0)) (po_some (pv 2)) (po_some (pv 3)))) (blkOk_by (own := [("night", 5)]) (N := ["self", "number", "first", "last", "_", "night"]) (sc := defScope s_Inn_rooms_for) (by decide +kernel)) (fun _ _ _ _ _ => pg_name (i := 5) sc_Inn_rooms_for.nd rfl (Or.inl rfl)) (fun _ _ _ _ _ => pts_nil) (fun _ _ _ _ _ => (pe_dget (hu_of hr) (pe_ix (r := rIxT K) ix_tup (pv 5) pe_int (fun _ _ => rfl)) (pv 1) (fun _ _ => rfl)))))))), ?_⟩
    refine q_when (et_B (ev_dnotin (ev_var rfl) (ev_fld (ev_var rfl) I.ob IT.cl IT.n2 rfl) I.st.dc)) (fun hb H1 e1 => ?_) (fun hb H1 e1 => ?_)
    · rcases h with ⟨_, h⟩ | ⟨e, hS, he, _⟩
      · exact js_run (j_str (by decide +kernel) (j_int (ev_var rfl) hx j_nil)) (by decide) fun H2 e2 => h _ (e1.trans e2)
      · rw [hS, look_val, ← he, look_mem (e := e) (by simp) List.mem_cons_self] at hb
        cases hb
    · rcases h with ⟨hS, _⟩ | ⟨e, hS, he, h0, B, hT, hf, k⟩
      · rw [hS] at hb
        cases hb
      · have I1 := I.ex e1
        have hem : e ∈ S.l := by rw [hS]; exact List.mem_cons_self
        have hspan := B.ol e hem
        refine q_asg3 (p := e.at_) (ev_dget (ev_fld (ev_var rfl) I1.ob IT.cl IT.n2 rfl) (ev_var rfl) I1.st.dc (by rw [look_val, ← he, look_mem I1.st.nd hem]; rfl)) (I1.st.tp e hem) fun H2 e2 => ?_
        have I2 := I1.ex e2
        have e02 := e1.trans e2
        refine lc_run ?_
        refine mc_run (ev_var rfl) I2.ob rfl ea_nil fun H3 e3 => ?_
        have I3 := I2.ex e3
        have e03 := e02.trans e3
        refine ⟨S, rfl, I3, B, Tabs.ex hT e03, hf, fun p H4 ts e4 t4 g4 hl hq => ?_⟩
        have hlast : lastN S.l = e.last := by
          rw [hS]
          unfold lastN
          rfl
        rw [hlast] at hl
        refine ⟨_, rfl, e.first, rfl, _, rfl, e.last, rfl, p, _, rfl, sq_of g4, fun q hq4 => ?_⟩
        have e45 : Ex H4 (upd H4 q (.lst (cutV (ts.map fun q => V.ref q.1) (some e.first) (some e.last)))) := Ex.new hq4
        have g5 : (upd H4 q (.lst (cutV (ts.map fun q => V.ref q.1) (some e.first) (some e.last)))) q = some (.lst (cutV (ts.map fun q => V.ref q.1) (some e.first) (some e.last))) := upd_same
        have hcut : cutV (ts.map fun q => V.ref q.1) (some e.first) (some e.last) = ts.map fun q => V.ref q.1 := by
          have h2 := hspan.fl
          have e1' : e.last = ((e.last.toNat : Nat) : Int) := by omega
          rw [h0, e1']
          refine (cut_take _ _).trans (List.take_of_length_le ?_)
          rw [List.length_map, hl]
          exact Nat.le_refl _
        rw [hcut] at e45 g5 ⊢
        generalize upd H4 q (.lst (ts.map fun q => V.ref q.1)) = H5 at e45 g5 ⊢
        have hlt : ts.length < 50000 := by
          have := hspan.l40
          omega
        have he' : (List.range ts.length).map (fun i => match ts[i]? with | some q => V.ref q.1 | none => .non) = ts.map fun q : Q4 => V.ref q.1 := by
          refine List.ext_getElem? fun i => ?_
          rw [List.getElem?_map, List.getElem?_map]
          by_cases hi : i < ts.length
          · rw [List.getElem?_range hi, List.getElem?_eq_getElem hi]
            show some (match ts[i]? with | some q => V.ref q.1 | none => .non) = _
            rw [List.getElem?_eq_getElem hi]
            rfl
          · rw [List.getElem?_eq_none (by rw [List.length_range]; omega), List.getElem?_eq_none (by omega)]
            rfl
        refine el_lcA (K := K) (tl := tC (.ref q)) (List.range ts.length) (fun i => match ts[i]? with | some q => V.ref q.1 | none => .non) (fun _ => true) (fun i => .int (roomOf (ahN S.cs S.m S.l (i + 1)) x)) ev_c (by rw [he']; exact sq_of g5) (by rw [List.length_range]; exact hlt) (fun _ => rfl) (fun i _ H6 _ => et_yes) (fun i hi _ H6 e6 => ?_) H5 (Ex.refl _) _ (fun q6 H6 hq6 e6 g6 => ?_)
        · have hi := List.mem_range.mp hi
          have hz := hq i ts[i] (List.getElem?_eq_getElem hi)
          have told := hz.told.ex (e45.trans e6)
          obtain ⟨r, hr'⟩ := guest_has (i := i) (by rw [← hS]; exact B) (by rw [← hS]; exact hf) h0 (by have := hspan.l40; omega) hspan.l40
          rw [← hS, he] at hr'
          have hrm : roomOf (ahN S.cs S.m S.l (i + 1)) x = r := by
            unfold roomOf
            rw [hr']
            rfl
          rw [hrm]
          have hv : (match ts[i]? with | some q => V.ref q.1 | none => V.non) = .ref ts[i].1 := by rw [List.getElem?_eq_getElem hi]
          rw [hv]
          exact ev_dget (ev_ixT (ev_var rfl) ev_c (st_of told.ht) (atI_nat (j := 0) rfl)) (ev_var rfl) told.hg (by rw [lookI_val, hr']; rfl)
        · refine k q6 H6 ((List.range ts.length).map fun i => roomOf (ahN S.cs S.m S.l (i + 1)) x) ((LamX.ExtN.trans (.ex e03) e4).trans (.ex (e45.trans e6))) (Tabs.ex t4 (e45.trans e6)) ?_ ?_
          · rw [g6, filter_tt, List.map_map]
            rfl
          · rw [List.length_map, List.length_range, hl]
end

/-! ### the law's counts and bounds -/
def sp_counts_by (K : PySem.W.Frag) : Sp := fun vs H Q _ => ∃ (a : Addr) (ns : List Int), vs = [.ref a] ∧ SqL K H a (ns.map V.int) ∧ ns.length ≤ 63 ∧ ∀ p H' (cs : List Int), cs.length ≤ 500 → H p = none → Ex H H' → H' p = some (.lst (cs.map V.int)) → Q (.ref p) H'
theorem rep_ints (ns : List Int) : ∀ n : Nat, (List.replicate n (ns.map V.int)).flatten = ((List.replicate n ns).flatten).map V.int
  | 0 => rfl
  | n + 1 => by
    rw [List.replicate_succ, List.replicate_succ, List.flatten_cons, List.flatten_cons, List.map_append, rep_ints ns n]
theorem rep_len (ns : List Int) : ∀ n : Nat, ((List.replicate n ns).flatten).length = n * ns.length
  | 0 => by simp
  | n + 1 => by
    rw [List.replicate_succ, List.flatten_cons, List.length_append, rep_len ns n, Nat.succ_mul]
    omega
section
variable {P : Program} {w : World} {K : PySem.W.Frag} {mg : Str → Option Value} {base : Heap}
theorem cal_counts_by (D : Dn K mg "_law_counts_by" s_law_counts_by ["_law_script"]) (T : Tp mg) (C_law_cell : Cal P w K mg base "_law_cell" 1 ["_law_script", "_law_k"] (sp_cell K)) : Cal P w K mg base "_law_counts_by" 2 ["_law_script"] (sp_counts_by K) := by
  refine cal_of D sc_law_counts_by (fun vs H Q E h => ?_) (fun f cdv A outer s H vs Q E hr h => ?_)
  · obtain ⟨a, ns, rfl, _⟩ := h
    rfl
  · obtain ⟨a, ns, rfl, hS, hl, k⟩ := h
    refine ⟨_, (pss_cons (ps_if (pt_cmpR op_eq (pe_op op_mod (pe_cal C_law_cell (hr.mono (by decide)) (by rfl) (pa_cons (pv 0) (pa_cons pe_int pa_nil))) pe_int) pe_int (nomark _)) (pss_cons (ps_setLc (i := 1) (own := [("_law_k", 3)]) (g := gName 3) (by rfl) sc_law_counts_by.nd rfl rfl (sw_true rfl rfl rfl (by decide +kernel)) (pi_range1 (by rfl) T.z_range (pa_cons (pe_op op_mod (pe_cal C_law_cell (hr.mono (by decide)) (by rfl) (pa_cons (pv 0) (pa_cons pe_int pa_nil))) pe_int) pa_nil)) (blkOk_by (own := [("_law_k", 3)]) (N := ["_law_script", "_law_counts", "_law_far", "_law_k", "_law_one"]) (sc := defScope s_law_counts_by) (by decide +kernel)) (fun _ _ _ _ _ => pg_name (i := 3) sc_law_counts_by.nd rfl (Or.inl rfl)) (fun _ _ _ _ _ => pts_nil) (fun _ _ _ _ _ => (pe_op op_sub (pe_op op_mod (pe_cal C_law_cell (hr.mono (by decide)) (by rfl) (pa_cons (pv 0) (pa_cons (pe_op op_add pe_int (pv 3)) pa_nil))) pe_int) pe_int))) (pss_cut (ps_if (pt_cmpR op_eq (pe_op op_mod (pe_cal C_law_cell (hr.mono (by decide)) (by rfl) (pa_cons (pv 0) (pa_cons pe_int pa_nil))) pe_int) pe_int (nomark _)) (pss_cons (ps_set (i := 1) sc_law_counts_by.nd rfl (.inl rfl) (pe_op op_rep (pe_lc (own := [("_law_one", 4)]) (g := gName 4) (by rfl) sc_law_counts_by.nd (pi_list (pe_op op_cat (pv 1) (pe_lst (pa_cons pe_int pa_nil)))) (blkOk_by (own := [("_law_one", 4)]) (N := ["_law_script", "_law_counts", "_law_far", "_law_k", "_law_one"]) (sc := defScope s_law_counts_by) (by decide +kernel)) (fun _ _ _ _ _ => pg_name (i := 4) sc_law_counts_by.nd rfl (Or.inl rfl)) (fun _ _ _ _ _ => pts_nil) (fun _ _ _ _ _ => (pe_op op_mod (pe_callB call_abs (by rfl) T.z_abs (by decide +kernel) (pa_cons (pv 4) pa_nil)) pe_int))) (pe_op op_add pe_int (pe_op op_mod (pe_op op_fdiv (pe_cal C_law_cell (hr.mono (by decide)) (by rfl) (pa_cons (pv 0) (pa_cons pe_int pa_nil))) pe_int) pe_int)))) (pss_one (ps_set (i := 1) sc_law_counts_by.nd rfl (.inl rfl) (pe_slice (r := rSlL K) sl_list (pv 1) po_none (po_some (pe_ix (r := rIxL K) ix_list (pe_lst (pa_cons pe_int (pa_cons pe_int (pa_cons pe_int (pa_cons pe_int pa_nil))))) (pe_op op_mod (pe_cal C_law_cell (hr.mono (by decide)) (by rfl) (pa_cons (pv 0) (pa_cons pe_int pa_nil))) pe_int) (fun _ _ => rfl))))))) pss_nil) (pss_cut (ps_if (PW.pt (pw_and (pt_cmpR op_eq (pe_op op_mod (pe_cal C_law_cell (hr.mono (by decide)) (by rfl) (pa_cons (pv 0) (pa_cons pe_int pa_nil))) pe_int) pe_int (nomark _)) (pw_and1 (pt_cmpR (r := rNeD K) (op_neD hr.units) (pv 1) (pe_lst pa_nil) (nomark _))))) (pss_cons (ps_set (i := 2) sc_law_counts_by.nd rfl (.inl rfl) (pe_ix (r := rIxL K) ix_list (pe_lst (pa_cons (pe_op op_pow pe_int pe_int) (pa_cons (pe_un un_neg pe_int) (pa_cons (pe_un un_neg (pe_op op_pow pe_int pe_int)) (pa_cons pe_int pa_nil))))) (pe_op op_mod (pe_op op_fdiv (pe_cal C_law_cell (hr.mono (by decide)) (by rfl) (pa_cons (pv 0) (pa_cons pe_int pa_nil))) pe_int) pe_int) (fun _ _ => rfl))) (pss_one (ps_asg (pv 2) (pg_sub (pv 1) (pe_op op_mod (pe_op op_fdiv (pe_cal C_law_cell (hr.mono (by decide)) (by rfl) (pa_cons (pv 0) (pa_cons pe_int pa_nil))) pe_int) (pe_callB (r := rLenS K) call_len_seq (by rfl) T.z_len (by decide +kernel) (pa_cons (pv 1) pa_nil))) set_list)))) pss_nil) (pss_one (ps_ret (pv 1)))))) pss_nil) (pss_one (ps_ret (pe_lc (own := [("_law_k", 3)]) (g := gName 3) (by rfl) sc_law_counts_by.nd (pi_range1 (by rfl) T.z_range (pa_cons (pe_op op_add pe_int (pe_op op_mod (pe_cal C_law_cell (hr.mono (by decide)) (by rfl) (pa_cons (pv 0) (pa_cons pe_int pa_nil))) pe_int)) pa_nil)) (blkOk_by (own := [("_law_k", 3)]) (N := ["_law_script", "_law_counts", "_law_far", "_law_k", "_law_one"]) (sc := defScope s_law_counts_by) (by decide +kernel)) (fun _ _ _ _ _ => pg_name (i := 3) sc_law_counts_by.nd rfl (Or.inl rfl)) (fun _ _ _ _ _ => pts_nil) (fun _ _ _ _ _ => (pe_op op_add pe_int (pe_op op_mod (pe_cal C_law_cell (hr.mono (by decide)) (by rfl) (pa_cons (pv 0) (pa_cons (pe_op op_add pe_int (pv 3)) pa_nil))) pe_int))))))), ?_⟩
    refine q_when (et_test (ev_eqI (ev_mod (ev_cell hS hl rfl ev_c (by decide) (by decide)) ev_c (by decide)) ev_c)) (fun hb H1 e1 => ?_) (fun hb H1 e1 => ?_)
    · have m9 := mod_bd (cell ns 1) (m := 9) (by decide)
      refine q_asgL (el_is (ys := ((List.range (cell ns 1 % 9).toNat).map fun i : Nat => cell ns (2 + (i : Int)) % 14 - 2).map V.int) (el_lcR (n := cell ns 1 % 9) (fun _ => true) (fun i => .int (cell ns (2 + (i : Int)) % 14 - 2)) (ea_1 (ev_mod (ev_cell (ex_l e1 hS) hl rfl ev_c (by decide) (by decide)) ev_c (by decide))) ⟨m9.1, by omega⟩ (fun _ => rfl) (fun i _ _ _ => et_yes)
        (fun i hi _ H2 e2 => ev_sub (ev_mod (ev_cell (ex_l (e1.trans e2) hS) hl rfl (ev_add ev_c (ev_var rfl)) (by omega) (by omega)) ev_c (by decide)) ev_c)) ?_) fun p H2 hp e2 h2 => ?_
      · rw [filter_tt, List.map_map]
        rfl
      generalize hcs : ((List.range (cell ns 1 % 9).toNat).map fun i : Nat => cell ns (2 + (i : Int)) % 14 - 2) = cs at h2
      have hlen : cs.length ≤ 8 := by
        rw [← hcs, List.length_map, List.length_range]
        omega
      clear hcs
      have hp0 := fresh_back e1 hp
      have e02 := e1.trans e2
      refine q_cut (M := fun σ' H' => ∃ (p : Addr) (cs : List Int) (y4 y5 : Option V), σ' = [some (.ref a), some (.ref p), none, y4, y5] ∧ Ex H H' ∧ H p = none ∧ H' p = some (.lst (cs.map V.int)) ∧ cs.length ≤ 180) ?_ ?_
      · refine s_when (et_test (ev_eqI (ev_mod (ev_cell (ex_l e02 hS) hl rfl ev_c (by decide) (by decide)) ev_c (by decide)) ev_c)) (fun hb H3 e3 => ?_) (fun hb H3 e3 => ?_)
        · have e03 := e02.trans e3
          have h3 := e3 _ _ h2
          have m20 := mod_bd (cell ns 1 / 27) (m := 20) (by decide)
          refine q_asgL (el_is (ys := ((List.replicate (1 + cell ns 1 / 27 % 20).toNat ((cs ++ [2]).map fun z => (if z < 0 then -z else z) % 10)).flatten).map V.int) (el_repN (n := 1 + cell ns 1 / 27 % 20) (el_is (ys := ((cs ++ [2]).map fun z => (if z < 0 then -z else z) % 10).map V.int) (el_lcNA (cs ++ [2]) V.int (fun _ => true) (fun z => .int ((if z < 0 then -z else z) % 10))
            (el_is (el_catN (ys := [.int 2]) (ev_var rfl) (el_lst (ea_1 ev_c) (by decide)) h3 (sz_of (by rw [List.length_map, List.length_singleton]; omega))) (by rw [List.map_append]; rfl)) (by rw [List.length_append, List.length_singleton]; omega) (fun _ => rfl) (fun x _ _ _ => et_yes) (fun x _ _ H4 e4 => ev_mod (ev_abs (ev_var rfl)) ev_c (by decide))) ?_)
            (ev_add ev_c (ev_mod (ev_fdiv (ev_cell (ex_l e03 hS) hl rfl ev_c (by decide) (by decide)) ev_c ⟨by decide, by decide⟩) ev_c (by decide))) ⟨by omega, by omega⟩ (sz_of ?_)) ?_) fun q H4 hq e4 h4 => ?_
          · rw [filter_tt, List.map_map]
            rfl
          · rw [List.length_map, List.length_map, List.length_append, List.length_singleton]
            have : (cs.length + 1) * (1 + cell ns 1 / 27 % 20).toNat ≤ 9 * 20 := Nat.mul_le_mul (by omega) (by omega)
            omega
          · exact rep_ints _ _
          · have hln : ((List.replicate (1 + cell ns 1 / 27 % 20).toNat ((cs ++ [2]).map fun z => (if z < 0 then -z else z) % 10)).flatten).length ≤ 180 := by
              rw [rep_len, List.length_map, List.length_append, List.length_singleton]
              have : (1 + cell ns 1 / 27 % 20).toNat * (cs.length + 1) ≤ 20 * 9 := Nat.mul_le_mul (by omega) (by omega)
              omega
            generalize ((List.replicate (1 + cell ns 1 / 27 % 20).toNat ((cs ++ [2]).map fun z => (if z < 0 then -z else z) % 10)).flatten) = ds at h4 hln
            have e04 := e03.trans e4
            have m4 := mod_bd (cell ns 9) (m := 4) (by decide)
            obtain ⟨z, hz, ez⟩ := atI_ints (ns := [200, 7, 7, 6]) (z := cell ns 9 % 4) m4.1 m4.2
            have hz0 : 0 ≤ z := by
              simp only [List.mem_cons, List.not_mem_nil, or_false] at hz
              omega
            obtain ⟨zn, rfl⟩ : ∃ zn : Nat, z = (zn : Int) := ⟨z.toNat, by omega⟩
            refine s_asgL (el_is (ys := (ds.take zn).map V.int) (el_sl (ev_var rfl) eo_none (eo_some (ev_ixN (el_lst (ea_cons ev_c (ea_3 ev_c ev_c ev_c)) (by decide)) (ev_mod (ev_cell (ex_l e04 hS) hl rfl ev_c (by decide) (by decide)) ev_c (by decide)) ez)) (sq_of h4)) ?_) fun q2 H5 hq2 e5 h5 => ?_
            · rw [cutV_take, List.map_take]
            · refine ⟨q2, ds.take zn, _, _, rfl, e04.trans e5, fresh_back e04 hq2, h5, ?_⟩
              rw [List.length_take]
              omega
        · exact ⟨p, cs, _, _, rfl, e02.trans e3, hp0, e3 _ _ h2, by omega⟩
      · clear h2 hlen hp0 hp e02
        rintro σ' H3 ⟨p, cs, y4, y5, rfl, e03, hp0, h3, hlen⟩
        refine q_cut (M := fun σ' H' => ∃ (p : Addr) (cs : List Int) (y2 y4 y5 : Option V), σ' = [some (.ref a), some (.ref p), y2, y4, y5] ∧ Ex H H' ∧ H p = none ∧ H' p = some (.lst (cs.map V.int)) ∧ cs.length ≤ 180) ?_ ?_
        · refine s_when (et_and (et_test (ev_eqI (ev_mod (ev_cell (ex_l e03 hS) hl rfl ev_c (by decide) (by decide)) ev_c (by decide)) ev_c)) (fun _ => et_test (ev_neIN (ms := []) (ev_var rfl) el_nil (sq_of h3)))) (fun hb H4 e4 => ?_) (fun hb H4 e4 => ?_)
          · have hne : cs ≠ [] := of_decide_eq_false (not_t (Bool.and_eq_true_iff.mp hb).2)
            have e04 := e03.trans e4
            have h4 := e4 _ _ h3
            have hpos := List.length_pos_iff.mpr hne
            have m4 := mod_bd (cell ns 1 / 243) (m := 4) (by decide)
            obtain ⟨z, hz, ez⟩ := atI_ints (ns := [10 ^ (9 : Int).toNat, -1, -(10 ^ (20 : Int).toNat), 10]) (z := cell ns 1 / 243 % 4) m4.1 m4.2
            refine q_asg (ev_ixN (el_lst (ea_cons (ev_pow ev_c ev_c ⟨by decide, by decide, by decide⟩) (ea_3 (ev_neg ev_c) (ev_neg (ev_pow ev_c ev_c ⟨by decide, by decide, by decide⟩)) ev_c)) (by decide)) (ev_mod (ev_fdiv (ev_cell (ex_l e04 hS) hl rfl ev_c (by decide) (by decide)) ev_c ⟨by decide, by decide⟩) ev_c (by decide)) ez) fun H5 e5 => ?_
            have e05 := e04.trans e5
            have h5 := e5 _ _ h4
            have mL := mod_bd (cell ns 1 / 27) (m := (cs.length : Int)) (by omega)
            refine s_setL (j := (cell ns 1 / 27 % (cs.length : Int)).toNat) h5 (ev_var rfl) (ev_var rfl) (ev_of (ev_mod (ev_fdiv (ev_cell (ex_l e05 hS) hl rfl ev_c (by decide) (by decide)) ev_c ⟨by decide, by decide⟩) (ev_of (ev_len' (ev_var rfl) (sq_of h5)) (by rw [List.length_map])) (by omega)) ?_) ?_ fun H6 e6 => ?_
            · exact congrArg V.int (by omega)
            · rw [List.length_map]
              omega
            · refine ⟨p, cs.set (cell ns 1 / 27 % (cs.length : Int)).toNat z, _, _, _, rfl, (e05.trans e6).mut hp0, hp0, ?_, by rw [List.length_set]; exact hlen⟩
              rw [upd_same, List.map_set]
          · exact ⟨p, cs, _, _, _, rfl, e03.trans e4, hp0, e4 _ _ h3, hlen⟩
        · clear h3 hlen hp0 e03
          rintro σ' H4 ⟨p, cs, y2, y4, y5, rfl, e04, hp0, h4, hlen⟩
          exact s_ret (ev_var rfl) fun H5 e5 => k p H5 cs (by omega) hp0 (e04.trans e5) (e5 _ _ h4)
    · have m6 := mod_bd (cell ns 1) (m := 6) (by decide)
      refine s_retL (el_is (ys := ((List.range (1 + cell ns 1 % 6).toNat).map fun i : Nat => 1 + cell ns (2 + (i : Int)) % 9).map V.int) (el_lcR (n := 1 + cell ns 1 % 6) (fun _ => true) (fun i => .int (1 + cell ns (2 + (i : Int)) % 9)) (ea_1 (ev_add ev_c (ev_mod (ev_cell (ex_l e1 hS) hl rfl ev_c (by decide) (by decide)) ev_c (by decide)))) ⟨by omega, by omega⟩ (fun _ => rfl) (fun i _ _ _ => et_yes)
        (fun i hi _ H2 e2 => ev_add ev_c (ev_mod (ev_cell (ex_l (e1.trans e2) hS) hl rfl (ev_add ev_c (ev_var rfl)) (by omega) (by omega)) ev_c (by decide)))) ?_) fun p H3 hp e3 h3 => ?_
      · rw [filter_tt, List.map_map]
        rfl
      · exact k p H3 _ (by rw [List.length_map, List.length_range]; omega) (fresh_back e1 hp) (e1.trans e3) h3
/-- a bound, far or near -/
def bnd (z : Int) : Int := if z % 7 = 1 then (if z / 7 % 2 = 0 then 10 ^ 30 else -(10 ^ 30)) else z / 7 % 48 - 3
theorem bnd_sm (z : Int) : (bnd z).natAbs ≤ 10 ^ 30 := by
  unfold bnd
  split
  · split <;> decide
  · have h1 : 0 ≤ z / 7 % 48 := Int.emod_nonneg _ (by decide)
    have h2 : z / 7 % 48 < 48 := Int.emod_lt_of_pos _ (by decide)
    have : (z / 7 % 48 - 3).natAbs ≤ 48 := by omega
    exact Nat.le_trans this (by decide)
def sp_bound_by : Sp := fun vs H Q _ => ∃ z : Int, vs = [.int z] ∧ 0 ≤ z ∧ RetV (.int (bnd z)) H Q
theorem cal_bound_by (D : Dn K mg "_law_bound_by" s_law_bound_by ["_law_cell_here"]) (T : Tp mg) : Cal P w K mg base "_law_bound_by" 1 ["_law_cell_here"] sp_bound_by := by
  refine cal_of D sc_law_bound_by (fun vs H Q E h => ?_) (fun f cdv A outer s H vs Q E hr h => ?_)
  · obtain ⟨z, rfl, _⟩ := h
    rfl
  · obtain ⟨z, rfl, hz, k⟩ := h
    refine ⟨_, (pss_cons (ps_if (pt_cmpR op_eq (pe_op op_mod (pv 0) pe_int) pe_int (nomark _)) (pss_one (ps_ret (pe_ix (r := rIxL K) ix_list (pe_lst (pa_cons (pe_op op_pow pe_int pe_int) (pa_cons (pe_un un_neg (pe_op op_pow pe_int pe_int)) pa_nil))) (pe_op op_mod (pe_op op_fdiv (pv 0) pe_int) pe_int) (fun _ _ => rfl)))) pss_nil) (pss_one (ps_ret (pe_op op_sub (pe_op op_mod (pe_op op_fdiv (pv 0) pe_int) pe_int) pe_int)))), ?_⟩
    unfold bnd at k
    refine q_when (et_test (ev_eqI (ev_mod (ev_var rfl) ev_c (by decide)) ev_c)) (fun hb H1 e1 => ?_) (fun hb H1 e1 => ?_)
    · have hb := of_decide_eq_true hb
      rw [if_pos hb] at k
      have m2 := mod_bd (z / 7) (m := 2) (by decide)
      refine s_ret (v := .int (if z / 7 % 2 = 0 then 10 ^ 30 else -(10 ^ 30))) (ev_ixN (el_lst (ea_2 (ev_pow ev_c ev_c ⟨by decide, by decide, by decide⟩) (ev_neg (ev_pow ev_c ev_c ⟨by decide, by decide, by decide⟩))) (by decide)) (ev_mod (ev_fdiv (ev_var rfl) ev_c ⟨by decide, by decide⟩) ev_c (by decide)) ?_) fun H2 e2 => k H2 (e1.trans e2)
      by_cases h : z / 7 % 2 = 0
      · rw [h, if_pos rfl]
        rfl
      · have h1 : z / 7 % 2 = 1 := by omega
        rw [h1, if_neg (by decide)]
        rfl
    · have hb := of_decide_eq_false hb
      rw [if_neg hb] at k
      exact s_ret (ev_sub (ev_mod (ev_fdiv (ev_var rfl) ev_c ⟨by decide, by decide⟩) ev_c (by decide)) ev_c) fun H2 e2 => k H2 (e1.trans e2)
end

/-! ### what is refused -/
structure OneOk {K : PySem.W.Frag} {mg : Str → Option Value} (EX : Ecs K mg) (C : Addr) (n : Nat) : Prop where
  one : OneOf EX C n
  ve : PySem.W.kitOne K (.ref C) (.type "ValueError") = some true
  ex : PySem.W.exmOne K (.ref C) (.ref EX.a_InnError) = some true
structure Ones {K : PySem.W.Frag} {mg : Str → Option Value} (EX : Ecs K mg) : Prop where
  bh : OneOk EX EX.a_BadHouse 0
  bs : OneOk EX EX.a_BadSpan 1
  np : OneOk EX EX.a_NoPromise 3
  nc : OneOk EX EX.a_NoClosing 4
  nw : OneOk EX EX.a_NoWayBack 5
/-- asked this way the inn refuses, and so -/
inductive Refd {K : PySem.W.Frag} {mg : Str → Option Value} (EX : Ecs K mg) (S : InnS) (f l k : Int) : Int → Nat → Addr → Prop where
  | s0 : isSpan S.cs f l k = false → Refd EX S f l k 0 1 EX.a_BadSpan
  | s1 : isSpan S.cs f l k = false → Refd EX S f l k 1 1 EX.a_BadSpan
  | dr : S.l = [] → Refd EX S f l k 2 3 EX.a_NoPromise
  | re : S.m = [] → Refd EX S f l k 3 4 EX.a_NoClosing
  | rf : S.l = [] → Refd EX S f l k 4 3 EX.a_NoPromise
  | un : S.ps = [] → Refd EX S f l k 5 5 EX.a_NoWayBack
theorem Refd.ok {K : PySem.W.Frag} {mg : Str → Option Value} {EX : Ecs K mg} (O : Ones EX) {S : InnS} {f l k way : Int} {j : Nat} {C : Addr} (h : Refd EX S f l k way j C) : OneOk EX C j ∧ j < 6 := by
  cases h
  · exact ⟨O.bs, by decide⟩
  · exact ⟨O.bs, by decide⟩
  · exact ⟨O.np, by decide⟩
  · exact ⟨O.nc, by decide⟩
  · exact ⟨O.np, by decide⟩
  · exact ⟨O.nw, by decide⟩
def Asked {K : PySem.W.Frag} {mg : Str → Option Value} (EX : Ecs K mg) (C : Addr) (H : Hp) (S : InnS) (t : Addr) (way : Int) (j : Nat) (c : Addr) : Prop := InnAt C H S ∧ ∃ f l k : Int, H t = some (.tup [.int f, .int l, .int k]) ∧ sm f ∧ sm l ∧ sm k ∧ Refd EX S f l k way j c
theorem Asked.ex {K : PySem.W.Frag} {mg : Str → Option Value} {EX : Ecs K mg} {C : Addr} {H H' : Hp} {S : InnS} {t : Addr} {way : Int} {j : Nat} {c : Addr} (h : Asked EX C H S t way j c) (e : Ex H H') : Asked EX C H' S t way j c := by
  obtain ⟨I, f, l, k, ht, r⟩ := h
  exact ⟨I.ex e, f, l, k, e _ _ ht, r⟩
def sp_asked {K : PySem.W.Frag} {mg : Str → Option Value} (EX : Ecs K mg) (C : Addr) : Sp := fun vs H Q E => ∃ (S : InnS) (t : Addr) (way : Int) (j : Nat) (c : Addr), vs = [.ref S.o, .int way, .ref t] ∧ Asked EX C H S t way j c ∧ ∀ H', Ex H H' → E (.ref c) none H'
def sp_word {K : PySem.W.Frag} {mg : Str → Option Value} (EX : Ecs K mg) (C : Addr) : Sp := fun vs H Q _ => ∃ (S : InnS) (t : Addr) (way : Int) (j : Nat) (c : Addr), vs = [.ref S.o, .int way, .ref t] ∧ Asked EX C H S t way j c ∧ RetV (.int (11 + (j : Int))) H Q
def sp_none (K : PySem.W.Frag) : Sp := fun vs H Q _ => ∃ (b : Addr) (cs : List Int), vs = [.ref b] ∧ SqL K H b (cs.map V.int) ∧ cs.length ≤ 1000 ∧ isHouse cs = false ∧ RetV (.bl true) H Q
section
variable {P : Program} {w : World} {K : PySem.W.Frag} {mg : Str → Option Value} {base : Heap}
theorem s_retR {te : TE} {D : Ends} {σ : L2.St} {H : Hp} (h : te σ H D.rt) : tRet te D σ H := h
theorem cal_asked {TT : List (Addr × Str)} (IT : InnT K mg) (D : Dn K mg "_law_asked" s_law_asked ["_law_inn", "_law_way", "_law_span"]) (T : Tp mg) (EX : Ecs K mg) (M_promise : MetX P w K mg base IT.a "promise" 6 ["self", "first", "last", "kind"] (sp_promise EX IT.a TT)) (M_close : MetX P w K mg base IT.a "close" 6 ["self", "first", "last", "kind"] (sp_close EX IT.a TT))
    (M_drop : MetX P w K mg base IT.a "drop" 2 ["self", "number"] (sp_drop EX IT.a TT)) (M_reopen : MetX P w K mg base IT.a "reopen" 2 ["self", "number"] (sp_reopen EX IT.a TT)) (M_rooms_for : MetX P w K mg base IT.a "rooms_for" 11 ["self", "number"] (sp_rooms_for EX IT.a TT)) (M_undo : MetX P w K mg base IT.a "undo" 1 ["self"] (sp_undo EX IT.a TT)) :
    CalX P w K mg base "_law_asked" 12 ["_law_inn", "_law_way", "_law_span"] (sp_asked EX IT.a) := by
  refine cal_ofX D sc_law_asked (fun vs H Q E h => ?_) (fun f cdv A outer s H vs Q E hr h => ?_)
  · obtain ⟨S, t, way, j, c, rfl, _⟩ := h
    rfl
  · obtain ⟨S, t, way, j, c, rfl, ⟨I, f, l, k, ht, hf, hl, hk, R⟩, hE⟩ := h
    refine ⟨_, (pss_cons (ps_if (pt_cmpR op_eq (pv 1) pe_int (nomark _)) (pss_one (ps_ret (pe_metX M_promise IT.cl takesOf (hr.mono (by decide)) (pv 0) (pa_cons (pe_ix (r := rIxT K) ix_tup (pv 2) pe_int (fun _ _ => rfl)) (pa_cons (pe_ix (r := rIxT K) ix_tup (pv 2) pe_int (fun _ _ => rfl)) (pa_cons (pe_ix (r := rIxT K) ix_tup (pv 2) pe_int (fun _ _ => rfl)) pa_nil)))))) pss_nil) (pss_cons (ps_if (pt_cmpR op_eq (pv 1) pe_int (nomark _)) (pss_one (ps_ret (pe_metX M_close IT.cl takesOf (hr.mono (by decide)) (pv 0) (pa_cons (pe_ix (r := rIxT K) ix_tup (pv 2) pe_int (fun _ _ => rfl)) (pa_cons (pe_ix (r := rIxT K) ix_tup (pv 2) pe_int (fun _ _ => rfl)) (pa_cons (pe_ix (r := rIxT K) ix_tup (pv 2) pe_int (fun _ _ => rfl)) pa_nil)))))) pss_nil) (pss_cons (ps_if (pt_cmpR op_eq (pv 1) pe_int (nomark _)) (pss_one (ps_ret (pe_metX M_drop IT.cl takesOf (hr.mono (by decide)) (pv 0) (pa_cons (pe_ix (r := rIxT K) ix_tup (pv 2) pe_int (fun _ _ => rfl)) pa_nil)))) pss_nil) (pss_cons (ps_if (pt_cmpR op_eq (pv 1) pe_int (nomark _)) (pss_one (ps_ret (pe_metX M_reopen IT.cl takesOf (hr.mono (by decide)) (pv 0) (pa_cons (pe_ix (r := rIxT K) ix_tup (pv 2) pe_int (fun _ _ => rfl)) pa_nil)))) pss_nil) (pss_cons (ps_if (pt_cmpR op_eq (pv 1) pe_int (nomark _)) (pss_one (ps_ret (pe_metX M_rooms_for IT.cl takesOf (hr.mono (by decide)) (pv 0) (pa_cons (pe_ix (r := rIxT K) ix_tup (pv 2) pe_int (fun _ _ => rfl)) pa_nil)))) pss_nil) (pss_one (ps_ret (pe_metX0 M_undo IT.cl takesOf (hr.mono (by decide)) (pv 0))))))))), ?_⟩
    have i0 : ∀ {σ : L2.St} {H' : Hp}, Ex H H' → σ[2]? = some (some (.ref t)) → Ev (tOp (rIxT K) (tVar 2) (tC (.int 0))) σ H' (.int f) := fun e hv => ev_ixT (ev_var hv) ev_c (st_of (e _ _ ht)) (atI_nat (j := 0) rfl)
    have i1 : ∀ {σ : L2.St} {H' : Hp}, Ex H H' → σ[2]? = some (some (.ref t)) → Ev (tOp (rIxT K) (tVar 2) (tC (.int 1))) σ H' (.int l) := fun e hv => ev_ixT (ev_var hv) ev_c (st_of (e _ _ ht)) (atI_nat (j := 1) rfl)
    have i2 : ∀ {σ : L2.St} {H' : Hp}, Ex H H' → σ[2]? = some (some (.ref t)) → Ev (tOp (rIxT K) (tVar 2) (tC (.int 2))) σ H' (.int k) := fun e hv => ev_ixT (ev_var hv) ev_c (st_of (e _ _ ht)) (atI_nat (j := 2) rfl)
    cases R with
    | s0 h =>
      refine q_when (b := true) (et_is (et_test (ev_eqI (ev_var rfl) ev_c)) (by decide)) (fun _ H1 e1 => ?_) (fun z => nomatch z)
      refine s_retR (mx_run (ev_var rfl) (I.ex e1).ob rfl (ea_3 (i0 e1 rfl) (i1 e1 rfl) (i2 e1 rfl)) fun H2 e2 => ?_)
      exact ⟨S, f, l, k, rfl, I.ex (e1.trans e2), hf, hl, hk, .inl ⟨h, fun H3 e3 => hE _ ((e1.trans e2).trans e3)⟩⟩
    | s1 h =>
      refine q_when (b := false) (et_is (et_test (ev_eqI (ev_var rfl) ev_c)) (by decide)) (fun z => nomatch z) (fun _ H0 e0 => ?_)
      refine q_when (b := true) (et_is (et_test (ev_eqI (ev_var rfl) ev_c)) (by decide)) (fun _ H1 e1' => ?_) (fun z => nomatch z)
      have e1 := e0.trans e1'
      refine s_retR (mx_run (ev_var rfl) (I.ex e1).ob rfl (ea_3 (i0 e1 rfl) (i1 e1 rfl) (i2 e1 rfl)) fun H2 e2 => ?_)
      exact ⟨S, f, l, k, rfl, I.ex (e1.trans e2), hf, hl, hk, .inl ⟨h, fun H3 e3 => hE _ ((e1.trans e2).trans e3)⟩⟩
    | dr h =>
      refine q_when (b := false) (et_is (et_test (ev_eqI (ev_var rfl) ev_c)) (by decide)) (fun z => nomatch z) (fun _ H0 e0 => ?_)
      refine q_when (b := false) (et_is (et_test (ev_eqI (ev_var rfl) ev_c)) (by decide)) (fun z => nomatch z) (fun _ H0' e0' => ?_)
      refine q_when (b := true) (et_is (et_test (ev_eqI (ev_var rfl) ev_c)) (by decide)) (fun _ H1 e1' => ?_) (fun z => nomatch z)
      have e1 := (e0.trans e0').trans e1'
      refine s_retR (mx_run (ev_var rfl) (I.ex e1).ob rfl (ea_1 (i0 e1 rfl)) fun H2 e2 => ?_)
      exact ⟨S, f, rfl, I.ex (e1.trans e2), hf, .inl ⟨h, fun H3 e3 => hE _ ((e1.trans e2).trans e3)⟩⟩
    | re h =>
      refine q_when (b := false) (et_is (et_test (ev_eqI (ev_var rfl) ev_c)) (by decide)) (fun z => nomatch z) (fun _ H0 e0 => ?_)
      refine q_when (b := false) (et_is (et_test (ev_eqI (ev_var rfl) ev_c)) (by decide)) (fun z => nomatch z) (fun _ H0' e0' => ?_)
      refine q_when (b := false) (et_is (et_test (ev_eqI (ev_var rfl) ev_c)) (by decide)) (fun z => nomatch z) (fun _ H2' e2' => ?_)
      refine q_when (b := true) (et_is (et_test (ev_eqI (ev_var rfl) ev_c)) (by decide)) (fun _ H1 e1' => ?_) (fun z => nomatch z)
      have e1 := ((e0.trans e0').trans e2').trans e1'
      refine s_retR (mx_run (ev_var rfl) (I.ex e1).ob rfl (ea_1 (i0 e1 rfl)) fun H2 e2 => ?_)
      exact ⟨S, f, rfl, I.ex (e1.trans e2), hf, .inl ⟨h, fun H3 e3 => hE _ ((e1.trans e2).trans e3)⟩⟩
    | rf h =>
      refine q_when (b := false) (et_is (et_test (ev_eqI (ev_var rfl) ev_c)) (by decide)) (fun z => nomatch z) (fun _ H0 e0 => ?_)
      refine q_when (b := false) (et_is (et_test (ev_eqI (ev_var rfl) ev_c)) (by decide)) (fun z => nomatch z) (fun _ H0' e0' => ?_)
      refine q_when (b := false) (et_is (et_test (ev_eqI (ev_var rfl) ev_c)) (by decide)) (fun z => nomatch z) (fun _ H2' e2' => ?_)
      refine q_when (b := false) (et_is (et_test (ev_eqI (ev_var rfl) ev_c)) (by decide)) (fun z => nomatch z) (fun _ H3' e3' => ?_)
      refine q_when (b := true) (et_is (et_test (ev_eqI (ev_var rfl) ev_c)) (by decide)) (fun _ H1 e1' => ?_) (fun z => nomatch z)
      have e1 := (((e0.trans e0').trans e2').trans e3').trans e1'
      refine s_retR (mx_run (ev_var rfl) (I.ex e1).ob rfl (ea_1 (i0 e1 rfl)) fun H2 e2 => ?_)
      exact ⟨S, f, rfl, I.ex (e1.trans e2), hf, .inl ⟨h, fun H3 e3 => hE _ ((e1.trans e2).trans e3)⟩⟩
    | un h =>
      refine q_when (b := false) (et_is (et_test (ev_eqI (ev_var rfl) ev_c)) (by decide)) (fun z => nomatch z) (fun _ H0 e0 => ?_)
      refine q_when (b := false) (et_is (et_test (ev_eqI (ev_var rfl) ev_c)) (by decide)) (fun z => nomatch z) (fun _ H0' e0' => ?_)
      refine q_when (b := false) (et_is (et_test (ev_eqI (ev_var rfl) ev_c)) (by decide)) (fun z => nomatch z) (fun _ H2' e2' => ?_)
      refine q_when (b := false) (et_is (et_test (ev_eqI (ev_var rfl) ev_c)) (by decide)) (fun z => nomatch z) (fun _ H3' e3' => ?_)
      refine q_when (b := false) (et_is (et_test (ev_eqI (ev_var rfl) ev_c)) (by decide)) (fun z => nomatch z) (fun _ H1 e1' => ?_)
      have e1 := (((e0.trans e0').trans e2').trans e3').trans e1'
      refine s_retR (mx_run (ev_var rfl) (I.ex e1).ob rfl ea_nil fun H2 e2 => ?_)
      exact ⟨S, rfl, I.ex (e1.trans e2), .inl ⟨h, fun H3 e3 => hE _ ((e1.trans e2).trans e3)⟩⟩
theorem cal_word (IT : InnT K mg) (D : Dn K mg "_law_word" s_law_word ["_law_inn", "_law_way", "_law_span"]) (T : Tp mg) (EX : Ecs K mg) (OK : Ones EX) (C_law_asked : CalX P w K mg base "_law_asked" 12 ["_law_inn", "_law_way", "_law_span"] (sp_asked EX IT.a)) (C_law_kind : CalP P w K mg base "_law_kind" 1 ["_law_e"] (sp_kind EX)) :
    Cal P w K mg base "_law_word" 13 ["_law_inn", "_law_way", "_law_span"] (sp_word EX IT.a) := by
  refine cal_of D sc_law_word (fun vs H Q E h => ?_) (fun f cdv A outer s H vs Q E hr h => ?_)
  · obtain ⟨S, t, way, j, c, rfl, _⟩ := h
    rfl
  · obtain ⟨S, t, way, j, c, rfl, hA, k⟩ := h
    obtain ⟨OC, hj⟩ := (show Refd EX S _ _ _ way j c from hA.2.choose_spec.choose_spec.choose_spec.2.2.2.2).ok OK
    refine ⟨_, (pss_cons (L2N.ps_try_as (i := 3) (Wout := fun _ _ _ _ => False) rfl rfl sc_law_word.nd rfl rfl ⟨rfl, by decide, Or.inl EX.g_InnError⟩ takes0N (fun W pn xe tk _ => (pss_one (ps_expr (pe_calX C_law_asked tk (hr.mono (by decide)) (by rfl) (pa_cons (pv 0) (pa_cons (pv 1) (pa_cons (pv 2) pa_nil))))))) (fun a oe cls d pn hz hf => (pss_one (ps_ret (pe_op op_mul (pe_calP C_law_kind List.mem_cons_self hz.zc hf (suiteHot hz hf) ((roomS hr).mono (by decide)) (by rfl) (pa_cons (pv 3) pa_nil)) (pe_callTy call_int1 (by rfl) T.z_int (by decide +kernel) (pa_cons (pe_callB (r := rIsP K _ _ _) (call_isP List.mem_cons_self hz.zc hf) (by rfl) T.z_isinstance (by decide +kernel) (pa_cons (pv 3) (pa_cons (pe_bltn (v := .ty "ValueError") (by rfl) T.z_ValueError (by decide +kernel) rfl) pa_nil))) pa_nil))))))) (pss_one (ps_ret pe_int))), ?_⟩
    refine seq_run ?_
    refine s_dropX ?_
    refine ea_3 (ev_var rfl) (ev_var rfl) (ev_var rfl) H (Ex.refl _) _ fun H1 e1 => ?_
    refine ⟨S, t, way, j, c, rfl, hA.ex e1, fun H2 e2 => ⟨true, OC.ex, fun _ x hx => ?_, fun z => nomatch z⟩⟩
    refine s_ret (v := .int (11 + (j : Int))) (ev_of (ev_mulR (i := 11 + (j : Int)) (j := 1) (ev_callPk (ea_1 (ev_var rfl)) fun oe hz hf' H3 e3 Q' q' E' => ⟨c, none, j, rfl, hj, OC.one, hz, hf', fun _ z => (nomatch z), q'⟩) (ev_of (ev_intB (ev_isPT (ev_var rfl) OC.one.isE rfl (fun _ z => nomatch z) OC.ve)) rfl) ⟨by decide, by decide⟩) (by rw [Int.mul_one])) fun H3 e3 => k _ ((e1.trans e2).trans e3)
theorem cal_none (IT : InnT K mg) (D : Dn K mg "_law_none" s_law_none ["_law_counts"]) (T : Tp mg) (EX : Ecs K mg) (OK : Ones EX) (MI : MakX P w K mg base IT.a 2 ["self", "counts"] (sp_init EX IT.a)) (C_law_kind : CalP P w K mg base "_law_kind" 1 ["_law_e"] (sp_kind EX)) : Cal P w K mg base "_law_none" 4 ["_law_counts"] (sp_none K) := by
  refine cal_of D sc_law_none (fun vs H Q E h => ?_) (fun f cdv A outer s H vs Q E hr h => ?_)
  · obtain ⟨b, cs, rfl, _⟩ := h
    rfl
  · obtain ⟨b, cs, rfl, hS, hl, hh, k⟩ := h
    refine ⟨_, (pss_cons (L2N.ps_try_as (i := 1) (Wout := fun _ _ _ _ => False) rfl rfl sc_law_none.nd rfl rfl ⟨rfl, by decide, Or.inl EX.g_InnError⟩ takes0N (fun W pn xe tk _ => (pss_one (ps_expr (pe_makX MI IT.g tk (hr.mono (by decide)) (by rfl) (pa_cons (pv 0) pa_nil))))) (fun a oe cls d pn hz hf => (pss_one (ps_ret (pe_and (pe_cmpR op_eq (pe_calP C_law_kind List.mem_cons_self hz.zc hf (suiteHot hz hf) ((roomS hr).mono (by decide)) (by rfl) (pa_cons (pv 1) pa_nil)) pe_int (nomark _)) (pe_one (pe_callB (r := rIsP K _ _ _) (call_isP List.mem_cons_self hz.zc hf) (by rfl) T.z_isinstance (by decide +kernel) (pa_cons (pv 1) (pa_cons (pe_bltn (v := .ty "ValueError") (by rfl) T.z_ValueError (by decide +kernel) rfl) pa_nil))))))))) (pss_one (ps_ret pe_bl))), ?_⟩
    refine seq_run ?_
    refine s_dropR ?_
    refine ea_1 (ev_var rfl) H (Ex.refl _) _ fun H1 e1 => ?_
    intro x dx hx hdx hne
    have e2 : Ex H (upd (upd H1 dx (.own x)) x (.ins IT.a dx [])) := Ex.mut (Ex.mut e1 (fresh_back e1 hdx)) (fresh_back e1 hx)
    refine ⟨x, dx, b, cs, rfl, upd_same, ex_l e2 hS, hl, .inr ⟨hh, fun H3 e3 => ⟨true, OK.bh.ex, fun _ y hy => ?_, fun z => nomatch z⟩⟩⟩
    refine s_ret (v := .bl true) (ev_of (ev_andV (a := true) (b := true) (ev_of (ev_eqI (ev_callPk (z := .int (11 + (0 : Nat) : Int)) (ea_1 (ev_var rfl)) fun oe hz hf' H3 e3 Q' q' E' => ⟨EX.a_BadHouse, none, 0, rfl, by decide, OK.bh.one, hz, hf', fun _ z => (nomatch z), q'⟩) ev_c) rfl) fun _ => ev_isPT (ev_var rfl) OK.bh.one.isE rfl (fun _ z => nomatch z) OK.bh.ve) rfl) fun H4 e4 => k _ ((e2.trans e3).trans e4)
end

/-! ### an inn of one promise, or of one closing, is never short -/
theorem short_of_le {n : Nat} {ws ks : List Int} (h : ∀ k : Nat, atLeast ws (k : Int) ≤ atLeast ks (k : Int)) : shortL n ws ks = none := by
  unfold shortL
  refine List.find?_eq_none.mpr fun k _ => ?_
  have := h k
  simp only [decide_eq_true_eq]
  omega
theorem both_guest {cs : List Int} (hh : House cs) (n : Int) (t : Addr) : Both cs [] [ent n 0 2 0 t] := by
  have := hh.pos
  refine ⟨hh, List.nodup_nil, by simp, fun e he => (by cases he), fun e he => ?_, by show 0 < 64; decide, by show 1 < 64; decide⟩
  rw [List.mem_singleton.mp he]
  exact ⟨by show (0 : Int) ≤ 0; decide, by show (0 : Int) < 2; decide, by show (2 : Int) ≤ 40; decide, by show (0 : Int) ≤ 0; decide, by show (0 : Int) < (cs.length : Int); omega⟩
theorem both_shut {cs : List Int} (hh : House cs) (k : Int) (t : Addr) : Both cs [ent k 3 4 0 t] [] := by
  have := hh.pos
  refine ⟨hh, by simp, List.nodup_nil, fun e he => ?_, fun e he => (by cases he), by show 1 < 64; decide, by show 0 < 64; decide⟩
  rw [List.mem_singleton.mp he]
  exact ⟨by show (0 : Int) ≤ 3; decide, by show (3 : Int) < 4; decide, by show (4 : Int) ≤ 40; decide, by show (0 : Int) ≤ 0; decide, by show (0 : Int) < (cs.length : Int); omega⟩
theorem both_nil {cs : List Int} (hh : House cs) : Both cs [] [] := ⟨hh, List.nodup_nil, List.nodup_nil, fun e he => (by cases he), fun e he => (by cases he), by decide, by decide⟩
theorem never_nobody {cs : List Int} {m : List Ent} (B : Both cs m []) : firstN (nightP cs m []) = none := firstN_none fun j _ => by
  rw [night_eq B.hh B.mn B.ln B.om B.ol]
  refine short_of_le fun k => ?_
  have h0 : wantsL [] (j : Int) = [] := List.eq_nil_of_length_eq_zero (Nat.le_zero.mp (wants_len [] (j : Int)))
  rw [h0]
  exact Nat.zero_le _
theorem never_guest {cs : List Int} (hh : House cs) (h1 : 1 ≤ cs.headD 0) (n : Int) (t : Addr) : firstN (nightP cs [] [ent n 0 2 0 t]) = none := firstN_none fun j _ => by
  have B := both_guest hh n t
  rw [night_eq B.hh B.mn B.ln B.om B.ol]
  refine short_of_le fun k => ?_
  have hall : ∀ x ∈ (wantsL [ent n 0 2 0 t] (j : Int)).map (fun p : Int × Int => p.2), x = 0 := fun x hx => by
    obtain ⟨p, hp, rfl⟩ := List.mem_map.mp hx
    obtain ⟨e1, e2⟩ := wants_mem hp
    have e2 : p.1 = n := by simpa [nums, ent] using e2
    rw [e1, e2]
    unfold kindN
    rw [show look [ent n 0 2 0 t] n = some (ent n 0 2 0 t) from look_mem (e := ent n 0 2 0 t) (by simp) List.mem_cons_self]
    rfl
  have hlen : ((wantsL [ent n 0 2 0 t] (j : Int)).map (fun p : Int × Int => p.2)).length ≤ 1 := by
    rw [List.length_map]
    exact wants_len _ _
  by_cases hk : k = 0
  · subst hk
    have h2 : atLeast ((wantsL [ent n 0 2 0 t] (j : Int)).map (fun p : Int × Int => p.2)) ((0 : Nat) : Int) ≤ 1 := Nat.le_trans (List.length_filter_le _ _) hlen
    refine Nat.le_trans h2 ?_
    have hsum : 1 ≤ cs.sum := by
      cases cs with
      | nil => simp at h1
      | cons c r =>
        have := sum_nonneg r fun x hx => hh.nn x (List.mem_cons_of_mem _ hx)
        simp only [List.headD_cons] at h1
        rw [List.sum_cons]
        omega
    have hkl := kinds_len hh
    have h0 : 0 < (kinds cs).length := by omega
    refine List.length_pos_of_mem (a := kd cs ((0 : Nat) : Int)) (List.mem_filter.mpr ⟨List.mem_map.mpr ⟨((0 : Nat) : Int), ?_, rfl⟩, ?_⟩)
    · unfold roomsL
      refine List.mem_map.mpr ⟨0, ?_, rfl⟩
      unfold openR
      refine List.mem_filter.mpr ⟨List.mem_range.mpr h0, ?_⟩
      show (!decide ((kinds cs).getD 0 0 ∈ ([] : List Int))) = true
      simp
    · have := (kd_at h0).2.1
      simp only [decide_eq_true_eq]
      exact this
  · have h2 : atLeast ((wantsL [ent n 0 2 0 t] (j : Int)).map (fun p : Int × Int => p.2)) (k : Int) = 0 := by
      refine List.length_eq_zero_iff.mpr (List.filter_eq_nil_iff.mpr fun x hx => ?_)
      rw [hall x hx]
      simp only [decide_eq_true_eq]
      omega
    rw [h2]
    exact Nat.zero_le _

/-! ### refused, made good, taken back -/
section
variable {K : PySem.W.Frag} {σ : L2.St} {H : Hp} {t u : TT} {te tl ta tb : TE} {tu : TS} {tz : TS} {D : Ends}
theorem if_run (h : t σ H fun b H1 => if b = true then tu { D with nx := tz D } σ H1 else tz D σ H1) : tSeq (tIfS t tu tNext) tz D σ H := h
theorem or_run {Q : Bool → Hp → Prop} (h : t σ H fun c H1 => if c = true then Q true H1 else u σ H1 Q) : tOr t u σ H Q := h
theorem tne_run {n : Int} {Q : Bool → Hp → Prop} (h : te σ H fun x H1 => rNe x (.int n) H1 fun z H2 => ∃ k, z = .bl k ∧ Q k H2) : tTest (tOp rNe te (tC (.int n))) σ H Q := h
theorem tcb_run {r : List V → Hp → VK → Prop} {Q : VK} (h : te σ H fun x H1 => r [x] H1 Q) : tCB r (tCons te tNil) σ H Q := h
theorem tp_run {x : V} {tv : TE} {Q : List (V × V) → Hp → Prop} (h : tv σ H fun y H2 => Q [(x, y)] H2) : tPairs [(tC x, tv)] σ H Q := h
theorem tnn_run {Q : Bool → Hp → Prop} (h : te σ H fun x H1 => rNotN x .non H1 fun z H2 => ∃ k, z = .bl k ∧ Q k H2) : tTest (tOp rNotN te (tC .non)) σ H Q := h
theorem top_run {r : R2} {Q : Bool → Hp → Prop} (h : ta σ H fun x H1 => tb σ H1 fun y H2 => r x y H2 fun z H3 => ∃ k, z = .bl k ∧ Q k H3) : tTest (tOp r ta tb) σ H Q := h
theorem hne {n : Int} {Q : Bool → Hp → Prop} (h : Q false H) : rNe (.int n) (.int n) H fun z H2 => ∃ k, z = .bl k ∧ Q k H2 := ⟨rfl, false, by simp, h⟩
theorem hnn {Q : Bool → Hp → Prop} (h : Q false H) : rNotN .non .non H fun z H2 => ∃ k, z = .bl k ∧ Q k H2 := ⟨rfl, false, by simp, h⟩
theorem el_lcUA {α : Type} {j : Nat} {vs : List Nat} (l : List α) (enc : α → V) (f : α → Bool) (g : α → V) (h : EvU tl σ H (l.map enc)) (hz : l.length < 50000) (hw : ∀ x, wipe ((wipe σ vs).set j (some x)) vs = wipe σ vs)
    (ht : ∀ x ∈ l, ∀ H1, Ex H H1 → EvT t ((wipe σ vs).set j (some (enc x))) H1 (f x)) (he : ∀ x ∈ l, f x = true → ∀ H1, Ex H H1 → Ev te ((wipe σ vs).set j (some (enc x))) H1 (g x)) :
    EvL (tLc (iTup K tl) (gName j) t te vs) σ H ((l.filter f).map g) := fun H0 e Q q => h H0 e _ fun a H1 ha e1 hx => ⟨a, rfl, ⟨_, st_of hx⟩, fun Dl hD =>
  lc_tup (xs := l.map enc) (CwA H1 l f g Dl) ⟨hD, Ex.new hD, upd_same⟩ (fun i H' _ p => st_of (p.2.1 a _ hx)) (fun i x H' hi p => by
    rw [List.getElem?_map] at hi
    cases hq : l[i]? with
    | none =>
      rw [hq] at hi
      cases hi
    | some b =>
      rw [hq] at hi
      have ex : enc b = x := Option.some.inj hi
      subst ex
      have hm : b ∈ l := List.mem_of_getElem? hq
      exact ⟨hw _, cwA_turn p hq hz (ht b hm H1 (e.trans e1)) (fun hf => he b hm hf H1 (e.trans e1))⟩)
    (fun H' p => by
      have p3 := p.2.2
      rw [List.length_map, List.take_length] at p3
      exact q Dl H' (fresh_back e1 p.1) (e1.trans p.2.1) p3)⟩
theorem ev_eqD0 (ha : EvD ta σ H []) (hb : EvD tb σ H []) : Ev (tOp rEqDA ta tb) σ H (.bl true) := fun H1 e Q q => ha H1 e _ fun p H2 hp e2 g2 => hb H2 (e.trans e2) _ fun p3 H3 hp3 e3 g3 =>
  ⟨p, p3, [], [], rfl, rfl, e3 _ _ g2, g3, rfl, fun _ z => (by cases z), q H3 (e2.trans e3)⟩
theorem ev_neD0 (ha : EvD ta σ H []) (hb : EvD tb σ H []) : Ev (tOp rNeDA ta tb) σ H (.bl false) := fun H1 e Q q => ha H1 e _ fun p H2 hp e2 g2 => hb H2 (e.trans e2) _ fun p3 H3 hp3 e3 g3 =>
  ⟨p, p3, [], [], rfl, rfl, e3 _ _ g2, g3, rfl, fun _ z => (by cases z), q H3 (e2.trans e3)⟩
/-- a method that only reads, giving a new dict -/
theorem ed_met {C o dx : Addr} {mm : Str} {fs : List (Str × V)} {sp : Sp} {kvs : List (Key × V)} (h : Ev te σ H (.ref o)) (ho : H o = some (.ins C dx fs)) (hl : fs.lookup mm = none) (hs : ∀ H1, Ex H H1 → ∀ Q, RetD kvs H1 Q → sp [.ref o] H1 Q E0) : EvD (tMeth C mm sp [] E0 te tNil) σ H kvs := fun H1 e Q q =>
  h H1 e _ fun H2 e2 => ⟨o, dx, fs, rfl, (e.trans e2) _ _ ho, hl, hs H2 (e.trans e2) Q fun p H3 hp e3 g3 => q p H3 (fresh_back e2 hp) (e2.trans e3) g3⟩
end
def calm (sp : Sp) : Sp := fun vs H Q _ => sp vs H Q (fun _ _ _ => False)
def sp_good (C : Addr) (T : List (Addr × Str)) : Sp := fun vs H Q _ => ∃ S : InnS, vs = [.ref S.o] ∧ InnAt C H S ∧ S.l = [] ∧ S.m = [] ∧ S.n = 0 ∧ S.k = 0 ∧ S.ps = [] ∧ House S.cs ∧ 1 ≤ S.cs.headD 0 ∧ LamX.Tabs T H ∧ ∀ H', Q (.bl true) H'
theorem span_zero {cs : List Int} (hh : House cs) (f l : Int) (h0 : 0 ≤ f) (h1 : f < l) (h2 : l ≤ 40) : isSpan cs f l 0 = true := by
  have := hh.pos
  unfold isSpan
  simp only [Bool.and_eq_true, decide_eq_true_eq]
  omega
section
variable {P : Program} {w : World} {K : PySem.W.Frag} {mg : Str → Option Value} {base : Heap}
theorem ev_words {EX : Ecs K mg} {C : Addr} {H : Hp} {σ : L2.St} {S : InnS} {tz : Addr} {tl : TE} (l : List (Int × Nat)) (hl : EvU tl σ H (l.map fun x => .int x.1)) (hn : l.length < 10) (h0 : σ[0]? = some (some (.ref S.o))) (h2 : σ[2]? = some (some (.ref tz))) (h3 : σ.length = 4)
    (hA : ∀ x ∈ l, ∃ c, Asked EX C H S tz x.1 x.2 c) : EvL (tLc (iTup K tl) (gName 3) tYes (tCall (sp_word EX C) [] E0 (tCons (tVar 0) (tCons (tVar 3) (tCons (tVar 2) tNil)))) [3]) σ H ((l.map fun x => 11 + (x.2 : Int)).map V.int) := by
  obtain ⟨a, b, c, d, rfl⟩ : ∃ a b c d, σ = [a, b, c, d] := by
    match σ, h3 with
    | [a, b, c, d], _ => exact ⟨a, b, c, d, rfl⟩
  refine el_is (el_lcUA l (fun x => .int x.1) (fun _ => true) (fun x => .int (11 + (x.2 : Int))) hl (by omega) (fun _ => rfl) (fun x _ H1 _ => et_yes) (fun x hx _ H1 e1 => ?_)) ?_
  · obtain ⟨cc, hc⟩ := hA x hx
    exact ev_call0 (ea_3 (ev_var h0) (ev_var rfl) (ev_var h2)) fun H2 e2 Q q E => ⟨S, tz, x.1, x.2, cc, rfl, (hc.ex e1).ex e2, q⟩
  · rw [filter_tt, List.map_map]
    rfl
theorem cal_made_good {Z : Lams mg base} (IT : InnT K mg) (D : Dn K mg "_law_made_good" s_law_made_good ["_law_inn"]) (T : Tp mg) (EX : Ecs K mg) (C_law_word : Cal P w K mg base "_law_word" 13 ["_law_inn", "_law_way", "_law_span"] (sp_word EX IT.a)) (N_promise : MetC P w K mg base IT.a "promise" 6 ["self", "first", "last", "kind"] (calm (sp_promise EX IT.a Z.T)))
    (N_close : MetC P w K mg base IT.a "close" 6 ["self", "first", "last", "kind"] (calm (sp_close EX IT.a Z.T))) (N_drop : MetC P w K mg base IT.a "drop" 2 ["self", "number"] (calm (sp_drop EX IT.a Z.T))) (N_reopen : MetC P w K mg base IT.a "reopen" 2 ["self", "number"] (calm (sp_reopen EX IT.a Z.T)))
    (N_rooms_for : MetC P w K mg base IT.a "rooms_for" 11 ["self", "number"] (calm (sp_rooms_for EX IT.a Z.T))) (N_undo : MetC P w K mg base IT.a "undo" 1 ["self"] (calm (sp_undo EX IT.a Z.T))) (N_promises : MetC P w K mg base IT.a "promises" 1 ["self"] (sp_promises IT.a)) (N_closings : MetC P w K mg base IT.a "closings" 1 ["self"] (sp_closings IT.a)) :
    Cal P w K mg base "_law_made_good" 14 ["_law_inn"] (sp_good IT.a Z.T) := by
  refine cal_of D sc_law_made_good (fun vs H Q E h => ?_) (fun f cdv A outer s H vs Q E hr h => ?_)
  · obtain ⟨S, rfl, _⟩ := h
    rfl
  · obtain ⟨⟨o, dx, a, d, c, p, cs, l, m, n, k, ps⟩, rfl, I, hl, hm, hn, hk, hp, hh, h1, hT, kk⟩ := h
    cases hl
    cases hm
    cases hn
    cases hk
    cases hp
    have hh : House cs := hh
    have h1 : 1 ≤ cs.headD 0 := h1
    refine ⟨_, (pss_cons (ps_set (i := 1) sc_law_made_good.nd rfl (.inl rfl) (pe_tup (pa_cons pe_int (pa_cons pe_int (pa_cons pe_int pa_nil))))) (pss_cons (ps_set (i := 2) sc_law_made_good.nd rfl (.inr rfl) (pe_tup (pa_cons pe_int (pa_cons pe_int (pa_cons pe_int pa_nil))))) (pss_cons (ps_if (pt_cmpR (r := rNeD K) (op_neD hr.units) (pe_lc (own := [("_law_way", 3)]) (g := gName 3) (by rfl) sc_law_made_good.nd (pi_tup (pe_tup (pa_cons pe_int (pa_cons pe_int (pa_cons pe_int (pa_cons pe_int pa_nil)))))) (blkOk_by (own := [("_law_way", 3)]) (N := ["_law_inn", "_law_span", "_law_zero", "_law_way"]) (sc := defScope s_law_made_good) (by decide +kernel)) (fun _ _ _ _ _ => pg_name (i := 3) sc_law_made_good.nd rfl (Or.inl rfl)) (fun _ _ _ _ _ => pts_nil) (fun _ _ _ _ _ => (pe_cal C_law_word (hr.mono (by decide)) (by rfl) (pa_cons (pv 0) (pa_cons (pv 3) (pa_cons (pv 2) pa_nil)))))) (pe_lst (pa_cons pe_int (pa_cons pe_int (pa_cons pe_int (pa_cons pe_int pa_nil))))) (nomark _)) (pss_one (ps_ret pe_bl)) pss_nil) (pss_cons (ps_if (PW.pt (pw_or (pt_cmpR op_ne (pe_metC N_promise IT.cl (hr.mono (by decide)) (pv 0) (pa_cons pe_int (pa_cons pe_int (pa_cons pe_int pa_nil)))) pe_int (nomark _)) (pw_or (pt_cmpR (r := rEqD K) (op_eqD hr.units) (pe_metC N_rooms_for IT.cl (hr.mono (by decide)) (pv 0) (pa_cons pe_int pa_nil)) (pe_lst pa_nil) (nomark _)) (pw_or1 (pt_cmpR op_notN (pe_metC N_drop IT.cl (hr.mono (by decide)) (pv 0) (pa_cons pe_int pa_nil)) pe_non (nomark _)))))) (pss_one (ps_ret pe_bl)) pss_nil) (pss_cons (ps_if (PW.pt (pw_or (pt_cmpR (r := rNeD K) (op_neD hr.units) (pe_lc (own := [("_law_way", 3)]) (g := gName 3) (by rfl) sc_law_made_good.nd (pi_tup (pe_tup (pa_cons pe_int (pa_cons pe_int (pa_cons pe_int pa_nil))))) (blkOk_by (own := [("_law_way", 3)]) (N := ["_law_inn", "_law_span", "_law_zero", "_law_way"]) (sc := defScope s_law_made_good) (by decide +kernel)) (fun _ _ _ _ _ => pg_name (i := 3) sc_law_made_good.nd rfl (Or.inl rfl)) (fun _ _ _ _ _ => pts_nil) (fun _ _ _ _ _ => (pe_cal C_law_word (hr.mono (by decide)) (by rfl) (pa_cons (pv 0) (pa_cons (pv 3) (pa_cons (pv 2) pa_nil)))))) (pe_lst (pa_cons pe_int (pa_cons pe_int (pa_cons pe_int pa_nil)))) (nomark _)) (pw_or1 (pt_cmpR op_notN (pe_metC0 N_undo IT.cl (hr.mono (by decide)) (pv 0)) pe_non (nomark _))))) (pss_one (ps_ret pe_bl)) pss_nil) (pss_cons (ps_if (PW.pt (pw_or (pt_cmpR op_ne (pe_callB (r := rLenS K) call_len_seq (by rfl) T.z_len (by decide +kernel) (pa_cons (pe_metC N_rooms_for IT.cl (hr.mono (by decide)) (pv 0) (pa_cons pe_int pa_nil)) pa_nil)) pe_int (nomark _)) (pw_or (pt_cmpR op_notN (pe_metC0 N_undo IT.cl (hr.mono (by decide)) (pv 0)) pe_non (nomark _)) (pw_or (pt_cmpR op_ne (pe_metC N_close IT.cl (hr.mono (by decide)) (pv 0) (pa_cons pe_int (pa_cons pe_int (pa_cons pe_int pa_nil)))) pe_int (nomark _)) (pw_or1 (pt_cmpR op_notN (pe_metC N_reopen IT.cl (hr.mono (by decide)) (pv 0) (pa_cons pe_int pa_nil)) pe_non (nomark _))))))) (pss_one (ps_ret pe_bl)) pss_nil) (pss_cons (ps_if (PW.pt (pw_or (pt_cmpR (r := rNeD K) (op_neD hr.units) (pe_lc (own := [("_law_way", 3)]) (g := gName 3) (by rfl) sc_law_made_good.nd (pi_tup (pe_tup (pa_cons pe_int (pa_cons pe_int (pa_cons pe_int pa_nil))))) (blkOk_by (own := [("_law_way", 3)]) (N := ["_law_inn", "_law_span", "_law_zero", "_law_way"]) (sc := defScope s_law_made_good) (by decide +kernel)) (fun _ _ _ _ _ => pg_name (i := 3) sc_law_made_good.nd rfl (Or.inl rfl)) (fun _ _ _ _ _ => pts_nil) (fun _ _ _ _ _ => (pe_cal C_law_word (hr.mono (by decide)) (by rfl) (pa_cons (pv 0) (pa_cons (pv 3) (pa_cons (pv 2) pa_nil)))))) (pe_lst (pa_cons pe_int (pa_cons pe_int (pa_cons pe_int pa_nil)))) (nomark _)) (pw_or1 (pt_cmpR op_notN (pe_metC0 N_undo IT.cl (hr.mono (by decide)) (pv 0)) pe_non (nomark _))))) (pss_one (ps_ret pe_bl)) pss_nil) (pss_cons (ps_if (PW.pt (pw_or (pt_cmpR (r := rNeDT K) (op_neDT hr.units) (pe_metC0 N_closings IT.cl (hr.mono (by decide)) (pv 0)) (pe_disp (pps_cons pe_int (pe_tup (pa_cons pe_int (pa_cons pe_int (pa_cons pe_int pa_nil)))) pps_nil) (by rfl) (by rfl) (fun z => by cases z) (by decide)) (nomark _)) (pw_or1 (pt_cmpR op_notN (pe_metC0 N_undo IT.cl (hr.mono (by decide)) (pv 0)) pe_non (nomark _))))) (pss_one (ps_ret pe_bl)) pss_nil) (pss_one (ps_ret (pe_and (pe_cmpR (op_eq_dictA (hu0 hr)) (pe_metC0 N_promises IT.cl (hr.mono (by decide)) (pv 0)) pe_dnewK (nomark _)) (pe_and (pe_cmpR (op_eq_dictA (hu0 hr)) (pe_metC0 N_closings IT.cl (hr.mono (by decide)) (pv 0)) pe_dnewK (nomark _)) (pe_one (pe_cmpR op_eq (pe_cal C_law_word (hr.mono (by decide)) (by rfl) (pa_cons (pv 0) (pa_cons pe_int (pa_cons (pv 1) pa_nil)))) pe_int (nomark _))))))))))))))), ?_⟩
    have sm0 : sm 0 := by unfold sm; decide
    have sm2 : sm 2 := by unfold sm; decide
    have sm3 : sm 3 := by unfold sm; decide
    have sm4 : sm 4 := by unfold sm; decide
    refine q_asgU (eu_tup (ea_3 ev_c ev_c ev_c) (by show 3 ≤ 100000; decide)) fun ts H1 hts e1 g1 => ?_
    refine q_asgU (eu_tup (ea_3 ev_c ev_c ev_c) (by show 3 ≤ 100000; decide)) fun tz H2 htz e2 g2 => ?_
    -- nothing was done: all is refused
    refine q_when (b := false) (et_is (et_test (ev_neNN (ns := [14, 15, 14, 16]) (ms := [14, 15, 14, 16]) (ev_words [(2, 3), (3, 4), (4, 3), (5, 5)] (eu_tup (ea_cons ev_c (ea_3 ev_c ev_c ev_c)) (by show 4 ≤ 100000; decide)) (by decide) rfl rfl rfl fun x hx => ?_) (el_lst (ea_cons ev_c (ea_3 ev_c ev_c ev_c)) (by show 4 ≤ 100000; decide)))) rfl) (fun z => nomatch z) (fun _ H3 e3 => ?_)
    · have I2 := I.ex (e1.trans e2)
      simp only [List.mem_cons, List.not_mem_nil, or_false] at hx
      rcases hx with rfl | rfl | rfl | rfl
      · exact ⟨_, I2, 0, 0, 0, g2, sm0, sm0, sm0, .dr rfl⟩
      · exact ⟨_, I2, 0, 0, 0, g2, sm0, sm0, sm0, .re rfl⟩
      · exact ⟨_, I2, 0, 0, 0, g2, sm0, sm0, sm0, .rf rfl⟩
      · exact ⟨_, I2, 0, 0, 0, g2, sm0, sm0, sm0, .un rfl⟩
    have e03 := (e1.trans e2).trans e3
    have I3 := I.ex e03
    have gs3 := (e2.trans e3) _ _ g1
    have gz3 := e3 _ _ g2
    have T3 := Tabs.ex hT e03
    -- a promise, its rooms, dropped
    refine if_run (or_run (tne_run (mc_run (ev_var rfl) I3.ob rfl (ea_3 ev_c ev_c ev_c) fun H4 e4 => ?_)))
    have I4 := I3.ex e4
    refine ⟨⟨o, dx, a, d, c, p, cs, [], [], 0, 0, []⟩, 0, 2, 0, rfl, I4, sm0, sm2, sm0, .inr ⟨span_zero hh 0 2 (by decide) (by decide) (by decide), rfl, Nat.zero_le _, fun t => both_guest hh _ t, fun t => never_guest hh h1 _ t, fun d1 t1 p1 H5 D1 => ?_⟩⟩
    refine hne (iteF ?_)
    have I5 : InnAt IT.a H5 ⟨o, dx, a, d1, c, p, cs, [ent 0 0 2 0 t1], [], 1, 0, [.ref p1]⟩ := D1.1
    have x5 := D1.2.1
    have n5 := D1.2.2
    have s5 := x5.tup I4 (e4 _ _ gs3)
    have z5 := x5.tup I4 (e4 _ _ gz3)
    have T5 := x5.t (Tabs.ex T3 e4)
    have d5 : Sps H5 d [] := x5.sps I4 I4.st
    have c5 : Sps H5 c [] := x5.sps I4 I4.sh
    clear D1 x5
    refine or_run (top_run (mc_run (ev_var rfl) I5.ob rfl (ea_1 ev_c) fun H6 e6 => ?_))
    refine ⟨_, 0, rfl, I5.ex e6, sm0, .inr ⟨ent 0 0 2 0 t1, rfl, rfl, rfl, both_guest hh _ t1, Tabs.ex T5 e6, never_guest hh h1 _ t1, fun q H7 rs e7 T7 g7 l7 => ?_⟩⟩
    refine el_nil H7 (Ex.refl _) _ fun q8 H8 _ e8 g8 => ?_
    refine rv_eqIL (ns := rs) (ms := []) (sq_of (e8 _ _ g7)) (sq_of g8) H8 (Ex.refl _) _ fun H9 e9 => ⟨false, congrArg V.bl (decide_eq_false fun z => by rw [z] at l7; cases l7), iteF ?_⟩
    have e59 : LamX.ExtN H5 H9 := (LamX.ExtN.trans (.ex e6) e7).trans (.ex (e8.trans e9))
    have I9 := I5.extN e59
    have T9 := Tabs.ex T7 (e8.trans e9)
    have s9 := e59 _ _ s5 (fun _ z => nomatch z)
    have z9 := e59 _ _ z5 (fun _ z => nomatch z)
    have n9 := e59 _ _ n5 (fun _ z => nomatch z)
    have d9 := sps_extN d5 e59
    have c9 := sps_extN c5 e59
    clear s5 z5 n5 d5 c5 T5 I5 e59
    refine tnn_run (mc_run (ev_var rfl) I9.ob rfl (ea_1 ev_c) fun H10 e10 => ?_)
    have I10 := I9.ex e10
    refine ⟨_, 0, rfl, I10, sm0, .inr ⟨⟨_, rfl, rfl⟩, by show 1 ≤ 1000; decide, fun d2 p2 H11 D2 => hnn (iteF ?_)⟩⟩
    have I11 : InnAt IT.a H11 ⟨o, dx, a, d2, c, p, cs, [], [], 1, 0, [.ref p1, .ref p2]⟩ := D2.1
    have x11 := D2.2.1
    have m11 := D2.2.2
    have s11 := x11.tup I10 (e10 _ _ s9)
    have z11 := x11.tup I10 (e10 _ _ z9)
    have n11 := x11.tup I10 (e10 _ _ n9)
    have T11 := x11.t (Tabs.ex T9 e10)
    have d11 := x11.sps I10 (d9.mono e10)
    have c11 := x11.sps I10 (c9.mono e10)
    have f11 : Sps H11 d1 [ent 0 0 2 0 t1] := x11.sps I10 I10.st
    clear D2 x11 s9 z9 n9 T9 d9 c9 I9 I10
    -- none is there, and back
    refine if_run (or_run ?_)
    refine et_is (b := false) (et_test (ev_neNN (ns := [14, 15, 14]) (ms := [14, 15, 14]) (ev_words (S := ⟨o, dx, a, d2, c, p, cs, [], [], 1, 0, [.ref p1, .ref p2]⟩) [(2, 3), (3, 4), (4, 3)] (eu_tup (ea_3 ev_c ev_c ev_c) (by show 3 ≤ 100000; decide)) (by decide) rfl rfl rfl fun x hx => ?_) (el_lst (ea_3 ev_c ev_c ev_c) (by show 3 ≤ 100000; decide)))) rfl H11 (Ex.refl _) _ (fun H12 e12 => iteF ?_)
    · simp only [List.mem_cons, List.not_mem_nil, or_false] at hx
      rcases hx with rfl | rfl | rfl
      · exact ⟨_, I11, 0, 0, 0, z11, sm0, sm0, sm0, .dr rfl⟩
      · exact ⟨_, I11, 0, 0, 0, z11, sm0, sm0, sm0, .re rfl⟩
      · exact ⟨_, I11, 0, 0, 0, z11, sm0, sm0, sm0, .rf rfl⟩
    refine tnn_run (mc_run (ev_var rfl) (I11.ex e12).ob rfl ea_nil fun H13 e13' => ?_)
    have e13 := e12.trans e13'
    have I13 := I11.ex e13
    refine ⟨_, rfl, I13, .inr ⟨⟨o, dx, a, d1, c, p, cs, [ent 0 0 2 0 t1], [], 1, 0, [.ref p1]⟩, p2, rfl, e13 _ _ m11, f11.mono e13, c11.mono e13, fun H14 I14 x14 => hnn (iteF ?_)⟩⟩
    have I14 : InnAt IT.a H14 ⟨o, dx, a, d1, c, p, cs, [ent 0 0 2 0 t1], [], 1, 0, [.ref p1]⟩ := I14
    have s14 := x14.tup I13 (e13 _ _ s11)
    have z14 := x14.tup I13 (e13 _ _ z11)
    have n14 := x14.tup I13 (e13 _ _ n11)
    have T14 := x14.t (Tabs.ex T11 e13)
    have d14 := x14.sps I13 (d11.mono e13)
    have c14 := x14.sps I13 (c11.mono e13)
    clear x14 s11 z11 n11 T11 d11 c11 I11 I13 m11 f11
    -- its rooms again, back, a closing, reopened
    refine if_run (or_run (tne_run (tcb_run (mc_run (ev_var rfl) I14.ob rfl (ea_1 ev_c) fun H15 e15 => ?_))))
    refine ⟨_, 0, rfl, I14.ex e15, sm0, .inr ⟨ent 0 0 2 0 t1, rfl, rfl, rfl, both_guest hh _ t1, Tabs.ex T14 e15, never_guest hh h1 _ t1, fun q H16 rs e16 T16 g16 l16 => ⟨q, _, rfl, .inl (sq_of g16), ?_⟩⟩⟩
    have e46 : LamX.ExtN H14 H16 := LamX.ExtN.trans (.ex e15) e16
    rw [List.length_map, l16]
    refine hne (iteF ?_)
    have I16 := I14.extN e46
    have s16 := e46 _ _ s14 (fun _ z => nomatch z)
    have z16 := e46 _ _ z14 (fun _ z => nomatch z)
    have n16 := e46 _ _ n14 (fun _ z => nomatch z)
    have d16 := sps_extN d14 e46
    have c16 := sps_extN c14 e46
    clear s14 z14 n14 d14 c14 T14 I14 e46
    refine or_run (tnn_run (mc_run (ev_var rfl) I16.ob rfl ea_nil fun H17 e17 => ?_))
    have I17 := I16.ex e17
    refine ⟨_, rfl, I17, .inr ⟨⟨o, dx, a, d, c, p, cs, [], [], 0, 0, []⟩, p1, rfl, e17 _ _ n16, d16.mono e17, c16.mono e17, fun H18 I18 x18 => hnn (iteF ?_)⟩⟩
    have I18 : InnAt IT.a H18 ⟨o, dx, a, d, c, p, cs, [], [], 0, 0, []⟩ := I18
    have s18 := x18.tup I17 (e17 _ _ s16)
    have z18 := x18.tup I17 (e17 _ _ z16)
    have T18 := x18.t (Tabs.ex T16 e17)
    clear x18 s16 z16 n16 T16 d16 c16 I16 I17
    refine or_run (tne_run (mc_run (ev_var rfl) I18.ob rfl (ea_3 ev_c ev_c ev_c) fun H19 e19 => ?_))
    have I19 := I18.ex e19
    refine ⟨_, 3, 4, 0, rfl, I19, sm3, sm4, sm0, .inr ⟨span_zero hh 3 4 (by decide) (by decide) (by decide), rfl, Nat.zero_le _, fun t => both_shut hh _ t, fun t => never_nobody (both_shut hh _ t), fun c2 t2 p3 H20 D3 => hne (iteF ?_)⟩⟩
    have I20 : InnAt IT.a H20 ⟨o, dx, a, d, c2, p, cs, [], [ent 0 3 4 0 t2], 0, 1, [.ref p3]⟩ := D3.1
    have x20 := D3.2.1
    have n20 := D3.2.2
    have s20 := x20.tup I19 (e19 _ _ s18)
    have z20 := x20.tup I19 (e19 _ _ z18)
    have T20 := x20.t (Tabs.ex T18 e19)
    have d20 : Sps H20 d [] := x20.sps I19 I19.st
    have c20 : Sps H20 c [] := x20.sps I19 I19.sh
    clear D3 x20 s18 z18 T18 I18 I19
    refine tnn_run (mc_run (ev_var rfl) I20.ob rfl (ea_1 ev_c) fun H21 e21 => ?_)
    have I21 := I20.ex e21
    refine ⟨_, 0, rfl, I21, sm0, .inr ⟨⟨_, rfl, rfl⟩, by show 1 ≤ 1000; decide, fun c3 p4 H22 D4 => hnn (iteF ?_)⟩⟩
    have I22 : InnAt IT.a H22 ⟨o, dx, a, d, c3, p, cs, [], [], 0, 1, [.ref p3, .ref p4]⟩ := D4.1
    have x22 := D4.2.1
    have m22 := D4.2.2
    have s22 := x22.tup I21 (e21 _ _ s20)
    have z22 := x22.tup I21 (e21 _ _ z20)
    have n22 := x22.tup I21 (e21 _ _ n20)
    have T22 := x22.t (Tabs.ex T20 e21)
    have d22 := x22.sps I21 (d20.mono e21)
    have c22 := x22.sps I21 (c20.mono e21)
    have f22 : Sps H22 c2 [ent 0 3 4 0 t2] := x22.sps I21 I21.sh
    clear D4 x22 s20 z20 n20 T20 d20 c20 I20 I21
    -- none is there, and back
    refine if_run (or_run ?_)
    refine et_is (b := false) (et_test (ev_neNN (ns := [14, 15, 14]) (ms := [14, 15, 14]) (ev_words (S := ⟨o, dx, a, d, c3, p, cs, [], [], 0, 1, [.ref p3, .ref p4]⟩) [(2, 3), (3, 4), (4, 3)] (eu_tup (ea_3 ev_c ev_c ev_c) (by show 3 ≤ 100000; decide)) (by decide) rfl rfl rfl fun x hx => ?_) (el_lst (ea_3 ev_c ev_c ev_c) (by show 3 ≤ 100000; decide)))) rfl H22 (Ex.refl _) _ (fun H23 e23 => iteF ?_)
    · simp only [List.mem_cons, List.not_mem_nil, or_false] at hx
      rcases hx with rfl | rfl | rfl
      · exact ⟨_, I22, 0, 0, 0, z22, sm0, sm0, sm0, .dr rfl⟩
      · exact ⟨_, I22, 0, 0, 0, z22, sm0, sm0, sm0, .re rfl⟩
      · exact ⟨_, I22, 0, 0, 0, z22, sm0, sm0, sm0, .rf rfl⟩
    refine tnn_run (mc_run (ev_var rfl) (I22.ex e23).ob rfl ea_nil fun H24 e24' => ?_)
    have e24 := e23.trans e24'
    have I24 := I22.ex e24
    refine ⟨_, rfl, I24, .inr ⟨⟨o, dx, a, d, c2, p, cs, [], [ent 0 3 4 0 t2], 0, 1, [.ref p3]⟩, p4, rfl, e24 _ _ m22, d22.mono e24, f22.mono e24, fun H25 I25 x25 => hnn (iteF ?_)⟩⟩
    have I25 : InnAt IT.a H25 ⟨o, dx, a, d, c2, p, cs, [], [ent 0 3 4 0 t2], 0, 1, [.ref p3]⟩ := I25
    have s25 := x25.tup I24 (e24 _ _ s22)
    have n25 := x25.tup I24 (e24 _ _ n22)
    have d25 := x25.sps I24 (d22.mono e24)
    have c25 := x25.sps I24 (c22.mono e24)
    clear x25 s22 z22 n22 T22 d22 c22 I22 I24 m22 f22
    -- the closing is told, and back
    refine if_run (or_run (top_run ?_))
    refine ed_met (kvs := [((Sum.inl 0 : Key), V.ref t2)]) (ev_var rfl) I25.ob rfl (fun H' e' Q' q' => ⟨_, rfl, I25.ex e', q'⟩) H25 (Ex.refl _) _ fun q H26 _ e26 g26 => ?_
    intro pd hpd
    refine tp_run ?_
    refine eu_tup (vs := [.int 3, .int 4, .int 0]) (ea_3 ev_c ev_c ev_c) (by show 3 ≤ 100000; decide) (upd H26 pd (.dK [])) (Ex.refl _) _ fun tt H27 _ e27 g27 => ?_
    have e67 : Ex H26 H27 := (Ex.new hpd).trans e27
    have e28 : Ex H25 (upd H27 pd (.dK (mergeK [] [((Sum.inl 0 : Key), V.ref tt)]))) := Ex.mut (e26.trans e67) (fresh_back e26 hpd)
    have nt : tt ≠ pd := ne_of g27 (e27 _ _ upd_same) fun z => nomatch z
    have nq : q ≠ pd := fun z => by
      rw [z, hpd] at g26
      cases g26
    refine ⟨e27 _ _ upd_same, [((Sum.inl 0 : Key), V.ref tt)], rfl, by show 1 ≤ 15; decide, 1, q, pd, [((Sum.inl 0 : Key), V.ref t2)], [((Sum.inl 0 : Key), V.ref tt)], by decide, rfl, rfl, by rw [upd_ne nq]; exact e67 _ _ g26, upd_same, rfl, fun y hy => ?_, false, rfl, iteF ?_⟩
    · rw [List.mem_singleton.mp hy]
      refine ⟨.ref tt, rfl, t2, tt, [.int 3, .int 4, .int 0], [.int 3, .int 4, .int 0], rfl, rfl, st_of (e28 _ _ (I25.sh.tp _ List.mem_cons_self)), st_of (by rw [upd_ne nt]; exact g27), .cons (.inl ⟨rfl, rfl⟩) (.cons (.inl ⟨rfl, rfl⟩) (.cons (.inl ⟨rfl, rfl⟩) .nil))⟩
    have I28 := I25.ex e28
    refine tnn_run (mc_run (ev_var rfl) I28.ob rfl ea_nil fun H29 e29' => ?_)
    have e29 := e28.trans e29'
    have I29 := I25.ex e29
    refine ⟨_, rfl, I29, .inr ⟨⟨o, dx, a, d, c, p, cs, [], [], 0, 0, []⟩, p3, rfl, e29 _ _ n25, d25.mono e29, c25.mono e29, fun H30 I30 x30 => hnn (iteF ?_)⟩⟩
    have I30 : InnAt IT.a H30 ⟨o, dx, a, d, c, p, cs, [], [], 0, 0, []⟩ := I30
    have s30 := x30.tup I29 (e29 _ _ s25)
    -- as at first
    refine s_ret (v := .bl true) (ev_of (ev_andV (a := true) (b := true) (ev_eqD0 (ed_met (ev_var rfl) I30.ob rfl fun H' e' Q' q' => ⟨_, rfl, I30.ex e', q'⟩) ed_new) fun _ => ev_of (ev_andV (a := true) (b := true) (ev_eqD0 (ed_met (ev_var rfl) I30.ob rfl fun H' e' Q' q' => ⟨_, rfl, I30.ex e', q'⟩) ed_new) fun _ => ?_) rfl) rfl) fun H31 _ => kk H31
    exact ev_of (ev_eqI (i := 16) (ev_call0 (z := .int (11 + (5 : Nat) : Int)) (ea_3 (ev_var rfl) ev_c (ev_var rfl)) fun H' e' Q' q' E' => ⟨_, ts, 5, 5, _, rfl, ⟨I30.ex e', 0, 2, 0, e' _ _ s30, sm0, sm2, sm0, .un rfl⟩, q'⟩) ev_c) rfl
end

/-! ### the law -/
theorem q_asgR {te : TE} {i : Nat} {tz : TS} {D : Ends} {σ : L2.St} {H : Hp} (h : te σ H fun v H1 => tz D (σ.set i (some v)) H1) : tSeq (tAsg te (gName i)) tz D σ H := h
theorem tc1_run {sp : Sp} {E : XK} {ta : TA} {σ : L2.St} {H : Hp} {Q : VK} (h : ta σ H fun vs H1 => sp (vs ++ []) H1 Q E) : tCall sp [] E ta σ H Q := h
theorem or_ret {ta tb : TE} {D : Ends} {σ : L2.St} {H : Hp} (h : ta σ H fun x H1 => ∃ c, x = .bl c ∧ if c = true then D.rt (.bl true) H1 else tb σ H1 D.rt) : tRet (tOrV ta tb) D σ H := h
def badC (x : Int) : Bool := decide (x < 0) || decide (x > 9)
theorem bad_house (cs : List Int) : (decide ((cs.length : Int) < 1) || (decide ((cs.length : Int) > 6) || !decide (cs.filter badC = []))) = !isHouse cs := by
  have e1 : (!decide (cs.filter badC = [])) = !cs.all okC := by
    congr 1
    rw [Bool.eq_iff_iff, decide_eq_true_eq, List.filter_eq_nil_iff, List.all_eq_true]
    refine forall_congr' fun x => forall_congr' fun _ => ?_
    unfold badC okC
    simp only [Bool.or_eq_true, Bool.and_eq_true, decide_eq_true_eq]
    omega
  rw [e1]
  unfold isHouse
  rw [Bool.not_and, Bool.not_and, ← decide_not, ← decide_not]
  have e2 : decide ((cs.length : Int) < 1) = decide (¬ 1 ≤ (cs.length : Int)) := decide_eq_decide.mpr (by omega)
  have e3 : decide ((cs.length : Int) > 6) = decide (¬ (cs.length : Int) ≤ 6) := decide_eq_decide.mpr (by omega)
  rw [e2, e3, Bool.or_assoc]
theorem span_good (cs : List Int) (f l k : Int) : (decide (0 ≤ f) && (decide (f < l) && (decide (l < 41) && (decide (0 ≤ k) && decide (k < (cs.length : Int)))))) = isSpan cs f l k := by
  unfold isSpan
  have e : decide (l < 41) = decide (l ≤ 40) := decide_eq_decide.mpr (by omega)
  rw [e]
  simp only [Bool.and_assoc]
theorem sm_of {i : Int} (h : i.natAbs ≤ 10 ^ 30 + 1) : sm i := Nat.lt_of_le_of_lt h (by decide)
section
variable {P : Program} {w : World} {K : PySem.W.Frag} {mg : Str → Option Value} {base : Heap}
theorem ok_law {Z : Lams mg base} {f : Addr} {fd : FuncData} (F : Fun K "law" "law" s_law f fd) (T : Tp mg) (IT : InnT K mg) (EX : Ecs K mg) (OK : Ones EX) (C_law_cell : Cal P w K mg base "_law_cell" 1 ["_law_script", "_law_k"] (sp_cell K)) (C_law_counts_by : Cal P w K mg base "_law_counts_by" 2 ["_law_script"] (sp_counts_by K)) (C_law_bound_by : Cal P w K mg base "_law_bound_by" 1 ["_law_cell_here"] sp_bound_by)
    (C_law_none : Cal P w K mg base "_law_none" 4 ["_law_counts"] (sp_none K)) (C_law_word : Cal P w K mg base "_law_word" 13 ["_law_inn", "_law_way", "_law_span"] (sp_word EX IT.a)) (C_law_made_good : Cal P w K mg base "_law_made_good" 14 ["_law_inn"] (sp_good IT.a Z.T)) (NI : MakC P w K mg base IT.a 2 ["self", "counts"] (calm (sp_init EX IT.a)))
    (N_promises : MetC P w K mg base IT.a "promises" 1 ["self"] (sp_promises IT.a)) (N_closings : MetC P w K mg base IT.a "closings" 1 ["self"] (sp_closings IT.a)) (N_nights : MetC P w K mg base IT.a "nights" 10 ["self"] (sp_nights IT.a Z.T)) :
    FnOk P w K mg base CX0 15 f fd ["_law_script"] (spLawT Z.pG Z.pW Z.pR K) := by
  refine F.ok sc_law (fun vs H Q E h => ?_) (fun cdv A outer s H vs Q E hr h => ?_)
  · obtain ⟨a, ns, rfl, _⟩ := h
    rfl
  · obtain ⟨a, ns, rfl, hS, hl, hT, kk⟩ := h
    have hT : LamX.Tabs Z.T H := hT
    refine ⟨_, (pss_cons (ps_set (i := 1) sc_law.nd rfl (.inl rfl) (pe_cal C_law_counts_by (hr.mono (by decide)) (by rfl) (pa_cons (pv 0) pa_nil))) (pss_cons (ps_if (PW.pt (pw_or (pt_cmpR op_lt (pe_callB (r := rLenS K) call_len_seq (by rfl) T.z_len (by decide +kernel) (pa_cons (pv 1) pa_nil)) pe_int (nomark _)) (pw_or (pt_cmpR op_gt (pe_callB (r := rLenS K) call_len_seq (by rfl) T.z_len (by decide +kernel) (pa_cons (pv 1) pa_nil)) pe_int (nomark _)) (pw_or1 (pt_cmpR (r := rNeD K) (op_neD hr.units) (pe_lc (own := [("_law_one", 10)]) (g := gName 10) (by rfl) sc_law.nd (pi_list (pv 1)) (blkOk_by (own := [("_law_one", 10)]) (N := ["_law_script", "_law_counts", "_law_inn", "_law_k", "_law_first", "_law_last", "_law_more", "_law_kind_here", "_law_good", "_law_way", "_law_one"]) (sc := defScope s_law) (by decide +kernel)) (fun _ _ _ _ _ => pg_name (i := 10) sc_law.nd rfl (Or.inl rfl)) (fun _ _ _ _ _ => (pts_one (PW.pt (pw_or (pt_cmpR op_lt (pv 10) pe_int (nomark _)) (pw_or1 (pt_cmpR op_gt (pv 10) pe_int (nomark _))))))) (fun _ _ _ _ _ => (pv 10))) (pe_lst pa_nil) (nomark _)))))) (pss_one (ps_ret (pe_and (pe_cal C_law_none (hr.mono (by decide)) (by rfl) (pa_cons (pe_callTy (r := rListS K) call_list_of (by rfl) T.z_list (by decide +kernel) (pa_cons (pv 1) pa_nil)) pa_nil)) (pe_one (pe_cal C_law_none (hr.mono (by decide)) (by rfl) (pa_cons (pe_op op_cat (pv 1) (pe_op op_rep (pe_lst (pa_cons pe_int pa_nil)) pe_int)) pa_nil)))))) pss_nil) (pss_cons (ps_set (i := 2) sc_law.nd rfl (.inl rfl) (pe_makC NI IT.g (hr.mono (by decide)) (by rfl) (pa_cons (pe_callTy (r := rListS K) call_list_of (by rfl) T.z_list (by decide +kernel) (pa_cons (pv 1) pa_nil)) pa_nil))) (pss_cons (ps_for PassesOwn.never rfl (pi_range1 (by rfl) T.z_range (pa_cons pe_int pa_nil)) (pg_name (i := 3) sc_law.nd rfl (.inl rfl)) (pss_cons (ps_set (i := 4) sc_law.nd rfl (.inl rfl) (pe_cal C_law_bound_by (hr.mono (by decide)) (by rfl) (pa_cons (pe_cal C_law_cell (hr.mono (by decide)) (by rfl) (pa_cons (pv 0) (pa_cons (pe_op op_add pe_int (pv 3)) pa_nil))) pa_nil))) (pss_cons (ps_set (i := 5) sc_law.nd rfl (.inl rfl) (pe_ix (r := rIxL K) ix_list (pe_lst (pa_cons (pe_cal C_law_bound_by (hr.mono (by decide)) (by rfl) (pa_cons (pe_cal C_law_cell (hr.mono (by decide)) (by rfl) (pa_cons (pv 0) (pa_cons (pe_op op_add pe_int (pv 3)) pa_nil))) pa_nil)) (pa_cons (pv 4) (pa_cons (pe_op op_add (pv 4) pe_int) pa_nil)))) (pe_op op_mod (pe_cal C_law_cell (hr.mono (by decide)) (by rfl) (pa_cons (pv 0) (pa_cons (pe_op op_add pe_int (pv 3)) pa_nil))) pe_int) (fun _ _ => rfl))) (pss_cons (ps_set (i := 6) sc_law.nd rfl (.inl rfl) (pe_cal C_law_cell (hr.mono (by decide)) (by rfl) (pa_cons (pv 0) (pa_cons (pe_op op_add pe_int (pv 3)) pa_nil)))) (pss_cons (ps_set (i := 7) sc_law.nd rfl (.inl rfl) (pe_ix (r := rIxL K) ix_list (pe_lst (pa_cons (pe_cal C_law_bound_by (hr.mono (by decide)) (by rfl) (pa_cons (pv 6) pa_nil)) (pa_cons (pe_op op_mod (pv 6) (pe_callB (r := rLenS K) call_len_seq (by rfl) T.z_len (by decide +kernel) (pa_cons (pv 1) pa_nil))) pa_nil))) (pe_op op_mod (pe_cal C_law_cell (hr.mono (by decide)) (by rfl) (pa_cons (pv 0) (pa_cons (pe_op op_add pe_int (pv 3)) pa_nil))) pe_int) (fun _ _ => rfl))) (pss_cons (ps_set (i := 8) sc_law.nd rfl (.inl rfl) (pe_and (pe_cmpR op_le pe_int (pv 4) (nomark _)) (pe_and (pe_cmpR op_lt (pv 4) (pv 5) (nomark _)) (pe_and (pe_cmpR op_lt (pv 5) pe_int (nomark _)) (pe_one (pe_chain op_le op_lt pe_int (pv 7) (pe_callB (r := rLenS K) call_len_seq (by rfl) T.z_len (by decide +kernel) (pa_cons (pv 1) pa_nil)))))))) (pss_one (ps_for PassesOwn.never rfl (pi_range1 (by rfl) T.z_range (pa_cons pe_int pa_nil)) (pg_name (i := 9) sc_law.nd rfl (.inl rfl)) (pss_one (ps_if (PW.pt (pw_and (pt_not (pt_val (pv 8))) (pw_and1 (pt_cmpR op_ne (pe_cal C_law_word (hr.mono (by decide)) (by rfl) (pa_cons (pv 2) (pa_cons (pv 9) (pa_cons (pe_tup (pa_cons (pv 4) (pa_cons (pv 5) (pa_cons (pv 7) pa_nil)))) pa_nil)))) pe_int (nomark _))))) (pss_one (ps_ret pe_bl)) pss_nil)))))))))) (pss_cons (ps_if (PW.pt (pw_or (pt_cmpR (op_ne_dictA (hu0 hr)) (pe_metC0 N_promises IT.cl (hr.mono (by decide)) (pv 2)) pe_dnewK (nomark _)) (pw_or (pt_cmpR (op_ne_dictA (hu0 hr)) (pe_metC0 N_closings IT.cl (hr.mono (by decide)) (pv 2)) pe_dnewK (nomark _)) (pw_or1 (pt_cmpR (r := rNeD K) (op_neD hr.units) (pe_metC0 N_nights IT.cl (hr.mono (by decide)) (pv 2)) (pe_lst pa_nil) (nomark _)))))) (pss_one (ps_ret pe_bl)) pss_nil) (pss_one (ps_ret (pe_or (pe_cmpR op_lt (pe_ix (r := rIxL K) ix_list (pv 1) pe_int (fun _ _ => rfl)) pe_int (nomark _)) (pe_one (pe_cal C_law_made_good (hr.mono (by decide)) (by rfl) (pa_cons (pv 2) pa_nil))))))))))), ?_⟩
    refine q_asgC (R := fun v _ H3 => ∃ (p : Addr) (cs : List Int), v = .ref p ∧ cs.length ≤ 500 ∧ H3 p = some (.lst (cs.map V.int))) (ea_1 (ev_var rfl)) (fun H2 e2 Q' q' E' => ⟨a, ns, rfl, ex_l e2 hS, hl, fun p H3 cs hc hp e3 h3 => q' _ H3 e3 ⟨p, cs, rfl, hc, h3⟩⟩) ?_
    rintro v H0 H1 e0 e1' ⟨p, cs, rfl, hc, g1⟩
    have e1 := e0.trans e1'
    have lenC : ∀ {σ : L2.St} {H' : Hp}, Ex H1 H' → σ[1]? = some (some (.ref p)) → Ev (tCB (rLenS K) (tCons (tVar 1) tNil)) σ H' (.int (cs.length : Int)) := fun e hv => ev_of (ev_len' (ev_var hv) (sq_of (e _ _ g1))) (by rw [List.length_map])
    refine q_when (b := !isHouse cs) (et_is (et_or (et_test (ev_cmp (g := fun i j => decide (i < j)) (lenC (Ex.refl _) rfl) ev_c)) fun _ => et_or (et_test (ev_cmp (g := fun i j => decide (i > j)) (lenC (Ex.refl _) rfl) ev_c)) fun _ => et_test (ev_neNN (ns := cs.filter badC) (ms := []) (el_lcA cs V.int badC V.int (ev_var rfl) (sq_of g1) (by omega) (fun _ => rfl)
      (fun x _ H2 e2 => et_or (et_test (ev_cmp (g := fun i j => decide (i < j)) (ev_var rfl) ev_c)) fun _ => et_test (ev_cmp (g := fun i j => decide (i > j)) (ev_var rfl) ev_c)) (fun x _ _ H2 e2 => ev_var rfl)) el_nil)) (bad_house cs)) (fun hb H2 e2 => ?_) (fun hb H2 e2 => ?_)
    · have hno : isHouse cs = false := not_t hb
      have g2 := e2 _ _ g1
      refine s_ret (v := .bl true) (ev_of (ev_andV (a := true) (b := true) (ev_callL (xs := cs.map V.int) (el_list (ev_var rfl) (sq_of g2)) fun q H3 e3 g3 H4 e4 Q' q' E' => ⟨q, cs, rfl, sq_of (e4 _ _ g3), by omega, hno, q'⟩) fun _ => ev_callL (xs := (cs ++ List.replicate 7 1).map V.int) (el_is (el_catN (ev_var rfl) (el_repN (n := 7) (el_lst (ea_1 ev_c) (by show 1 ≤ 100000; decide)) ev_c ⟨by decide, by decide⟩ (sz_of (by show 1 * 7 ≤ 100000; decide))) g2 (sz_of ?_)) ?_) fun q H3 e3 g3 H4 e4 Q' q' E' => ⟨q, cs ++ List.replicate 7 1, rfl, sq_of (e4 _ _ g3), ?_, ?_, q'⟩) rfl) fun H3 e3 => kk H3
      · rw [List.length_map]
        show cs.length + 7 ≤ 100000
        omega
      · rw [List.map_append]
        rfl
      · rw [List.length_append, List.length_replicate]
        omega
      · unfold isHouse
        rw [List.length_append, List.length_replicate]
        have : decide (((cs.length + 7 : Nat) : Int) ≤ 6) = false := decide_eq_false (by omega)
        rw [this]
        simp
    have hyes : isHouse cs = true := not_f hb
    have hh := house_of hyes
    have hpos := hh.pos
    have hle := hh.le
    have g2 := e2 _ _ g1
    have e02 := e1.trans e2
    refine q_asgR ?_
    refine el_list (ev_var rfl) (sq_of g2) H2 (Ex.refl _) _ fun q H3 _ e3 g3 => ?_
    intro x dx hx hdx hne
    have e34 : Ex H3 (upd (upd H3 dx (.own x)) x (.ins IT.a dx [])) := Ex.mut (Ex.new hdx) hx
    refine ⟨x, dx, q, cs, rfl, upd_same, sq_of (e34 _ _ g3), by omega, .inl ⟨hyes, fun ac d c pp H5 I5 fr => ⟨rfl, ?_⟩⟩⟩
    have e35 : Ex H3 H5 := fun b ob hb => fr b ob (e34 _ _ hb) fun z => by
      rw [z, hx] at hb
      cases hb
    have e25 := e3.trans e35
    have e05 := e02.trans e25
    have g5 := e25 _ _ g2
    have T5 := Tabs.ex hT e05
    have lenD : ∀ {σ : L2.St} {H' : Hp}, Ex H5 H' → σ[1]? = some (some (.ref p)) → Ev (tCB (rLenS K) (tCons (tVar 1) tNil)) σ H' (.int (cs.length : Int)) := fun e hv => ev_of (ev_len' (ev_var hv) (sq_of (e _ _ g5))) (by rw [List.length_map])
    have cE : ∀ {σ : L2.St} {H' : Hp} {tk : TE} {j : Int}, Ex H5 H' → σ[0]? = some (some (.ref a)) → Ev tk σ H' (.int j) → 0 ≤ j → j < 10000 → Ev (tCall (sp_cell K) [] E0 (tCons (tVar 0) (tCons tk tNil))) σ H' (.int (cell ns j)) := fun e hv hk h0 h1 => ev_cell (ex_l (e05.trans e) hS) hl hv hk h0 h1
    have bE : ∀ {σ : L2.St} {H' : Hp} {tk : TE} {z : Int}, Ev tk σ H' (.int z) → 0 ≤ z → Ev (tCall sp_bound_by [] E0 (tCons tk tNil)) σ H' (.int (bnd z)) := fun hk h0 => ev_call0 (ea_1 hk) fun H' e' Q' q' E' => ⟨_, rfl, h0, q'⟩
    generalize hSS : (⟨x, dx, ac, d, c, pp, cs, [], [], 0, 0, []⟩ : InnS) = SS at I5
    have ho : SS.o = x := by rw [← hSS]
    have hcs : SS.cs = cs := by rw [← hSS]
    refine q_forR1 (n := 6) (ea_1 ev_c) ⟨by decide, by decide⟩
      (fun i σ' H' => ∃ y3 y4 y5 y6 y7 y8 y9 y10, σ' = [some (.ref a), some (.ref p), some (.ref x), y3, y4, y5, y6, y7, y8, y9, y10] ∧ Ex H5 H')
      (fun H6 e6 => ⟨none, none, none, none, none, none, none, none, rfl, e6⟩) ?_ ?_
    · rintro i σ' H6 hi ⟨y3, y4, y5, y6, y7, y8, y9, y10, rfl, e6⟩
      have hi6 : i < 6 := by omega
      have c20 := cell_bd ns (20 + (i : Int))
      have c30 := cell_bd ns (30 + (i : Int))
      have c50 := cell_bd ns (50 + (i : Int))
      refine q_asg (bE (cE e6 rfl (ev_add ev_c (ev_var rfl)) (by omega) (by omega)) c20.1) fun H7 e7 => ?_
      have e57 := e6.trans e7
      have m3 := mod_bd (cell ns (40 + (i : Int))) (m := 3) (by decide)
      have hf := bnd_sm (cell ns (20 + (i : Int)))
      generalize bnd (cell ns (20 + (i : Int))) = ff at hf ⊢
      obtain ⟨ll, hll, hlast⟩ := atI_ints (ns := [bnd (cell ns (30 + (i : Int))), ff, ff + 1]) (z := cell ns (40 + (i : Int)) % 3) m3.1 m3.2
      refine q_asg (ev_ixN (el_lst (ea_3 (bE (cE e57 rfl (ev_add ev_c (ev_var rfl)) (by omega) (by omega)) c30.1) (ev_var rfl) (ev_add (ev_var rfl) ev_c)) (by show 3 ≤ 100000; decide)) (ev_mod (cE e57 rfl (ev_add ev_c (ev_var rfl)) (by omega) (by omega)) ev_c (by decide)) hlast) fun H8 e8 => ?_
      have e58 := e57.trans e8
      have hl2 : ll.natAbs ≤ 10 ^ 30 + 1 := by
        have hb30 := bnd_sm (cell ns (30 + (i : Int)))
        simp only [List.mem_cons, List.not_mem_nil, or_false] at hll
        generalize (10 : Nat) ^ 30 = G at hf hb30 ⊢
        rcases hll with rfl | rfl | rfl <;> omega
      refine q_asg (cE e58 rfl (ev_add ev_c (ev_var rfl)) (by omega) (by omega)) fun H9 e9 => ?_
      have e59 := e58.trans e9
      have m2 := mod_bd (cell ns (60 + (i : Int))) (m := 2) (by decide)
      have mL := mod_bd (cell ns (50 + (i : Int))) (m := (cs.length : Int)) (by omega)
      obtain ⟨kd, hkd, hkind⟩ := atI_ints (ns := [bnd (cell ns (50 + (i : Int))), cell ns (50 + (i : Int)) % (cs.length : Int)]) (z := cell ns (60 + (i : Int)) % 2) m2.1 m2.2
      refine q_asg (ev_ixN (el_lst (ea_2 (bE (ev_var rfl) c50.1) (ev_mod (ev_var rfl) (lenD e59 rfl) (by omega))) (by show 2 ≤ 100000; decide)) (ev_mod (cE e59 rfl (ev_add ev_c (ev_var rfl)) (by omega) (by omega)) ev_c (by decide)) hkind) fun H10 e10 => ?_
      have e510 := e59.trans e10
      have hk2 : kd.natAbs ≤ 10 ^ 30 + 1 := by
        have hb50 := bnd_sm (cell ns (50 + (i : Int)))
        simp only [List.mem_cons, List.not_mem_nil, or_false] at hkd
        have hG : 10 ≤ (10 : Nat) ^ 30 := by decide
        generalize (10 : Nat) ^ 30 = G at hb50 hG ⊢
        rcases hkd with rfl | rfl <;> omega
      refine q_asg (v := .bl (isSpan cs ff ll kd)) (ev_of (ev_andV (ev_cmp (g := fun i j => decide (i ≤ j)) ev_c (ev_var rfl)) fun _ => ev_andV (ev_cmp (g := fun i j => decide (i < j)) (ev_var rfl) (ev_var rfl)) fun _ => ev_andV (ev_cmp (g := fun i j => decide (i < j)) (ev_var rfl) ev_c) fun _ => ev_chainI (g := fun i j => decide (i ≤ j)) (g' := fun i j => decide (i < j)) ev_c (ev_var rfl) (lenD e510 rfl)) (congrArg V.bl (span_good cs ff ll kd))) fun H11 e11 => ?_
      have e511 := e510.trans e11
      refine s_forR1 (n := 2) (ea_1 ev_c) ⟨by decide, by decide⟩
        (fun j σ' H' => ∃ y9, σ' = [some (.ref a), some (.ref p), some (.ref x), some (.int (i : Int)), some (.int ff), some (.int ll), some (.int (cell ns (50 + (i : Int)))), some (.int kd), some (.bl (isSpan cs ff ll kd)), y9, y10] ∧ Ex H5 H')
        (fun H12 e12 => ⟨y9, rfl, e511.trans e12⟩) ?_ ?_
      · rintro j σ' H12 hj ⟨y9, rfl, e12⟩
        have hj2 : j < 2 := by omega
        refine s_when (b := false) (et_is (et_and (a := !isSpan cs ff ll kd) (b := false) (et_not (et_B (ev_var rfl))) fun hb => et_is (et_test (ev_neI (j := 12) (ev_callP (z := .int (11 + (1 : Nat) : Int)) (P := fun vs H13 => ∃ t, vs = [.ref x, .int (j : Int), .ref t] ∧ H13 t = some (.tup [.int ff, .int ll, .int kd])) (fun H0' e0' Q' q' => ?_) ?_) ev_c)) rfl) (by simp)) (fun z => nomatch z) (fun _ H13 e13 => ⟨_, rfl, e12.trans e13⟩)
        · refine ⟨_, rfl, _, rfl, ?_⟩
          refine eu_tup (vs := [.int ff, .int ll, .int kd]) (ea_3 (ev_var rfl) (ev_var rfl) (ev_var rfl)) (by show 3 ≤ 100000; decide) H0' e0' _ fun t H13 ht e13 g13 => q' _ H13 e13 ⟨t, rfl, g13⟩
        · rintro vs H13 e13 ⟨t, rfl, g13⟩ H14 e14 Q' q' E'
          have hb := not_t hb
          have I14 := I5.ex ((e12.trans e13).trans e14)
          refine ⟨SS, t, (j : Int), 1, EX.a_BadSpan, by rw [ho], ⟨I14, ff, ll, kd, e14 _ _ g13, sm_of (Nat.le_succ_of_le hf), sm_of hl2, sm_of hk2, ?_⟩, q'⟩
          have hjj : j = 0 ∨ j = 1 := by omega
          rcases hjj with rfl | rfl
          · exact .s0 (by rw [hcs]; exact hb)
          · exact .s1 (by rw [hcs]; exact hb)
      · rintro σ' H12 ⟨y9, rfl, e12⟩
        exact ⟨_, _, _, _, _, _, _, _, rfl, e12⟩
    · rintro σ' H6 ⟨y3, y4, y5, y6, y7, y8, y9, y10, rfl, e6⟩
      have I6 := I5.ex e6
      have g6 := e6 _ _ g5
      have T6 := Tabs.ex T5 e6
      subst hSS
      refine if_run (or_run ?_)
      refine et_is (b := false) (et_test (ev_neD0 (ed_met (ev_var rfl) I6.ob rfl fun H' e' Q' q' => ⟨_, rfl, I6.ex e', q'⟩) ed_new)) rfl H6 (Ex.refl _) _ (fun H7 e7 => iteF ?_)
      have I7 := I6.ex e7
      refine or_run ?_
      refine et_is (b := false) (et_test (ev_neD0 (ed_met (ev_var rfl) I7.ob rfl fun H' e' Q' q' => ⟨_, rfl, I7.ex e', q'⟩) ed_new)) rfl H7 (Ex.refl _) _ (fun H8 e8 => iteF ?_)
      have I8 := I7.ex e8
      have e68 := e7.trans e8
      refine top_run (mc_run (ev_var rfl) I8.ob rfl ea_nil fun H9 e9 => ?_)
      have I9 := I8.ex e9
      have e69 := e68.trans e9
      refine ⟨_, rfl, I9, both_nil hh, Tabs.ex T6 e69, never_nobody (both_nil hh), fun q H10 ts e10 T10 g10 l10 _ => ?_⟩
      have hts : ts = [] := List.eq_nil_of_length_eq_zero l10
      rw [hts] at g10
      refine el_nil H10 (Ex.refl _) _ fun q2 H11 _ e11 g11 => ?_
      refine rv_neIL (ns := []) (ms := []) (sq_of (e11 _ _ g10)) (sq_of g11) H11 (Ex.refl _) _ fun H12 e12 => ⟨false, rfl, iteF ?_⟩
      have e612 : LamX.ExtN H6 H12 := (LamX.ExtN.trans (.ex e69) e10).trans (.ex (e11.trans e12))
      have I12 := I6.extN e612
      have T12 := Tabs.ex T10 (e11.trans e12)
      have g12 := e612 _ _ g6 (fun _ z => nomatch z)
      have hat : atI (cs.map V.int) 0 = some (.int (cs.headD 0)) := by
        cases cs with
        | nil => exact absurd hpos (by decide)
        | cons c0 r => exact atI_nat (j := 0) rfl
      refine or_ret ?_
      refine ev_cmp (g := fun i j => decide (i < j)) (ev_ixL (ev_var rfl) ev_c (sq_of g12) hat) ev_c H12 (Ex.refl _) _ fun H13 e13 => ⟨decide (cs.headD 0 < 1), rfl, ?_⟩
      by_cases hz : cs.headD 0 < 1
      · rw [decide_eq_true hz]
        exact iteT (kk _)
      · rw [decide_eq_false hz]
        refine iteF (tc1_run ?_)
        refine ea_1 (ev_var rfl) H13 (Ex.refl _) _ fun H14 e14 => ?_
        have e124 := e13.trans e14
        exact ⟨_, rfl, I12.ex e124, rfl, rfl, rfl, rfl, rfl, hh, by show 1 ≤ cs.headD 0; omega, Tabs.ex T12 e124, fun H' => kk H'⟩
end

/-! ### what the top says of the errors -/
theorem kitN {K : PySem.W.Frag} {C a b c d e f : Addr} {n : Nat} (h0 : PySem.W.kitOne K (.ref C) (.ref a) = some (decide (0 = n))) (h1 : PySem.W.kitOne K (.ref C) (.ref b) = some (decide (1 = n))) (h2 : PySem.W.kitOne K (.ref C) (.ref c) = some (decide (2 = n))) (h3 : PySem.W.kitOne K (.ref C) (.ref d) = some (decide (3 = n))) (h4 : PySem.W.kitOne K (.ref C) (.ref e) = some (decide (4 = n))) (h5 : PySem.W.kitOne K (.ref C) (.ref f) = some (decide (5 = n))) :
    ∀ (i : Nat) (D : Addr), [a, b, c, d, e, f][i]? = some D → PySem.W.kitOne K (.ref C) (.ref D) = some (decide (i = n)) := fun i D h => by
  match i, h with
  | 0, h => rw [← Option.some.inj h]; exact h0
  | 1, h => rw [← Option.some.inj h]; exact h1
  | 2, h => rw [← Option.some.inj h]; exact h2
  | 3, h => rw [← Option.some.inj h]; exact h3
  | 4, h => rw [← Option.some.inj h]; exact h4
  | 5, h => rw [← Option.some.inj h]; exact h5
  | n + 6, h => simp at h

theorem all_mk {l : PySem.W.OpenLaw} {w : World} {K : PySem.W.Frag} {h : Heap} {mg : Str → Option Value} {fa f0 f1 f2 f3 f4 f5 f6 f7 f8 f9 f10 f11 f12 f13 f14 f15 f16 f17 f18 f19 f20 f21 f22 f23 f24 f25 f26 f27 f28 : Addr} (X : K.In h) (G : h.Ns mainGlobals mg) (hfa : mg "law" = some (.ref fa))
    {od0 an0 od1 an1 od2 an2 od3 an3 od4 an4 od5 an5 od6 an6 od7 an7 od8 an8 od9 an9 od10 an10 od11 an11 od12 an12 od13 an13 od14 an14 od15 an15 od16 an16 od17 an17 od18 an18 od19 an19 od20 an20 od21 an21 od22 an22 od23 an23 od24 an24 od25 an25 od26 an26 od27 an27 od28 an28 : Option Addr} {sl0 sl1 sl2 sl3 sl4 sl5 sl6 sl7 sl8 sl9 sl10 sl11 sl12 sl13 sl14 sl15 sl16 sl17 sl18 sl19 sl20 sl21 sl22 sl23 sl24 sl25 sl26 sl27 sl28 : Array (Option Value)} {oc0 kV0 dc0 pm0 ct0 cd0 oc1 kV1 dc1 pm1 ct1 cd1 oc2 kV2 dc2 pm2 ct2 cd2 oc3 kV3 dc3 pm3 ct3 cd3 oc4 kV4 dc4 pm4 ct4 cd4 oc5 kV5 dc5 pm5 ct5 cd5 oc6 kV6 dc6 pm6 ct6 cd6 oc7 kV7 dc7 pm7 ct7 cd7 oc8 kV8 dc8 pm8 ct8 cd8 oc9 kV9 dc9 pm9 ct9 cd9 oc10 kV10 dc10 pm10 ct10 cd10 oc11 kV11 dc11 pm11 ct11 cd11 oc12 kV12 dc12 pm12 ct12 cd12 oc13 kV13 dc13 pm13 ct13 oc14 kV14 dc14 pm14 ct14 cd14 oc15 kV15 dc15 pm15 ct15 oc16 kV16 dc16 pm16 ct16 oc17 kV17 dc17 pm17 ct17 cd17 oc18 kV18 dc18 pm18 ct18 cd18 oc19 kV19 dc19 pm19 ct19 cd19 oc20 kV20 dc20 pm20 ct20 cd20 oc21 kV21 dc21 pm21 ct21 cd21 oc22 kV22 dc22 pm22 ct22 cd22 oc23 kV23 dc23 pm23 ct23 cd23 oc24 kV24 dc24 pm24 ct24 cd24 oc25 kV25 dc25 pm25 ct25 cd25 oc26 kV26 dc26 pm26 ct26 cd26 oc27 kV27 dc27 pm27 ct27 cd27 oc28 kV28 dc28 pm28 ct28 cd28 : Value}
    (a0 : PySem.W.nsIn K mainGlobals "is_house" = some (some (.ref f0))) (l0 : K.lookup f0 = some ⟨oc0, od0, .func (PySem.W.fnOf "is_house" "is_house" (defArgs s_is_house) (defBody s_is_house) (defScope s_is_house) .none kV0 dc0 pm0 an0 cd0 ct0), sl0⟩) (c0 : PySem.W.codeIn K cd0 "is_house" = true) (k0 : PySem.W.keepIn K (.ref f0) = true)
    (a1 : PySem.W.nsIn K mainGlobals "first_room" = some (some (.ref f1))) (l1 : K.lookup f1 = some ⟨oc1, od1, .func (PySem.W.fnOf "first_room" "first_room" (defArgs s_first_room) (defBody s_first_room) (defScope s_first_room) .none kV1 dc1 pm1 an1 cd1 ct1), sl1⟩) (c1 : PySem.W.codeIn K cd1 "first_room" = true) (k1 : PySem.W.keepIn K (.ref f1) = true)
    (a2 : PySem.W.nsIn K mainGlobals "rooms_of" = some (some (.ref f2))) (l2 : K.lookup f2 = some ⟨oc2, od2, .func (PySem.W.fnOf "rooms_of" "rooms_of" (defArgs s_rooms_of) (defBody s_rooms_of) (defScope s_rooms_of) .none kV2 dc2 pm2 an2 cd2 ct2), sl2⟩) (c2 : PySem.W.codeIn K cd2 "rooms_of" = true) (k2 : PySem.W.keepIn K (.ref f2) = true)
    (a3 : PySem.W.nsIn K mainGlobals "is_span" = some (some (.ref f3))) (l3 : K.lookup f3 = some ⟨oc3, od3, .func (PySem.W.fnOf "is_span" "is_span" (defArgs s_is_span) (defBody s_is_span) (defScope s_is_span) .none kV3 dc3 pm3 an3 cd3 ct3), sl3⟩) (c3 : PySem.W.codeIn K cd3 "is_span" = true) (k3 : PySem.W.keepIn K (.ref f3) = true)
    (a4 : PySem.W.nsIn K mainGlobals "kinds_on" = some (some (.ref f4))) (l4 : K.lookup f4 = some ⟨oc4, od4, .func (PySem.W.fnOf "kinds_on" "kinds_on" (defArgs s_kinds_on) (defBody s_kinds_on) (defScope s_kinds_on) .none kV4 dc4 pm4 an4 cd4 ct4), sl4⟩) (c4 : PySem.W.codeIn K cd4 "kinds_on" = true) (k4 : PySem.W.keepIn K (.ref f4) = true)
    (a5 : PySem.W.nsIn K mainGlobals "wants_on" = some (some (.ref f5))) (l5 : K.lookup f5 = some ⟨oc5, od5, .func (PySem.W.fnOf "wants_on" "wants_on" (defArgs s_wants_on) (defBody s_wants_on) (defScope s_wants_on) .none kV5 dc5 pm5 an5 cd5 ct5), sl5⟩) (c5 : PySem.W.codeIn K cd5 "wants_on" = true) (k5 : PySem.W.keepIn K (.ref f5) = true)
    (a6 : PySem.W.nsIn K mainGlobals "rooms_on" = some (some (.ref f6))) (l6 : K.lookup f6 = some ⟨oc6, od6, .func (PySem.W.fnOf "rooms_on" "rooms_on" (defArgs s_rooms_on) (defBody s_rooms_on) (defScope s_rooms_on) .none kV6 dc6 pm6 an6 cd6 ct6), sl6⟩) (c6 : PySem.W.codeIn K cd6 "rooms_on" = true) (k6 : PySem.W.keepIn K (.ref f6) = true)
    (a7 : PySem.W.nsIn K mainGlobals "lacking" = some (some (.ref f7))) (l7 : K.lookup f7 = some ⟨oc7, od7, .func (PySem.W.fnOf "lacking" "lacking" (defArgs s_lacking) (defBody s_lacking) (defScope s_lacking) .none kV7 dc7 pm7 an7 cd7 ct7), sl7⟩) (c7 : PySem.W.codeIn K cd7 "lacking" = true) (k7 : PySem.W.keepIn K (.ref f7) = true)
    (a8 : PySem.W.nsIn K mainGlobals "short_kind" = some (some (.ref f8))) (l8 : K.lookup f8 = some ⟨oc8, od8, .func (PySem.W.fnOf "short_kind" "short_kind" (defArgs s_short_kind) (defBody s_short_kind) (defScope s_short_kind) .none kV8 dc8 pm8 an8 cd8 ct8), sl8⟩) (c8 : PySem.W.codeIn K cd8 "short_kind" = true) (k8 : PySem.W.keepIn K (.ref f8) = true)
    (a9 : PySem.W.nsIn K mainGlobals "short_night" = some (some (.ref f9))) (l9 : K.lookup f9 = some ⟨oc9, od9, .func (PySem.W.fnOf "short_night" "short_night" (defArgs s_short_night) (defBody s_short_night) (defScope s_short_night) .none kV9 dc9 pm9 an9 cd9 ct9), sl9⟩) (c9 : PySem.W.codeIn K cd9 "short_night" = true) (k9 : PySem.W.keepIn K (.ref f9) = true)
    (a10 : PySem.W.nsIn K mainGlobals "not_driven_out" = some (some (.ref f10))) (l10 : K.lookup f10 = some ⟨oc10, od10, .func (PySem.W.fnOf "not_driven_out" "not_driven_out" (defArgs s_not_driven_out) (defBody s_not_driven_out) (defScope s_not_driven_out) .none kV10 dc10 pm10 an10 cd10 ct10), sl10⟩) (c10 : PySem.W.codeIn K cd10 "not_driven_out" = true) (k10 : PySem.W.keepIn K (.ref f10) = true)
    (a11 : PySem.W.nsIn K mainGlobals "in_the_way" = some (some (.ref f11))) (l11 : K.lookup f11 = some ⟨oc11, od11, .func (PySem.W.fnOf "in_the_way" "in_the_way" (defArgs s_in_the_way) (defBody s_in_the_way) (defScope s_in_the_way) .none kV11 dc11 pm11 an11 cd11 ct11), sl11⟩) (c11 : PySem.W.codeIn K cd11 "in_the_way" = true) (k11 : PySem.W.keepIn K (.ref f11) = true)
    (a12 : PySem.W.nsIn K mainGlobals "paper_number" = some (some (.ref f12))) (l12 : K.lookup f12 = some ⟨oc12, od12, .func (PySem.W.fnOf "paper_number" "paper_number" (defArgs s_paper_number) (defBody s_paper_number) (defScope s_paper_number) .none kV12 dc12 pm12 an12 cd12 ct12), sl12⟩) (c12 : PySem.W.codeIn K cd12 "paper_number" = true) (k12 : PySem.W.keepIn K (.ref f12) = true)
    {cG pG : Addr} {keG : Value} {kdG : Option Addr} {kfG : Array Value} {ksG : Array (Option Value)}
    (a13 : PySem.W.nsIn K mainGlobals "greatest_paper" = some (some (.ref f13))) (l13 : K.lookup f13 = some ⟨oc13, od13, .func (PySem.W.fnOf "greatest_paper" "greatest_paper" (defArgs s_greatest_paper) (defBody s_greatest_paper) (defScope s_greatest_paper) .none kV13 dc13 pm13 an13 (.ref cG) ct13), sl13⟩) (c13 : PySem.W.codeIn K (.ref cG) "greatest_paper" = true) (k13 : PySem.W.keepIn K (.ref f13) = true)
    (mG : K.lookup cG = some ⟨keG, kdG, .fields kfG, ksG⟩) (vG : kfG[11]? = some (.ref pG))
    (a14 : PySem.W.nsIn K mainGlobals "best_paper" = some (some (.ref f14))) (l14 : K.lookup f14 = some ⟨oc14, od14, .func (PySem.W.fnOf "best_paper" "best_paper" (defArgs s_best_paper) (defBody s_best_paper) (defScope s_best_paper) .none kV14 dc14 pm14 an14 cd14 ct14), sl14⟩) (c14 : PySem.W.codeIn K cd14 "best_paper" = true) (k14 : PySem.W.keepIn K (.ref f14) = true)
    {cW pW : Addr} {keW : Value} {kdW : Option Addr} {kfW : Array Value} {ksW : Array (Option Value)}
    (a15 : PySem.W.nsIn K mainGlobals "who_stays" = some (some (.ref f15))) (l15 : K.lookup f15 = some ⟨oc15, od15, .func (PySem.W.fnOf "who_stays" "who_stays" (defArgs s_who_stays) (defBody s_who_stays) (defScope s_who_stays) .none kV15 dc15 pm15 an15 (.ref cW) ct15), sl15⟩) (c15 : PySem.W.codeIn K (.ref cW) "who_stays" = true) (k15 : PySem.W.keepIn K (.ref f15) = true)
    (mW : K.lookup cW = some ⟨keW, kdW, .fields kfW, ksW⟩) (vW : kfW[11]? = some (.ref pW))
    {cR pR : Addr} {keR : Value} {kdR : Option Addr} {kfR : Array Value} {ksR : Array (Option Value)}
    (a16 : PySem.W.nsIn K mainGlobals "give_rooms" = some (some (.ref f16))) (l16 : K.lookup f16 = some ⟨oc16, od16, .func (PySem.W.fnOf "give_rooms" "give_rooms" (defArgs s_give_rooms) (defBody s_give_rooms) (defScope s_give_rooms) .none kV16 dc16 pm16 an16 (.ref cR) ct16), sl16⟩) (c16 : PySem.W.codeIn K (.ref cR) "give_rooms" = true) (k16 : PySem.W.keepIn K (.ref f16) = true)
    (mR : K.lookup cR = some ⟨keR, kdR, .fields kfR, ksR⟩) (vR : kfR[11]? = some (.ref pR))
    (a17 : PySem.W.nsIn K mainGlobals "tonight" = some (some (.ref f17))) (l17 : K.lookup f17 = some ⟨oc17, od17, .func (PySem.W.fnOf "tonight" "tonight" (defArgs s_tonight) (defBody s_tonight) (defScope s_tonight) .none kV17 dc17 pm17 an17 cd17 ct17), sl17⟩) (c17 : PySem.W.codeIn K cd17 "tonight" = true) (k17 : PySem.W.keepIn K (.ref f17) = true)
    (a18 : PySem.W.nsIn K mainGlobals "nights_of" = some (some (.ref f18))) (l18 : K.lookup f18 = some ⟨oc18, od18, .func (PySem.W.fnOf "nights_of" "nights_of" (defArgs s_nights_of) (defBody s_nights_of) (defScope s_nights_of) .none kV18 dc18 pm18 an18 cd18 ct18), sl18⟩) (c18 : PySem.W.codeIn K cd18 "nights_of" = true) (k18 : PySem.W.keepIn K (.ref f18) = true)
    (a19 : PySem.W.nsIn K mainGlobals "plan" = some (some (.ref f19))) (l19 : K.lookup f19 = some ⟨oc19, od19, .func (PySem.W.fnOf "plan" "plan" (defArgs s_plan) (defBody s_plan) (defScope s_plan) .none kV19 dc19 pm19 an19 cd19 ct19), sl19⟩) (c19 : PySem.W.codeIn K cd19 "plan" = true) (k19 : PySem.W.keepIn K (.ref f19) = true)
    (a20 : PySem.W.nsIn K mainGlobals "_law_cell" = some (some (.ref f20))) (l20 : K.lookup f20 = some ⟨oc20, od20, .func (PySem.W.fnOf "_law_cell" "_law_cell" (defArgs s_law_cell) (defBody s_law_cell) (defScope s_law_cell) .none kV20 dc20 pm20 an20 cd20 ct20), sl20⟩) (c20 : PySem.W.codeIn K cd20 "_law_cell" = true) (k20 : PySem.W.keepIn K (.ref f20) = true)
    (a21 : PySem.W.nsIn K mainGlobals "_law_kind" = some (some (.ref f21))) (l21 : K.lookup f21 = some ⟨oc21, od21, .func (PySem.W.fnOf "_law_kind" "_law_kind" (defArgs s_law_kind) (defBody s_law_kind) (defScope s_law_kind) .none kV21 dc21 pm21 an21 cd21 ct21), sl21⟩) (c21 : PySem.W.codeIn K cd21 "_law_kind" = true) (k21 : PySem.W.keepIn K (.ref f21) = true)
    (a22 : PySem.W.nsIn K mainGlobals "_law_counts_by" = some (some (.ref f22))) (l22 : K.lookup f22 = some ⟨oc22, od22, .func (PySem.W.fnOf "_law_counts_by" "_law_counts_by" (defArgs s_law_counts_by) (defBody s_law_counts_by) (defScope s_law_counts_by) .none kV22 dc22 pm22 an22 cd22 ct22), sl22⟩) (c22 : PySem.W.codeIn K cd22 "_law_counts_by" = true) (k22 : PySem.W.keepIn K (.ref f22) = true)
    (a23 : PySem.W.nsIn K mainGlobals "_law_bound_by" = some (some (.ref f23))) (l23 : K.lookup f23 = some ⟨oc23, od23, .func (PySem.W.fnOf "_law_bound_by" "_law_bound_by" (defArgs s_law_bound_by) (defBody s_law_bound_by) (defScope s_law_bound_by) .none kV23 dc23 pm23 an23 cd23 ct23), sl23⟩) (c23 : PySem.W.codeIn K cd23 "_law_bound_by" = true) (k23 : PySem.W.keepIn K (.ref f23) = true)
    (a24 : PySem.W.nsIn K mainGlobals "_law_asked" = some (some (.ref f24))) (l24 : K.lookup f24 = some ⟨oc24, od24, .func (PySem.W.fnOf "_law_asked" "_law_asked" (defArgs s_law_asked) (defBody s_law_asked) (defScope s_law_asked) .none kV24 dc24 pm24 an24 cd24 ct24), sl24⟩) (c24 : PySem.W.codeIn K cd24 "_law_asked" = true) (k24 : PySem.W.keepIn K (.ref f24) = true)
    (a25 : PySem.W.nsIn K mainGlobals "_law_word" = some (some (.ref f25))) (l25 : K.lookup f25 = some ⟨oc25, od25, .func (PySem.W.fnOf "_law_word" "_law_word" (defArgs s_law_word) (defBody s_law_word) (defScope s_law_word) .none kV25 dc25 pm25 an25 cd25 ct25), sl25⟩) (c25 : PySem.W.codeIn K cd25 "_law_word" = true) (k25 : PySem.W.keepIn K (.ref f25) = true)
    (a26 : PySem.W.nsIn K mainGlobals "_law_none" = some (some (.ref f26))) (l26 : K.lookup f26 = some ⟨oc26, od26, .func (PySem.W.fnOf "_law_none" "_law_none" (defArgs s_law_none) (defBody s_law_none) (defScope s_law_none) .none kV26 dc26 pm26 an26 cd26 ct26), sl26⟩) (c26 : PySem.W.codeIn K cd26 "_law_none" = true) (k26 : PySem.W.keepIn K (.ref f26) = true)
    (a27 : PySem.W.nsIn K mainGlobals "_law_made_good" = some (some (.ref f27))) (l27 : K.lookup f27 = some ⟨oc27, od27, .func (PySem.W.fnOf "_law_made_good" "_law_made_good" (defArgs s_law_made_good) (defBody s_law_made_good) (defScope s_law_made_good) .none kV27 dc27 pm27 an27 cd27 ct27), sl27⟩) (c27 : PySem.W.codeIn K cd27 "_law_made_good" = true) (k27 : PySem.W.keepIn K (.ref f27) = true)
    (a28 : PySem.W.nsIn K mainGlobals "law" = some (some (.ref f28))) (l28 : K.lookup f28 = some ⟨oc28, od28, .func (PySem.W.fnOf "law" "law" (defArgs s_law) (defBody s_law) (defScope s_law) .none kV28 dc28 pm28 an28 cd28 ct28), sl28⟩) (c28 : PySem.W.codeIn K cd28 "law" = true) (k28 : PySem.W.keepIn K (.ref f28) = true)
    (n1 : pG ≠ pW) (n2 : pG ≠ pR) (n3 : pW ≠ pR) (hno : PySem.W.noTabs K = true) (hTab : ∀ x ∈ (["greatest_paper", "who_stays", "give_rooms"] : List Str), ∀ c P, PySem.W.tabIn K x = some (c, P) → PySem.W.CodeHd h c P ∧ h.get? P = some { cls := .none, data := .fields #[] })
    {C_InnError C_BadHouse C_BadSpan C_Full C_NoPromise C_NoClosing C_NoWayBack C_Inn fm0 fm1 fm2 fm3 fm4 fm5 fm6 fm7 fm8 fm9 fm10 fm11 fm12 : Addr} {om0 nm0 om1 nm1 om2 nm2 om3 nm3 om4 nm4 om5 nm5 om6 nm6 om7 nm7 om8 nm8 om9 nm9 om10 nm10 om11 nm11 om12 nm12 : Option Addr} {sm0 sm1 sm2 sm3 sm4 sm5 sm6 sm7 sm8 sm9 sm10 sm11 sm12 : Array (Option Value)} {cm0 vm0 dm0 pm_0 em0 tm0 cm1 vm1 dm1 pm_1 em1 tm1 cm2 vm2 dm2 pm_2 em2 tm2 cm3 vm3 dm3 pm_3 em3 tm3 cm4 vm4 dm4 pm_4 em4 tm4 cm5 vm5 dm5 pm_5 em5 tm5 cm6 vm6 dm6 pm_6 em6 tm6 cm7 vm7 dm7 pm_7 em7 tm7 cm8 vm8 dm8 pm_8 em8 tm8 cm9 vm9 dm9 pm_9 em9 tm9 cm10 vm10 dm10 pm_10 em10 tm10 cm11 vm11 dm11 pm_11 em11 tm11 cm12 vm12 dm12 pm_12 em12 tm12 : Value}
    (e_InnError : PySem.W.nsIn K mainGlobals "InnError" = some (some (.ref C_InnError)))
    (e_BadHouse : PySem.W.nsIn K mainGlobals "BadHouse" = some (some (.ref C_BadHouse)))
    (e_BadSpan : PySem.W.nsIn K mainGlobals "BadSpan" = some (some (.ref C_BadSpan)))
    (e_Full : PySem.W.nsIn K mainGlobals "Full" = some (some (.ref C_Full)))
    (e_NoPromise : PySem.W.nsIn K mainGlobals "NoPromise" = some (some (.ref C_NoPromise)))
    (e_NoClosing : PySem.W.nsIn K mainGlobals "NoClosing" = some (some (.ref C_NoClosing)))
    (e_NoWayBack : PySem.W.nsIn K mainGlobals "NoWayBack" = some (some (.ref C_NoWayBack)))
    (e_Inn : PySem.W.nsIn K mainGlobals "Inn" = some (some (.ref C_Inn)))
    (ma0 : PySem.W.findIn K (.ref C_Inn) "__init__" = some (some (.ref fm0)))
    (mi0 : PySem.W.isFn K (.ref fm0) = true)
    (ml0 : K.lookup fm0 = some ⟨cm0, om0, .func (PySem.W.fnOf "__init__" "Inn.__init__" (defArgs s_Inn___init__) (defBody s_Inn___init__) (defScope s_Inn___init__) .none vm0 dm0 pm_0 nm0 em0 tm0), sm0⟩)
    (mc0 : PySem.W.codeIn K em0 "Inn.__init__" = true)
    (mk0 : PySem.W.keepIn K (.ref fm0) = true)
    (ma1 : PySem.W.findIn K (.ref C_Inn) "promise" = some (some (.ref fm1)))
    (mi1 : PySem.W.isFn K (.ref fm1) = true)
    (ml1 : K.lookup fm1 = some ⟨cm1, om1, .func (PySem.W.fnOf "promise" "Inn.promise" (defArgs s_Inn_promise) (defBody s_Inn_promise) (defScope s_Inn_promise) .none vm1 dm1 pm_1 nm1 em1 tm1), sm1⟩)
    (mc1 : PySem.W.codeIn K em1 "Inn.promise" = true)
    (mk1 : PySem.W.keepIn K (.ref fm1) = true)
    (ma2 : PySem.W.findIn K (.ref C_Inn) "close" = some (some (.ref fm2)))
    (mi2 : PySem.W.isFn K (.ref fm2) = true)
    (ml2 : K.lookup fm2 = some ⟨cm2, om2, .func (PySem.W.fnOf "close" "Inn.close" (defArgs s_Inn_close) (defBody s_Inn_close) (defScope s_Inn_close) .none vm2 dm2 pm_2 nm2 em2 tm2), sm2⟩)
    (mc2 : PySem.W.codeIn K em2 "Inn.close" = true)
    (mk2 : PySem.W.keepIn K (.ref fm2) = true)
    (ma3 : PySem.W.findIn K (.ref C_Inn) "drop" = some (some (.ref fm3)))
    (mi3 : PySem.W.isFn K (.ref fm3) = true)
    (ml3 : K.lookup fm3 = some ⟨cm3, om3, .func (PySem.W.fnOf "drop" "Inn.drop" (defArgs s_Inn_drop) (defBody s_Inn_drop) (defScope s_Inn_drop) .none vm3 dm3 pm_3 nm3 em3 tm3), sm3⟩)
    (mc3 : PySem.W.codeIn K em3 "Inn.drop" = true)
    (mk3 : PySem.W.keepIn K (.ref fm3) = true)
    (ma4 : PySem.W.findIn K (.ref C_Inn) "reopen" = some (some (.ref fm4)))
    (mi4 : PySem.W.isFn K (.ref fm4) = true)
    (ml4 : K.lookup fm4 = some ⟨cm4, om4, .func (PySem.W.fnOf "reopen" "Inn.reopen" (defArgs s_Inn_reopen) (defBody s_Inn_reopen) (defScope s_Inn_reopen) .none vm4 dm4 pm_4 nm4 em4 tm4), sm4⟩)
    (mc4 : PySem.W.codeIn K em4 "Inn.reopen" = true)
    (mk4 : PySem.W.keepIn K (.ref fm4) = true)
    (ma5 : PySem.W.findIn K (.ref C_Inn) "undo" = some (some (.ref fm5)))
    (mi5 : PySem.W.isFn K (.ref fm5) = true)
    (ml5 : K.lookup fm5 = some ⟨cm5, om5, .func (PySem.W.fnOf "undo" "Inn.undo" (defArgs s_Inn_undo) (defBody s_Inn_undo) (defScope s_Inn_undo) .none vm5 dm5 pm_5 nm5 em5 tm5), sm5⟩)
    (mc5 : PySem.W.codeIn K em5 "Inn.undo" = true)
    (mk5 : PySem.W.keepIn K (.ref fm5) = true)
    (ma6 : PySem.W.findIn K (.ref C_Inn) "promises" = some (some (.ref fm6)))
    (mi6 : PySem.W.isFn K (.ref fm6) = true)
    (ml6 : K.lookup fm6 = some ⟨cm6, om6, .func (PySem.W.fnOf "promises" "Inn.promises" (defArgs s_Inn_promises) (defBody s_Inn_promises) (defScope s_Inn_promises) .none vm6 dm6 pm_6 nm6 em6 tm6), sm6⟩)
    (mc6 : PySem.W.codeIn K em6 "Inn.promises" = true)
    (mk6 : PySem.W.keepIn K (.ref fm6) = true)
    (ma7 : PySem.W.findIn K (.ref C_Inn) "closings" = some (some (.ref fm7)))
    (mi7 : PySem.W.isFn K (.ref fm7) = true)
    (ml7 : K.lookup fm7 = some ⟨cm7, om7, .func (PySem.W.fnOf "closings" "Inn.closings" (defArgs s_Inn_closings) (defBody s_Inn_closings) (defScope s_Inn_closings) .none vm7 dm7 pm_7 nm7 em7 tm7), sm7⟩)
    (mc7 : PySem.W.codeIn K em7 "Inn.closings" = true)
    (mk7 : PySem.W.keepIn K (.ref fm7) = true)
    (ma8 : PySem.W.findIn K (.ref C_Inn) "nights" = some (some (.ref fm8)))
    (mi8 : PySem.W.isFn K (.ref fm8) = true)
    (ml8 : K.lookup fm8 = some ⟨cm8, om8, .func (PySem.W.fnOf "nights" "Inn.nights" (defArgs s_Inn_nights) (defBody s_Inn_nights) (defScope s_Inn_nights) .none vm8 dm8 pm_8 nm8 em8 tm8), sm8⟩)
    (mc8 : PySem.W.codeIn K em8 "Inn.nights" = true)
    (mk8 : PySem.W.keepIn K (.ref fm8) = true)
    (ma9 : PySem.W.findIn K (.ref C_Inn) "rooms_for" = some (some (.ref fm9)))
    (mi9 : PySem.W.isFn K (.ref fm9) = true)
    (ml9 : K.lookup fm9 = some ⟨cm9, om9, .func (PySem.W.fnOf "rooms_for" "Inn.rooms_for" (defArgs s_Inn_rooms_for) (defBody s_Inn_rooms_for) (defScope s_Inn_rooms_for) .none vm9 dm9 pm_9 nm9 em9 tm9), sm9⟩)
    (mc9 : PySem.W.codeIn K em9 "Inn.rooms_for" = true)
    (mk9 : PySem.W.keepIn K (.ref fm9) = true)
    (ma10 : PySem.W.findIn K (.ref C_Inn) "_check_span" = some (some (.ref fm10)))
    (mi10 : PySem.W.isFn K (.ref fm10) = true)
    (ml10 : K.lookup fm10 = some ⟨cm10, om10, .func (PySem.W.fnOf "_check_span" "Inn._check_span" (defArgs s_Inn__check_span) (defBody s_Inn__check_span) (defScope s_Inn__check_span) .none vm10 dm10 pm_10 nm10 em10 tm10), sm10⟩)
    (mc10 : PySem.W.codeIn K em10 "Inn._check_span" = true)
    (mk10 : PySem.W.keepIn K (.ref fm10) = true)
    (ma11 : PySem.W.findIn K (.ref C_Inn) "_check_needs" = some (some (.ref fm11)))
    (mi11 : PySem.W.isFn K (.ref fm11) = true)
    (ml11 : K.lookup fm11 = some ⟨cm11, om11, .func (PySem.W.fnOf "_check_needs" "Inn._check_needs" (defArgs s_Inn__check_needs) (defBody s_Inn__check_needs) (defScope s_Inn__check_needs) .none vm11 dm11 pm_11 nm11 em11 tm11), sm11⟩)
    (mc11 : PySem.W.codeIn K em11 "Inn._check_needs" = true)
    (mk11 : PySem.W.keepIn K (.ref fm11) = true)
    (ma12 : PySem.W.findIn K (.ref C_Inn) "_remember" = some (some (.ref fm12)))
    (mi12 : PySem.W.isFn K (.ref fm12) = true)
    (ml12 : K.lookup fm12 = some ⟨cm12, om12, .func (PySem.W.fnOf "_remember" "Inn._remember" (defArgs s_Inn__remember) (defBody s_Inn__remember) (defScope s_Inn__remember) .none vm12 dm12 pm_12 nm12 em12 tm12), sm12⟩)
    (mc12 : PySem.W.codeIn K em12 "Inn._remember" = true)
    (mk12 : PySem.W.keepIn K (.ref fm12) = true)
    (i_pg : PySem.W.plainGet K C_Inn Str.empty = true)
    (i_hd : PySem.W.hasDictIn K C_Inn = true)
    (i_po : PySem.W.plainOver K C_Inn = true)
    (i_sa : PySem.W.findIn K (.ref C_Inn) "__setattr__" = some (some (.builtin "object.__setattr__")))
    (i_mk : PySem.W.makesIn K C_Inn = true)
    (i_kc : PySem.W.keepIn K (.ref C_Inn) = true)
    (i_n0 : PySem.W.findIn K (.ref C_Inn) "_counts" = some none)
    (i_n1 : PySem.W.findIn K (.ref C_Inn) "_stays" = some none)
    (i_n2 : PySem.W.findIn K (.ref C_Inn) "_shut" = some none)
    (i_n3 : PySem.W.findIn K (.ref C_Inn) "_next_stay" = some none)
    (i_n4 : PySem.W.findIn K (.ref C_Inn) "_next_shut" = some none)
    (i_n5 : PySem.W.findIn K (.ref C_Inn) "_past" = some none)
    (x_ex_BadHouse : PySem.W.excIn K C_BadHouse [.type "ValueError", .type "Exception", .type "BaseException", .type "object"] "ValueError.__new__" = true)
    (x_kC_BadHouse : PySem.W.keepIn K (.ref C_BadHouse) = true)
    (x_exC_BadHouse : PySem.W.subIn K (.ref C_BadHouse) (.type "BaseException") = some true)
    (x_tyC_BadHouse : PySem.W.typeIn K (.ref C_BadHouse) = some (.type "type"))
    (x_ic_BadHouse : PySem.W.isClsIn K C_BadHouse = true)
    (x_ga_BadHouse : PySem.W.findIn K (.ref C_BadHouse) "__getattribute__" = some (some (.builtin "BaseException.__getattribute__")))
    (x_gg_BadHouse : PySem.W.findIn K (.ref C_BadHouse) "__getattr__" = some none)
    (x_ha_BadHouse : PySem.W.findIn K (.ref C_BadHouse) "__class__" = some (some (.builtin "object.__class__")))
    (x_hm_BadHouse : PySem.W.mroIn K C_BadHouse (.type "object") = some true)
    (x_ex_BadSpan : PySem.W.excIn K C_BadSpan [.type "ValueError", .type "Exception", .type "BaseException", .type "object"] "ValueError.__new__" = true)
    (x_kC_BadSpan : PySem.W.keepIn K (.ref C_BadSpan) = true)
    (x_exC_BadSpan : PySem.W.subIn K (.ref C_BadSpan) (.type "BaseException") = some true)
    (x_tyC_BadSpan : PySem.W.typeIn K (.ref C_BadSpan) = some (.type "type"))
    (x_ic_BadSpan : PySem.W.isClsIn K C_BadSpan = true)
    (x_ga_BadSpan : PySem.W.findIn K (.ref C_BadSpan) "__getattribute__" = some (some (.builtin "BaseException.__getattribute__")))
    (x_gg_BadSpan : PySem.W.findIn K (.ref C_BadSpan) "__getattr__" = some none)
    (x_ha_BadSpan : PySem.W.findIn K (.ref C_BadSpan) "__class__" = some (some (.builtin "object.__class__")))
    (x_hm_BadSpan : PySem.W.mroIn K C_BadSpan (.type "object") = some true)
    (x_ex_NoPromise : PySem.W.excIn K C_NoPromise [.type "ValueError", .type "Exception", .type "BaseException", .type "object"] "ValueError.__new__" = true)
    (x_kC_NoPromise : PySem.W.keepIn K (.ref C_NoPromise) = true)
    (x_exC_NoPromise : PySem.W.subIn K (.ref C_NoPromise) (.type "BaseException") = some true)
    (x_tyC_NoPromise : PySem.W.typeIn K (.ref C_NoPromise) = some (.type "type"))
    (x_ic_NoPromise : PySem.W.isClsIn K C_NoPromise = true)
    (x_ga_NoPromise : PySem.W.findIn K (.ref C_NoPromise) "__getattribute__" = some (some (.builtin "BaseException.__getattribute__")))
    (x_gg_NoPromise : PySem.W.findIn K (.ref C_NoPromise) "__getattr__" = some none)
    (x_ha_NoPromise : PySem.W.findIn K (.ref C_NoPromise) "__class__" = some (some (.builtin "object.__class__")))
    (x_hm_NoPromise : PySem.W.mroIn K C_NoPromise (.type "object") = some true)
    (x_ex_NoClosing : PySem.W.excIn K C_NoClosing [.type "ValueError", .type "Exception", .type "BaseException", .type "object"] "ValueError.__new__" = true)
    (x_kC_NoClosing : PySem.W.keepIn K (.ref C_NoClosing) = true)
    (x_exC_NoClosing : PySem.W.subIn K (.ref C_NoClosing) (.type "BaseException") = some true)
    (x_tyC_NoClosing : PySem.W.typeIn K (.ref C_NoClosing) = some (.type "type"))
    (x_ic_NoClosing : PySem.W.isClsIn K C_NoClosing = true)
    (x_ga_NoClosing : PySem.W.findIn K (.ref C_NoClosing) "__getattribute__" = some (some (.builtin "BaseException.__getattribute__")))
    (x_gg_NoClosing : PySem.W.findIn K (.ref C_NoClosing) "__getattr__" = some none)
    (x_ha_NoClosing : PySem.W.findIn K (.ref C_NoClosing) "__class__" = some (some (.builtin "object.__class__")))
    (x_hm_NoClosing : PySem.W.mroIn K C_NoClosing (.type "object") = some true)
    (x_ex_NoWayBack : PySem.W.excIn K C_NoWayBack [.type "ValueError", .type "Exception", .type "BaseException", .type "object"] "ValueError.__new__" = true)
    (x_kC_NoWayBack : PySem.W.keepIn K (.ref C_NoWayBack) = true)
    (x_exC_NoWayBack : PySem.W.subIn K (.ref C_NoWayBack) (.type "BaseException") = some true)
    (x_tyC_NoWayBack : PySem.W.typeIn K (.ref C_NoWayBack) = some (.type "type"))
    (x_ic_NoWayBack : PySem.W.isClsIn K C_NoWayBack = true)
    (x_ga_NoWayBack : PySem.W.findIn K (.ref C_NoWayBack) "__getattribute__" = some (some (.builtin "BaseException.__getattribute__")))
    (x_gg_NoWayBack : PySem.W.findIn K (.ref C_NoWayBack) "__getattr__" = some none)
    (x_ha_NoWayBack : PySem.W.findIn K (.ref C_NoWayBack) "__class__" = some (some (.builtin "object.__class__")))
    (x_hm_NoWayBack : PySem.W.mroIn K C_NoWayBack (.type "object") = some true)
    (x_hn : PySem.W.specialIn K (.builtin "object.__class__") "__get__" = some (some (.builtin "getset_descriptor.__get__")))
    (x_tk : PySem.W.takesIn K (.builtin "object.__class__") = some true)
    (q_BadHouse_BadHouse : PySem.W.kitOne K (.ref C_BadHouse) (.ref C_BadHouse) = some true)
    (q_BadHouse_BadSpan : PySem.W.kitOne K (.ref C_BadHouse) (.ref C_BadSpan) = some false)
    (q_BadHouse_Full : PySem.W.kitOne K (.ref C_BadHouse) (.ref C_Full) = some false)
    (q_BadHouse_NoPromise : PySem.W.kitOne K (.ref C_BadHouse) (.ref C_NoPromise) = some false)
    (q_BadHouse_NoClosing : PySem.W.kitOne K (.ref C_BadHouse) (.ref C_NoClosing) = some false)
    (q_BadHouse_NoWayBack : PySem.W.kitOne K (.ref C_BadHouse) (.ref C_NoWayBack) = some false)
    (q_BadHouse_ve : PySem.W.kitOne K (.ref C_BadHouse) (.type "ValueError") = some true)
    (q_BadHouse_ex : PySem.W.exmOne K (.ref C_BadHouse) (.ref C_InnError) = some true)
    (q_BadSpan_BadHouse : PySem.W.kitOne K (.ref C_BadSpan) (.ref C_BadHouse) = some false)
    (q_BadSpan_BadSpan : PySem.W.kitOne K (.ref C_BadSpan) (.ref C_BadSpan) = some true)
    (q_BadSpan_Full : PySem.W.kitOne K (.ref C_BadSpan) (.ref C_Full) = some false)
    (q_BadSpan_NoPromise : PySem.W.kitOne K (.ref C_BadSpan) (.ref C_NoPromise) = some false)
    (q_BadSpan_NoClosing : PySem.W.kitOne K (.ref C_BadSpan) (.ref C_NoClosing) = some false)
    (q_BadSpan_NoWayBack : PySem.W.kitOne K (.ref C_BadSpan) (.ref C_NoWayBack) = some false)
    (q_BadSpan_ve : PySem.W.kitOne K (.ref C_BadSpan) (.type "ValueError") = some true)
    (q_BadSpan_ex : PySem.W.exmOne K (.ref C_BadSpan) (.ref C_InnError) = some true)
    (q_NoPromise_BadHouse : PySem.W.kitOne K (.ref C_NoPromise) (.ref C_BadHouse) = some false)
    (q_NoPromise_BadSpan : PySem.W.kitOne K (.ref C_NoPromise) (.ref C_BadSpan) = some false)
    (q_NoPromise_Full : PySem.W.kitOne K (.ref C_NoPromise) (.ref C_Full) = some false)
    (q_NoPromise_NoPromise : PySem.W.kitOne K (.ref C_NoPromise) (.ref C_NoPromise) = some true)
    (q_NoPromise_NoClosing : PySem.W.kitOne K (.ref C_NoPromise) (.ref C_NoClosing) = some false)
    (q_NoPromise_NoWayBack : PySem.W.kitOne K (.ref C_NoPromise) (.ref C_NoWayBack) = some false)
    (q_NoPromise_ve : PySem.W.kitOne K (.ref C_NoPromise) (.type "ValueError") = some true)
    (q_NoPromise_ex : PySem.W.exmOne K (.ref C_NoPromise) (.ref C_InnError) = some true)
    (q_NoClosing_BadHouse : PySem.W.kitOne K (.ref C_NoClosing) (.ref C_BadHouse) = some false)
    (q_NoClosing_BadSpan : PySem.W.kitOne K (.ref C_NoClosing) (.ref C_BadSpan) = some false)
    (q_NoClosing_Full : PySem.W.kitOne K (.ref C_NoClosing) (.ref C_Full) = some false)
    (q_NoClosing_NoPromise : PySem.W.kitOne K (.ref C_NoClosing) (.ref C_NoPromise) = some false)
    (q_NoClosing_NoClosing : PySem.W.kitOne K (.ref C_NoClosing) (.ref C_NoClosing) = some true)
    (q_NoClosing_NoWayBack : PySem.W.kitOne K (.ref C_NoClosing) (.ref C_NoWayBack) = some false)
    (q_NoClosing_ve : PySem.W.kitOne K (.ref C_NoClosing) (.type "ValueError") = some true)
    (q_NoClosing_ex : PySem.W.exmOne K (.ref C_NoClosing) (.ref C_InnError) = some true)
    (q_NoWayBack_BadHouse : PySem.W.kitOne K (.ref C_NoWayBack) (.ref C_BadHouse) = some false)
    (q_NoWayBack_BadSpan : PySem.W.kitOne K (.ref C_NoWayBack) (.ref C_BadSpan) = some false)
    (q_NoWayBack_Full : PySem.W.kitOne K (.ref C_NoWayBack) (.ref C_Full) = some false)
    (q_NoWayBack_NoPromise : PySem.W.kitOne K (.ref C_NoWayBack) (.ref C_NoPromise) = some false)
    (q_NoWayBack_NoClosing : PySem.W.kitOne K (.ref C_NoWayBack) (.ref C_NoClosing) = some false)
    (q_NoWayBack_NoWayBack : PySem.W.kitOne K (.ref C_NoWayBack) (.ref C_NoWayBack) = some true)
    (q_NoWayBack_ve : PySem.W.kitOne K (.ref C_NoWayBack) (.type "ValueError") = some true)
    (q_NoWayBack_ex : PySem.W.exmOne K (.ref C_NoWayBack) (.ref C_InnError) = some true)
    (z_all : PySem.W.nsIn K mainGlobals "all" = some none)
    (z_len : PySem.W.nsIn K mainGlobals "len" = some none)
    (z_sum : PySem.W.nsIn K mainGlobals "sum" = some none)
    (z_max : PySem.W.nsIn K mainGlobals "max" = some none)
    (z_list : PySem.W.nsIn K mainGlobals "list" = some none)
    (z_range : PySem.W.nsIn K mainGlobals "range" = some none)
    (z_sorted : PySem.W.nsIn K mainGlobals "sorted" = some none)
    (z_set : PySem.W.nsIn K mainGlobals "set" = some none)
    (z_dict : PySem.W.nsIn K mainGlobals "dict" = some none)
    (z_min : PySem.W.nsIn K mainGlobals "min" = some none)
    (z_isinstance : PySem.W.nsIn K mainGlobals "isinstance" = some none)
    (z_int : PySem.W.nsIn K mainGlobals "int" = some none)
    (z_bool : PySem.W.nsIn K mainGlobals "bool" = some none)
    (z_abs : PySem.W.nsIn K mainGlobals "abs" = some none)
    (z_ValueError : PySem.W.nsIn K mainGlobals "ValueError" = some none)
    (g_MOST_KINDS : ∃ t, PySem.W.nsIn K mainGlobals "MOST_KINDS" = some (some (.int 6 t)))
    (g_MOST_OF_A_KIND : ∃ t, PySem.W.nsIn K mainGlobals "MOST_OF_A_KIND" = some (some (.int 9 t)))
    (g_NIGHTS : ∃ t, PySem.W.nsIn K mainGlobals "NIGHTS" = some (some (.int 40 t)))
    : LamX.LawAtS l w K CX0 15 63 "_law_script" mg fa h := by
  have e := hfa.symm.trans (PySem.W.mg_of X G a28)
  cases e
  have T : Tp mg := ⟨PySem.W.mg_none_of X G z_all, PySem.W.mg_none_of X G z_len, PySem.W.mg_none_of X G z_sum, PySem.W.mg_none_of X G z_max, PySem.W.mg_none_of X G z_list, PySem.W.mg_none_of X G z_range, PySem.W.mg_none_of X G z_sorted, PySem.W.mg_none_of X G z_set, PySem.W.mg_none_of X G z_dict, PySem.W.mg_none_of X G z_min, PySem.W.mg_none_of X G z_isinstance, PySem.W.mg_none_of X G z_int, PySem.W.mg_none_of X G z_bool, PySem.W.mg_none_of X G z_abs, PySem.W.mg_none_of X G z_ValueError, g_MOST_KINDS.imp fun _ z => PySem.W.mg_of X G z, g_MOST_OF_A_KIND.imp fun _ z => PySem.W.mg_of X G z, g_NIGHTS.imp fun _ z => PySem.W.mg_of X G z⟩
  have F_is_house := fun_mk (st := s_is_house) l0 c0 k0
  have D_is_house := dn_mk F_is_house (PySem.W.mg_of X G a0) (F_is_house.binds (ps := ["counts"]) fun _ _ _ _ _ _ us hl => match us, hl with | [_], _ => rfl)
  have F_first_room := fun_mk (st := s_first_room) l1 c1 k1
  have D_first_room := dn_mk F_first_room (PySem.W.mg_of X G a1) (F_first_room.binds (ps := ["counts", "kind"]) fun _ _ _ _ _ _ us hl => match us, hl with | [_, _], _ => rfl)
  have F_rooms_of := fun_mk (st := s_rooms_of) l2 c2 k2
  have D_rooms_of := dn_mk F_rooms_of (PySem.W.mg_of X G a2) (F_rooms_of.binds (ps := ["counts", "kind"]) fun _ _ _ _ _ _ us hl => match us, hl with | [_, _], _ => rfl)
  have F_is_span := fun_mk (st := s_is_span) l3 c3 k3
  have D_is_span := dn_mk F_is_span (PySem.W.mg_of X G a3) (F_is_span.binds (ps := ["counts", "first", "last", "kind"]) fun _ _ _ _ _ _ us hl => match us, hl with | [_, _, _, _], _ => rfl)
  have F_kinds_on := fun_mk (st := s_kinds_on) l4 c4 k4
  have D_kinds_on := dn_mk F_kinds_on (PySem.W.mg_of X G a4) (F_kinds_on.binds (ps := ["spans", "night"]) fun _ _ _ _ _ _ us hl => match us, hl with | [_, _], _ => rfl)
  have F_wants_on := fun_mk (st := s_wants_on) l5 c5 k5
  have D_wants_on := dn_mk F_wants_on (PySem.W.mg_of X G a5) (F_wants_on.binds (ps := ["stays", "night"]) fun _ _ _ _ _ _ us hl => match us, hl with | [_, _], _ => rfl)
  have F_rooms_on := fun_mk (st := s_rooms_on) l6 c6 k6
  have D_rooms_on := dn_mk F_rooms_on (PySem.W.mg_of X G a6) (F_rooms_on.binds (ps := ["counts", "closings", "night"]) fun _ _ _ _ _ _ us hl => match us, hl with | [_, _, _], _ => rfl)
  have F_lacking := fun_mk (st := s_lacking) l7 c7 k7
  have D_lacking := dn_mk F_lacking (PySem.W.mg_of X G a7) (F_lacking.binds (ps := ["counts", "rooms", "wants", "kind"]) fun _ _ _ _ _ _ us hl => match us, hl with | [_, _, _, _], _ => rfl)
  have F_short_kind := fun_mk (st := s_short_kind) l8 c8 k8
  have D_short_kind := dn_mk F_short_kind (PySem.W.mg_of X G a8) (F_short_kind.binds (ps := ["counts", "rooms", "wants"]) fun _ _ _ _ _ _ us hl => match us, hl with | [_, _, _], _ => rfl)
  have F_short_night := fun_mk (st := s_short_night) l9 c9 k9
  have D_short_night := dn_mk F_short_night (PySem.W.mg_of X G a9) (F_short_night.binds (ps := ["counts", "closings", "stays"]) fun _ _ _ _ _ _ us hl => match us, hl with | [_, _, _], _ => rfl)
  have F_not_driven_out := fun_mk (st := s_not_driven_out) l10 c10 k10
  have D_not_driven_out := dn_mk F_not_driven_out (PySem.W.mg_of X G a10) (F_not_driven_out.binds (ps := ["rooms", "wants", "ahead"]) fun _ _ _ _ _ _ us hl => match us, hl with | [_, _, _], _ => rfl)
  have F_in_the_way := fun_mk (st := s_in_the_way) l11 c11 k11
  have D_in_the_way := dn_mk F_in_the_way (PySem.W.mg_of X G a11) (F_in_the_way.binds (ps := ["counts", "wants", "staying", "kind"]) fun _ _ _ _ _ _ us hl => match us, hl with | [_, _, _, _], _ => rfl)
  have F_paper_number := fun_mk (st := s_paper_number) l12 c12 k12
  have D_paper_number := dn_mk F_paper_number (PySem.W.mg_of X G a12) (F_paper_number.binds (ps := ["counts", "rooms", "wants", "ahead", "paper"]) fun _ _ _ _ _ _ us hl => match us, hl with | [_, _, _, _, _], _ => rfl)
  have F_greatest_paper := fun_mk (st := s_greatest_paper) l13 c13 k13
  have D_greatest_paper : DnC K mg "greatest_paper" s_greatest_paper ["counts", "rooms", "wants", "ahead", "papers"] cG := ⟨f13, _, F_greatest_paper, rfl, PySem.W.mg_of X G a13, (F_greatest_paper.binds (ps := ["counts", "rooms", "wants", "ahead", "papers"]) fun _ _ _ _ _ _ us hl => match us, hl with | [_, _, _, _, _], _ => rfl)⟩
  have tG := hTab "greatest_paper" (by simp) cG pG (tabIn_of a13 l13 rfl mG vG)
  have F_best_paper := fun_mk (st := s_best_paper) l14 c14 k14
  have D_best_paper := dn_mk F_best_paper (PySem.W.mg_of X G a14) (F_best_paper.binds (ps := ["counts", "rooms", "wants", "ahead"]) fun _ _ _ _ _ _ us hl => match us, hl with | [_, _, _, _], _ => rfl)
  have F_who_stays := fun_mk (st := s_who_stays) l15 c15 k15
  have D_who_stays : DnC K mg "who_stays" s_who_stays ["counts", "rooms", "wants", "ahead"] cW := ⟨f15, _, F_who_stays, rfl, PySem.W.mg_of X G a15, (F_who_stays.binds (ps := ["counts", "rooms", "wants", "ahead"]) fun _ _ _ _ _ _ us hl => match us, hl with | [_, _, _, _], _ => rfl)⟩
  have tW := hTab "who_stays" (by simp) cW pW (tabIn_of a15 l15 rfl mW vW)
  have F_give_rooms := fun_mk (st := s_give_rooms) l16 c16 k16
  have D_give_rooms : DnC K mg "give_rooms" s_give_rooms ["counts", "rooms", "wants", "staying"] cR := ⟨f16, _, F_give_rooms, rfl, PySem.W.mg_of X G a16, (F_give_rooms.binds (ps := ["counts", "rooms", "wants", "staying"]) fun _ _ _ _ _ _ us hl => match us, hl with | [_, _, _, _], _ => rfl)⟩
  have tR := hTab "give_rooms" (by simp) cR pR (tabIn_of a16 l16 rfl mR vR)
  have F_tonight := fun_mk (st := s_tonight) l17 c17 k17
  have D_tonight := dn_mk F_tonight (PySem.W.mg_of X G a17) (F_tonight.binds (ps := ["counts", "rooms", "wants", "ahead"]) fun _ _ _ _ _ _ us hl => match us, hl with | [_, _, _, _], _ => rfl)
  have F_nights_of := fun_mk (st := s_nights_of) l18 c18 k18
  have D_nights_of := dn_mk F_nights_of (PySem.W.mg_of X G a18) (F_nights_of.binds (ps := ["stays"]) fun _ _ _ _ _ _ us hl => match us, hl with | [_], _ => rfl)
  have F_plan := fun_mk (st := s_plan) l19 c19 k19
  have D_plan := dn_mk F_plan (PySem.W.mg_of X G a19) (F_plan.binds (ps := ["counts", "closings", "stays"]) fun _ _ _ _ _ _ us hl => match us, hl with | [_, _, _], _ => rfl)
  have F_law_cell := fun_mk (st := s_law_cell) l20 c20 k20
  have D_law_cell := dn_mk F_law_cell (PySem.W.mg_of X G a20) (F_law_cell.binds (ps := ["_law_script", "_law_k"]) fun _ _ _ _ _ _ us hl => match us, hl with | [_, _], _ => rfl)
  have F_law_kind := fun_mk (st := s_law_kind) l21 c21 k21
  have D_law_kind := dn_mk F_law_kind (PySem.W.mg_of X G a21) (F_law_kind.binds (ps := ["_law_e"]) fun _ _ _ _ _ _ us hl => match us, hl with | [_], _ => rfl)
  have F_law_counts_by := fun_mk (st := s_law_counts_by) l22 c22 k22
  have D_law_counts_by := dn_mk F_law_counts_by (PySem.W.mg_of X G a22) (F_law_counts_by.binds (ps := ["_law_script"]) fun _ _ _ _ _ _ us hl => match us, hl with | [_], _ => rfl)
  have F_law_bound_by := fun_mk (st := s_law_bound_by) l23 c23 k23
  have D_law_bound_by := dn_mk F_law_bound_by (PySem.W.mg_of X G a23) (F_law_bound_by.binds (ps := ["_law_cell_here"]) fun _ _ _ _ _ _ us hl => match us, hl with | [_], _ => rfl)
  have F_law_asked := fun_mk (st := s_law_asked) l24 c24 k24
  have D_law_asked := dn_mk F_law_asked (PySem.W.mg_of X G a24) (F_law_asked.binds (ps := ["_law_inn", "_law_way", "_law_span"]) fun _ _ _ _ _ _ us hl => match us, hl with | [_, _, _], _ => rfl)
  have F_law_word := fun_mk (st := s_law_word) l25 c25 k25
  have D_law_word := dn_mk F_law_word (PySem.W.mg_of X G a25) (F_law_word.binds (ps := ["_law_inn", "_law_way", "_law_span"]) fun _ _ _ _ _ _ us hl => match us, hl with | [_, _, _], _ => rfl)
  have F_law_none := fun_mk (st := s_law_none) l26 c26 k26
  have D_law_none := dn_mk F_law_none (PySem.W.mg_of X G a26) (F_law_none.binds (ps := ["_law_counts"]) fun _ _ _ _ _ _ us hl => match us, hl with | [_], _ => rfl)
  have F_law_made_good := fun_mk (st := s_law_made_good) l27 c27 k27
  have D_law_made_good := dn_mk F_law_made_good (PySem.W.mg_of X G a27) (F_law_made_good.binds (ps := ["_law_inn"]) fun _ _ _ _ _ _ us hl => match us, hl with | [_], _ => rfl)
  have F_law := fun_mk (st := s_law) l28 c28 k28
  refine ⟨PySem.W.fnOf "law" "law" (defArgs s_law) (defBody s_law) (defScope s_law) .none kV28 dc28 pm28 an28 cd28 ct28, [(cG, pG), (cW, pW), (cR, pR)], spLawT pG pW pR K, ?_, ?_, ?_, fun s v => .of_eq rfl, fun H a ns hl _ hT hS => ⟨a, ns, rfl, hS, hl, tabs_start hT, fun _ => rfl⟩, fun base _ _ TB => ?_⟩
  · exact List.forall_mem_cons.mpr ⟨tG.2, List.forall_mem_cons.mpr ⟨tW.2, List.forall_mem_cons.mpr ⟨tR.2, fun _ h => nomatch h⟩⟩⟩
  · exact List.forall_mem_cons.mpr ⟨tab_not X hno tG.2, List.forall_mem_cons.mpr ⟨tab_not X hno tW.2, List.forall_mem_cons.mpr ⟨tab_not X hno tR.2, fun _ h => nomatch h⟩⟩⟩
  · exact List.forall_mem_cons.mpr ⟨tG.1, List.forall_mem_cons.mpr ⟨tW.1, List.forall_mem_cons.mpr ⟨tR.1, fun _ h => nomatch h⟩⟩⟩
  have Zx : ∃ Z : Lams mg base, Z.cG = cG ∧ Z.cW = cW ∧ Z.cR = cR ∧ Z.pG = pG ∧ Z.pW = pW ∧ Z.pR = pR := ⟨lams_of TB n1 n2 n3, rfl, rfl, rfl, rfl, rfl, rfl⟩
  obtain ⟨Z, rfl, rfl, rfl, rfl, rfl, rfl⟩ := Zx
  have Ex : ∃ EX : Ecs K mg, EX.a_InnError = C_InnError ∧ EX.a_BadHouse = C_BadHouse ∧ EX.a_BadSpan = C_BadSpan ∧ EX.a_Full = C_Full ∧ EX.a_NoPromise = C_NoPromise ∧ EX.a_NoClosing = C_NoClosing ∧ EX.a_NoWayBack = C_NoWayBack := ⟨⟨C_InnError, C_BadHouse, C_BadSpan, C_Full, C_NoPromise, C_NoClosing, C_NoWayBack, PySem.W.mg_of X G e_InnError, PySem.W.mg_of X G e_BadHouse, PySem.W.mg_of X G e_BadSpan, PySem.W.mg_of X G e_Full, PySem.W.mg_of X G e_NoPromise, PySem.W.mg_of X G e_NoClosing, PySem.W.mg_of X G e_NoWayBack⟩, rfl, rfl, rfl, rfl, rfl, rfl, rfl⟩
  obtain ⟨EX, rfl, rfl, rfl, rfl, rfl, rfl, rfl⟩ := Ex
  have ITx : ∃ IT : InnT K mg, IT.a = C_Inn := ⟨⟨C_Inn, PySem.W.mg_of X G e_Inn, ⟨i_pg, i_hd, i_po, i_sa⟩, i_n0, i_n1, i_n2, i_n3, i_n4, i_n5⟩, rfl⟩
  obtain ⟨IT, rfl⟩ := ITx
  have XP : Plains K mg EX := ⟨⟨x_ex_BadHouse, x_kC_BadHouse, x_exC_BadHouse, x_tyC_BadHouse⟩, ⟨x_ex_BadSpan, x_kC_BadSpan, x_exC_BadSpan, x_tyC_BadSpan⟩, ⟨x_ex_NoPromise, x_kC_NoPromise, x_exC_NoPromise, x_tyC_NoPromise⟩, ⟨x_ex_NoClosing, x_kC_NoClosing, x_exC_NoClosing, x_tyC_NoClosing⟩, ⟨x_ex_NoWayBack, x_kC_NoWayBack, x_exC_NoWayBack, x_tyC_NoWayBack⟩⟩
  have OK : Ones EX := ⟨⟨⟨⟨x_ic_BadHouse, x_ga_BadHouse, x_gg_BadHouse, x_exC_BadHouse, x_ha_BadHouse, x_hn, x_tk, x_hm_BadHouse⟩, kitN q_BadHouse_BadHouse q_BadHouse_BadSpan q_BadHouse_Full q_BadHouse_NoPromise q_BadHouse_NoClosing q_BadHouse_NoWayBack⟩, q_BadHouse_ve, q_BadHouse_ex⟩, ⟨⟨⟨x_ic_BadSpan, x_ga_BadSpan, x_gg_BadSpan, x_exC_BadSpan, x_ha_BadSpan, x_hn, x_tk, x_hm_BadSpan⟩, kitN q_BadSpan_BadHouse q_BadSpan_BadSpan q_BadSpan_Full q_BadSpan_NoPromise q_BadSpan_NoClosing q_BadSpan_NoWayBack⟩, q_BadSpan_ve, q_BadSpan_ex⟩, ⟨⟨⟨x_ic_NoPromise, x_ga_NoPromise, x_gg_NoPromise, x_exC_NoPromise, x_ha_NoPromise, x_hn, x_tk, x_hm_NoPromise⟩, kitN q_NoPromise_BadHouse q_NoPromise_BadSpan q_NoPromise_Full q_NoPromise_NoPromise q_NoPromise_NoClosing q_NoPromise_NoWayBack⟩, q_NoPromise_ve, q_NoPromise_ex⟩, ⟨⟨⟨x_ic_NoClosing, x_ga_NoClosing, x_gg_NoClosing, x_exC_NoClosing, x_ha_NoClosing, x_hn, x_tk, x_hm_NoClosing⟩, kitN q_NoClosing_BadHouse q_NoClosing_BadSpan q_NoClosing_Full q_NoClosing_NoPromise q_NoClosing_NoClosing q_NoClosing_NoWayBack⟩, q_NoClosing_ve, q_NoClosing_ex⟩, ⟨⟨⟨x_ic_NoWayBack, x_ga_NoWayBack, x_gg_NoWayBack, x_exC_NoWayBack, x_ha_NoWayBack, x_hn, x_tk, x_hm_NoWayBack⟩, kitN q_NoWayBack_BadHouse q_NoWayBack_BadSpan q_NoWayBack_Full q_NoWayBack_NoPromise q_NoWayBack_NoClosing q_NoWayBack_NoWayBack⟩, q_NoWayBack_ve, q_NoWayBack_ex⟩⟩
  have Fm0 := fun_mk (st := s_Inn___init__) ml0 mc0 mk0
  have Dm_init__ : Di K IT.a "Inn.__init__" s_Inn___init__ ["self", "counts"] := ⟨fm0, _, Fm0, ⟨i_mk, ma0, mi0, i_kc⟩, (Fm0.binds (ps := ["self", "counts"]) fun _ _ _ _ _ _ us hl => match us, hl with | [_, _], _ => rfl)⟩
  have Fm1 := fun_mk (st := s_Inn_promise) ml1 mc1 mk1
  have Dm_promise : Dm K IT.a "promise" "Inn.promise" s_Inn_promise ["self", "first", "last", "kind"] := ⟨fm1, _, Fm1, ⟨ma1, mi1, mk1⟩, (Fm1.binds (ps := ["self", "first", "last", "kind"]) fun _ _ _ _ _ _ us hl => match us, hl with | [_, _, _, _], _ => rfl)⟩
  have Fm2 := fun_mk (st := s_Inn_close) ml2 mc2 mk2
  have Dm_close : Dm K IT.a "close" "Inn.close" s_Inn_close ["self", "first", "last", "kind"] := ⟨fm2, _, Fm2, ⟨ma2, mi2, mk2⟩, (Fm2.binds (ps := ["self", "first", "last", "kind"]) fun _ _ _ _ _ _ us hl => match us, hl with | [_, _, _, _], _ => rfl)⟩
  have Fm3 := fun_mk (st := s_Inn_drop) ml3 mc3 mk3
  have Dm_drop : Dm K IT.a "drop" "Inn.drop" s_Inn_drop ["self", "number"] := ⟨fm3, _, Fm3, ⟨ma3, mi3, mk3⟩, (Fm3.binds (ps := ["self", "number"]) fun _ _ _ _ _ _ us hl => match us, hl with | [_, _], _ => rfl)⟩
  have Fm4 := fun_mk (st := s_Inn_reopen) ml4 mc4 mk4
  have Dm_reopen : Dm K IT.a "reopen" "Inn.reopen" s_Inn_reopen ["self", "number"] := ⟨fm4, _, Fm4, ⟨ma4, mi4, mk4⟩, (Fm4.binds (ps := ["self", "number"]) fun _ _ _ _ _ _ us hl => match us, hl with | [_, _], _ => rfl)⟩
  have Fm5 := fun_mk (st := s_Inn_undo) ml5 mc5 mk5
  have Dm_undo : Dm K IT.a "undo" "Inn.undo" s_Inn_undo ["self"] := ⟨fm5, _, Fm5, ⟨ma5, mi5, mk5⟩, (Fm5.binds (ps := ["self"]) fun _ _ _ _ _ _ us hl => match us, hl with | [_], _ => rfl)⟩
  have Fm6 := fun_mk (st := s_Inn_promises) ml6 mc6 mk6
  have Dm_promises : Dm K IT.a "promises" "Inn.promises" s_Inn_promises ["self"] := ⟨fm6, _, Fm6, ⟨ma6, mi6, mk6⟩, (Fm6.binds (ps := ["self"]) fun _ _ _ _ _ _ us hl => match us, hl with | [_], _ => rfl)⟩
  have Fm7 := fun_mk (st := s_Inn_closings) ml7 mc7 mk7
  have Dm_closings : Dm K IT.a "closings" "Inn.closings" s_Inn_closings ["self"] := ⟨fm7, _, Fm7, ⟨ma7, mi7, mk7⟩, (Fm7.binds (ps := ["self"]) fun _ _ _ _ _ _ us hl => match us, hl with | [_], _ => rfl)⟩
  have Fm8 := fun_mk (st := s_Inn_nights) ml8 mc8 mk8
  have Dm_nights : Dm K IT.a "nights" "Inn.nights" s_Inn_nights ["self"] := ⟨fm8, _, Fm8, ⟨ma8, mi8, mk8⟩, (Fm8.binds (ps := ["self"]) fun _ _ _ _ _ _ us hl => match us, hl with | [_], _ => rfl)⟩
  have Fm9 := fun_mk (st := s_Inn_rooms_for) ml9 mc9 mk9
  have Dm_rooms_for : Dm K IT.a "rooms_for" "Inn.rooms_for" s_Inn_rooms_for ["self", "number"] := ⟨fm9, _, Fm9, ⟨ma9, mi9, mk9⟩, (Fm9.binds (ps := ["self", "number"]) fun _ _ _ _ _ _ us hl => match us, hl with | [_, _], _ => rfl)⟩
  have Fm10 := fun_mk (st := s_Inn__check_span) ml10 mc10 mk10
  have Dm_check_span : Dm K IT.a "_check_span" "Inn._check_span" s_Inn__check_span ["self", "first", "last", "kind"] := ⟨fm10, _, Fm10, ⟨ma10, mi10, mk10⟩, (Fm10.binds (ps := ["self", "first", "last", "kind"]) fun _ _ _ _ _ _ us hl => match us, hl with | [_, _, _, _], _ => rfl)⟩
  have Fm11 := fun_mk (st := s_Inn__check_needs) ml11 mc11 mk11
  have Dm_check_needs : Dm K IT.a "_check_needs" "Inn._check_needs" s_Inn__check_needs ["self", "shut", "stays"] := ⟨fm11, _, Fm11, ⟨ma11, mi11, mk11⟩, (Fm11.binds (ps := ["self", "shut", "stays"]) fun _ _ _ _ _ _ us hl => match us, hl with | [_, _, _], _ => rfl)⟩
  have Fm12 := fun_mk (st := s_Inn__remember) ml12 mc12 mk12
  have Dm_remember : Dm K IT.a "_remember" "Inn._remember" s_Inn__remember ["self"] := ⟨fm12, _, Fm12, ⟨ma12, mi12, mk12⟩, (Fm12.binds (ps := ["self"]) fun _ _ _ _ _ _ us hl => match us, hl with | [_], _ => rfl)⟩
  have C_law_kind := cal_kind (P := l.prog) (w := w) (base := base) D_law_kind T EX
  have C_law_cell := cal_cell (P := l.prog) (w := w) (base := base) D_law_cell T
  have C_is_house := cal_is_house (P := l.prog) (w := w) (base := base) D_is_house T
  have C_first_room := cal_first_room (P := l.prog) (w := w) (base := base) D_first_room T
  have C_rooms_of := cal_rooms_of (P := l.prog) (w := w) (base := base) D_rooms_of T C_first_room
  have C_is_span := cal_is_span (P := l.prog) (w := w) (base := base) D_is_span T
  have C_kinds_on := cal_kinds_on (P := l.prog) (w := w) (base := base) D_kinds_on T
  have C_wants_on := cal_wants_on (P := l.prog) (w := w) (base := base) D_wants_on T C_kinds_on
  have C_rooms_on := cal_rooms_on (P := l.prog) (w := w) (base := base) D_rooms_on T C_kinds_on C_rooms_of
  have C_lacking := cal_lacking (P := l.prog) (w := w) (base := base) D_lacking T C_first_room
  have C_short_kind := cal_short_kind (P := l.prog) (w := w) (base := base) D_short_kind T C_lacking
  have C_not_driven_out := cal_not_driven_out (P := l.prog) (w := w) (base := base) D_not_driven_out T
  have C_in_the_way := cal_in_the_way (P := l.prog) (w := w) (base := base) D_in_the_way T C_first_room
  have C_paper_number := cal_paper_number (P := l.prog) (w := w) (base := base) D_paper_number T C_not_driven_out C_lacking C_in_the_way
  have C_greatest_paper := cal_greatest (P := l.prog) (w := w) (base := base) (Z := Z) D_greatest_paper T C_paper_number
  have C_best_paper := cal_best (P := l.prog) (w := w) (base := base) (Z := Z) D_best_paper T C_greatest_paper
  have C_who_stays := cal_who (P := l.prog) (w := w) (base := base) (Z := Z) D_who_stays T C_not_driven_out C_lacking C_in_the_way
  have C_give_rooms := cal_give (P := l.prog) (w := w) (base := base) (Z := Z) D_give_rooms T C_first_room
  have C_tonight := cal_tonight (P := l.prog) (w := w) (base := base) (Z := Z) D_tonight T C_short_kind C_who_stays C_give_rooms C_best_paper
  have C_short_night := cal_short_night (P := l.prog) (w := w) (base := base) D_short_night T C_rooms_on C_wants_on C_short_kind
  have C_nights_of := cal_nights_of (P := l.prog) (w := w) (base := base) D_nights_of T
  have C_plan := cal_plan (P := l.prog) (w := w) (base := base) (Z := Z) D_plan T C_short_night C_nights_of C_rooms_on C_wants_on C_tonight
  have M_check_span := met_check_span (P := l.prog) (w := w) (base := base) IT Dm_check_span T EX XP C_is_span
  have M_check_needs := met_check_needs (P := l.prog) (w := w) (base := base) IT Dm_check_needs T EX C_short_night
  have N_remember := met_remember (P := l.prog) (w := w) (base := base) IT Dm_remember T
  have N_promises := met_promises (P := l.prog) (w := w) (base := base) IT Dm_promises T
  have N_closings := met_closings (P := l.prog) (w := w) (base := base) IT Dm_closings T
  have MI := met_init (P := l.prog) (w := w) (base := base) IT Dm_init__ T EX XP C_is_house
  have NI := mak_calm (sp0 := calm (sp_init EX IT.a)) MI fun _ _ _ _ h => h
  have M_promise := met_promise (P := l.prog) (w := w) (base := base) (TT := Z.T) IT Dm_promise T EX M_check_span M_check_needs N_remember
  have N_promise := met_calm (sp0 := calm (sp_promise EX IT.a Z.T)) M_promise fun _ _ _ _ h => h
  have M_close := met_close (P := l.prog) (w := w) (base := base) (TT := Z.T) IT Dm_close T EX M_check_span M_check_needs N_remember
  have N_close := met_calm (sp0 := calm (sp_close EX IT.a Z.T)) M_close fun _ _ _ _ h => h
  have M_drop := met_drop (P := l.prog) (w := w) (base := base) (TT := Z.T) IT Dm_drop T EX XP N_remember
  have N_drop := met_calm (sp0 := calm (sp_drop EX IT.a Z.T)) M_drop fun _ _ _ _ h => h
  have M_reopen := met_reopen (P := l.prog) (w := w) (base := base) (TT := Z.T) IT Dm_reopen T EX XP N_remember
  have N_reopen := met_calm (sp0 := calm (sp_reopen EX IT.a Z.T)) M_reopen fun _ _ _ _ h => h
  have M_undo := met_undo (P := l.prog) (w := w) (base := base) (TT := Z.T) IT Dm_undo T EX XP
  have N_undo := met_calm (sp0 := calm (sp_undo EX IT.a Z.T)) M_undo fun _ _ _ _ h => h
  have N_nights := met_nights (P := l.prog) (w := w) (base := base) (Z := Z) IT Dm_nights T C_plan
  have M_rooms_for := met_rooms_for (P := l.prog) (w := w) (base := base) (Z := Z) IT Dm_rooms_for T EX XP N_nights
  have N_rooms_for := met_calm (sp0 := calm (sp_rooms_for EX IT.a Z.T)) M_rooms_for fun _ _ _ _ h => h
  have C_law_counts_by := cal_counts_by (P := l.prog) (w := w) (base := base) D_law_counts_by T C_law_cell
  have C_law_bound_by := cal_bound_by (P := l.prog) (w := w) (base := base) D_law_bound_by T
  have C_law_asked := cal_asked (P := l.prog) (w := w) (base := base) (TT := Z.T) IT D_law_asked T EX M_promise M_close M_drop M_reopen M_rooms_for M_undo
  have C_law_word := cal_word (P := l.prog) (w := w) (base := base) IT D_law_word T EX OK C_law_asked C_law_kind
  have C_law_none := cal_none (P := l.prog) (w := w) (base := base) IT D_law_none T EX OK MI C_law_kind
  have C_law_made_good := cal_made_good (P := l.prog) (w := w) (base := base) (Z := Z) IT D_law_made_good T EX C_law_word N_promise N_close N_drop N_reopen N_rooms_for N_undo N_promises N_closings
  exact ok_law (Z := Z) F_law T IT EX OK C_law_cell C_law_counts_by C_law_bound_by C_law_none C_law_word C_law_made_good NI N_promises N_closings N_nights
end Ik
open PySem PySem.W PyProof.Rows
set_option maxRecDepth 100000 in
set_option maxHeartbeats 0 in
theorem PySem.Challenge.cw_innkinds_k13_refused_and_made_good_holds : PySem.Challenge.rw_innkinds_k13_refused_and_made_good.Holds := by
  w_on; o_law; k_head; (case hw => w_witness2)
  k_fill
  refine Ik.walk_ofTab (l := PySem.Challenge.rw_innkinds_k13_refused_and_made_good) (n := 63) (k := 15) (x := "_law_script") (CX := fun _ => L2.CX0) ["greatest_paper", "who_stays", "give_rooms"] rfl (by decide) rfl ⟨rfl, by decide, by decide⟩ (by rfl) (fun w h Y => PySem.W.km_in_of Y) ?F (fun _ _ _ _ _ h => h)
  case F =>
    intro w mg fa h KX G hmg hTab
    refine' Ik.all_mk KX G hmg ?a0 ?l0 ?c0 ?k0 ?a1 ?l1 ?c1 ?k1 ?a2 ?l2 ?c2 ?k2 ?a3 ?l3 ?c3 ?k3 ?a4 ?l4 ?c4 ?k4 ?a5 ?l5 ?c5 ?k5 ?a6 ?l6 ?c6 ?k6 ?a7 ?l7 ?c7 ?k7 ?a8 ?l8 ?c8 ?k8 ?a9 ?l9 ?c9 ?k9 ?a10 ?l10 ?c10 ?k10 ?a11 ?l11 ?c11 ?k11 ?a12 ?l12 ?c12 ?k12 ?a13 ?l13 ?c13 ?k13 ?mG ?vG ?a14 ?l14 ?c14 ?k14 ?a15 ?l15 ?c15 ?k15 ?mW ?vW ?a16 ?l16 ?c16 ?k16 ?mR ?vR ?a17 ?l17 ?c17 ?k17 ?a18 ?l18 ?c18 ?k18 ?a19 ?l19 ?c19 ?k19 ?a20 ?l20 ?c20 ?k20 ?a21 ?l21 ?c21 ?k21 ?a22 ?l22 ?c22 ?k22 ?a23 ?l23 ?c23 ?k23 ?a24 ?l24 ?c24 ?k24 ?a25 ?l25 ?c25 ?k25 ?a26 ?l26 ?c26 ?k26 ?a27 ?l27 ?c27 ?k27 ?a28 ?l28 ?c28 ?k28 ?n1 ?n2 ?n3 ?hno hTab ?e_InnError ?e_BadHouse ?e_BadSpan ?e_Full ?e_NoPromise ?e_NoClosing ?e_NoWayBack ?e_Inn ?ma0 ?mi0 ?ml0 ?mc0 ?mk0 ?ma1 ?mi1 ?ml1 ?mc1 ?mk1 ?ma2 ?mi2 ?ml2 ?mc2 ?mk2 ?ma3 ?mi3 ?ml3 ?mc3 ?mk3 ?ma4 ?mi4 ?ml4 ?mc4 ?mk4 ?ma5 ?mi5 ?ml5 ?mc5 ?mk5 ?ma6 ?mi6 ?ml6 ?mc6 ?mk6 ?ma7 ?mi7 ?ml7 ?mc7 ?mk7 ?ma8 ?mi8 ?ml8 ?mc8 ?mk8 ?ma9 ?mi9 ?ml9 ?mc9 ?mk9 ?ma10 ?mi10 ?ml10 ?mc10 ?mk10 ?ma11 ?mi11 ?ml11 ?mc11 ?mk11 ?ma12 ?mi12 ?ml12 ?mc12 ?mk12 ?i_pg ?i_hd ?i_po ?i_sa ?i_mk ?i_kc ?i_n0 ?i_n1 ?i_n2 ?i_n3 ?i_n4 ?i_n5 ?x_ex_BadHouse ?x_kC_BadHouse ?x_exC_BadHouse ?x_tyC_BadHouse ?x_ic_BadHouse ?x_ga_BadHouse ?x_gg_BadHouse ?x_ha_BadHouse ?x_hm_BadHouse ?x_ex_BadSpan ?x_kC_BadSpan ?x_exC_BadSpan ?x_tyC_BadSpan ?x_ic_BadSpan ?x_ga_BadSpan ?x_gg_BadSpan ?x_ha_BadSpan ?x_hm_BadSpan ?x_ex_NoPromise ?x_kC_NoPromise ?x_exC_NoPromise ?x_tyC_NoPromise ?x_ic_NoPromise ?x_ga_NoPromise ?x_gg_NoPromise ?x_ha_NoPromise ?x_hm_NoPromise ?x_ex_NoClosing ?x_kC_NoClosing ?x_exC_NoClosing ?x_tyC_NoClosing ?x_ic_NoClosing ?x_ga_NoClosing ?x_gg_NoClosing ?x_ha_NoClosing ?x_hm_NoClosing ?x_ex_NoWayBack ?x_kC_NoWayBack ?x_exC_NoWayBack ?x_tyC_NoWayBack ?x_ic_NoWayBack ?x_ga_NoWayBack ?x_gg_NoWayBack ?x_ha_NoWayBack ?x_hm_NoWayBack ?x_hn ?x_tk ?q_BadHouse_BadHouse ?q_BadHouse_BadSpan ?q_BadHouse_Full ?q_BadHouse_NoPromise ?q_BadHouse_NoClosing ?q_BadHouse_NoWayBack ?q_BadHouse_ve ?q_BadHouse_ex ?q_BadSpan_BadHouse ?q_BadSpan_BadSpan ?q_BadSpan_Full ?q_BadSpan_NoPromise ?q_BadSpan_NoClosing ?q_BadSpan_NoWayBack ?q_BadSpan_ve ?q_BadSpan_ex ?q_NoPromise_BadHouse ?q_NoPromise_BadSpan ?q_NoPromise_Full ?q_NoPromise_NoPromise ?q_NoPromise_NoClosing ?q_NoPromise_NoWayBack ?q_NoPromise_ve ?q_NoPromise_ex ?q_NoClosing_BadHouse ?q_NoClosing_BadSpan ?q_NoClosing_Full ?q_NoClosing_NoPromise ?q_NoClosing_NoClosing ?q_NoClosing_NoWayBack ?q_NoClosing_ve ?q_NoClosing_ex ?q_NoWayBack_BadHouse ?q_NoWayBack_BadSpan ?q_NoWayBack_Full ?q_NoWayBack_NoPromise ?q_NoWayBack_NoClosing ?q_NoWayBack_NoWayBack ?q_NoWayBack_ve ?q_NoWayBack_ex ?z_all ?z_len ?z_sum ?z_max ?z_list ?z_range ?z_sorted ?z_set ?z_dict ?z_min ?z_isinstance ?z_int ?z_bool ?z_abs ?z_ValueError ?g_MOST_KINDS ?g_MOST_OF_A_KIND ?g_NIGHTS
    (case a0 => k_is)
    (case l0 => k_is)
    (case c0 => k_is)
    (case k0 => k_is)
    (case a1 => k_is)
    (case l1 => k_is)
    (case c1 => k_is)
    (case k1 => k_is)
    (case a2 => k_is)
    (case l2 => k_is)
    (case c2 => k_is)
    (case k2 => k_is)
    (case a3 => k_is)
    (case l3 => k_is)
    (case c3 => k_is)
    (case k3 => k_is)
    (case a4 => k_is)
    (case l4 => k_is)
    (case c4 => k_is)
    (case k4 => k_is)
    (case a5 => k_is)
    (case l5 => k_is)
    (case c5 => k_is)
    (case k5 => k_is)
    (case a6 => k_is)
    (case l6 => k_is)
    (case c6 => k_is)
    (case k6 => k_is)
    (case a7 => k_is)
    (case l7 => k_is)
    (case c7 => k_is)
    (case k7 => k_is)
    (case a8 => k_is)
    (case l8 => k_is)
    (case c8 => k_is)
    (case k8 => k_is)
    (case a9 => k_is)
    (case l9 => k_is)
    (case c9 => k_is)
    (case k9 => k_is)
    (case a10 => k_is)
    (case l10 => k_is)
    (case c10 => k_is)
    (case k10 => k_is)
    (case a11 => k_is)
    (case l11 => k_is)
    (case c11 => k_is)
    (case k11 => k_is)
    (case a12 => k_is)
    (case l12 => k_is)
    (case c12 => k_is)
    (case k12 => k_is)
    (case a13 => k_is)
    (case l13 => k_is)
    (case c13 => k_is)
    (case k13 => k_is)
    (case mG => k_is)
    (case vG => rfl)
    (case a14 => k_is)
    (case l14 => k_is)
    (case c14 => k_is)
    (case k14 => k_is)
    (case a15 => k_is)
    (case l15 => k_is)
    (case c15 => k_is)
    (case k15 => k_is)
    (case mW => k_is)
    (case vW => rfl)
    (case a16 => k_is)
    (case l16 => k_is)
    (case c16 => k_is)
    (case k16 => k_is)
    (case mR => k_is)
    (case vR => rfl)
    (case a17 => k_is)
    (case l17 => k_is)
    (case c17 => k_is)
    (case k17 => k_is)
    (case a18 => k_is)
    (case l18 => k_is)
    (case c18 => k_is)
    (case k18 => k_is)
    (case a19 => k_is)
    (case l19 => k_is)
    (case c19 => k_is)
    (case k19 => k_is)
    (case a20 => k_is)
    (case l20 => k_is)
    (case c20 => k_is)
    (case k20 => k_is)
    (case a21 => k_is)
    (case l21 => k_is)
    (case c21 => k_is)
    (case k21 => k_is)
    (case a22 => k_is)
    (case l22 => k_is)
    (case c22 => k_is)
    (case k22 => k_is)
    (case a23 => k_is)
    (case l23 => k_is)
    (case c23 => k_is)
    (case k23 => k_is)
    (case a24 => k_is)
    (case l24 => k_is)
    (case c24 => k_is)
    (case k24 => k_is)
    (case a25 => k_is)
    (case l25 => k_is)
    (case c25 => k_is)
    (case k25 => k_is)
    (case a26 => k_is)
    (case l26 => k_is)
    (case c26 => k_is)
    (case k26 => k_is)
    (case a27 => k_is)
    (case l27 => k_is)
    (case c27 => k_is)
    (case k27 => k_is)
    (case a28 => k_is)
    (case l28 => k_is)
    (case c28 => k_is)
    (case k28 => k_is)
    (case n1 => decide)
    (case n2 => decide)
    (case n3 => decide)
    (case hno => kernel_rfl)
    (case e_InnError => k_is)
    (case e_BadHouse => k_is)
    (case e_BadSpan => k_is)
    (case e_Full => k_is)
    (case e_NoPromise => k_is)
    (case e_NoClosing => k_is)
    (case e_NoWayBack => k_is)
    (case e_Inn => k_is)
    (case ma0 => k_is)
    (case mi0 => k_is)
    (case ml0 => k_is)
    (case mc0 => k_is)
    (case mk0 => k_is)
    (case ma1 => k_is)
    (case mi1 => k_is)
    (case ml1 => k_is)
    (case mc1 => k_is)
    (case mk1 => k_is)
    (case ma2 => k_is)
    (case mi2 => k_is)
    (case ml2 => k_is)
    (case mc2 => k_is)
    (case mk2 => k_is)
    (case ma3 => k_is)
    (case mi3 => k_is)
    (case ml3 => k_is)
    (case mc3 => k_is)
    (case mk3 => k_is)
    (case ma4 => k_is)
    (case mi4 => k_is)
    (case ml4 => k_is)
    (case mc4 => k_is)
    (case mk4 => k_is)
    (case ma5 => k_is)
    (case mi5 => k_is)
    (case ml5 => k_is)
    (case mc5 => k_is)
    (case mk5 => k_is)
    (case ma6 => k_is)
    (case mi6 => k_is)
    (case ml6 => k_is)
    (case mc6 => k_is)
    (case mk6 => k_is)
    (case ma7 => k_is)
    (case mi7 => k_is)
    (case ml7 => k_is)
    (case mc7 => k_is)
    (case mk7 => k_is)
    (case ma8 => k_is)
    (case mi8 => k_is)
    (case ml8 => k_is)
    (case mc8 => k_is)
    (case mk8 => k_is)
    (case ma9 => k_is)
    (case mi9 => k_is)
    (case ml9 => k_is)
    (case mc9 => k_is)
    (case mk9 => k_is)
    (case ma10 => k_is)
    (case mi10 => k_is)
    (case ml10 => k_is)
    (case mc10 => k_is)
    (case mk10 => k_is)
    (case ma11 => k_is)
    (case mi11 => k_is)
    (case ml11 => k_is)
    (case mc11 => k_is)
    (case mk11 => k_is)
    (case ma12 => k_is)
    (case mi12 => k_is)
    (case ml12 => k_is)
    (case mc12 => k_is)
    (case mk12 => k_is)
    (case i_pg => k_is)
    (case i_hd => k_is)
    (case i_po => k_is)
    (case i_sa => k_is)
    (case i_mk => k_is)
    (case i_kc => k_is)
    (case i_n0 => k_is)
    (case i_n1 => k_is)
    (case i_n2 => k_is)
    (case i_n3 => k_is)
    (case i_n4 => k_is)
    (case i_n5 => k_is)
    (case x_ex_BadHouse => k_exc)
    (case x_kC_BadHouse => k_is)
    (case x_exC_BadHouse => k_is)
    (case x_tyC_BadHouse => k_is)
    (case x_ic_BadHouse => k_is)
    (case x_ga_BadHouse => k_is)
    (case x_gg_BadHouse => k_is)
    (case x_ha_BadHouse => k_is)
    (case x_hm_BadHouse => k_is)
    (case x_ex_BadSpan => k_exc)
    (case x_kC_BadSpan => k_is)
    (case x_exC_BadSpan => k_is)
    (case x_tyC_BadSpan => k_is)
    (case x_ic_BadSpan => k_is)
    (case x_ga_BadSpan => k_is)
    (case x_gg_BadSpan => k_is)
    (case x_ha_BadSpan => k_is)
    (case x_hm_BadSpan => k_is)
    (case x_ex_NoPromise => k_exc)
    (case x_kC_NoPromise => k_is)
    (case x_exC_NoPromise => k_is)
    (case x_tyC_NoPromise => k_is)
    (case x_ic_NoPromise => k_is)
    (case x_ga_NoPromise => k_is)
    (case x_gg_NoPromise => k_is)
    (case x_ha_NoPromise => k_is)
    (case x_hm_NoPromise => k_is)
    (case x_ex_NoClosing => k_exc)
    (case x_kC_NoClosing => k_is)
    (case x_exC_NoClosing => k_is)
    (case x_tyC_NoClosing => k_is)
    (case x_ic_NoClosing => k_is)
    (case x_ga_NoClosing => k_is)
    (case x_gg_NoClosing => k_is)
    (case x_ha_NoClosing => k_is)
    (case x_hm_NoClosing => k_is)
    (case x_ex_NoWayBack => k_exc)
    (case x_kC_NoWayBack => k_is)
    (case x_exC_NoWayBack => k_is)
    (case x_tyC_NoWayBack => k_is)
    (case x_ic_NoWayBack => k_is)
    (case x_ga_NoWayBack => k_is)
    (case x_gg_NoWayBack => k_is)
    (case x_ha_NoWayBack => k_is)
    (case x_hm_NoWayBack => k_is)
    (case x_hn => k_is)
    (case x_tk => k_is)
    (case q_BadHouse_BadHouse => kit_is)
    (case q_BadHouse_BadSpan => kit_is)
    (case q_BadHouse_Full => kit_is)
    (case q_BadHouse_NoPromise => kit_is)
    (case q_BadHouse_NoClosing => kit_is)
    (case q_BadHouse_NoWayBack => kit_is)
    (case q_BadHouse_ve => kit_is)
    (case q_BadHouse_ex => kts_exm)
    (case q_BadSpan_BadHouse => kit_is)
    (case q_BadSpan_BadSpan => kit_is)
    (case q_BadSpan_Full => kit_is)
    (case q_BadSpan_NoPromise => kit_is)
    (case q_BadSpan_NoClosing => kit_is)
    (case q_BadSpan_NoWayBack => kit_is)
    (case q_BadSpan_ve => kit_is)
    (case q_BadSpan_ex => kts_exm)
    (case q_NoPromise_BadHouse => kit_is)
    (case q_NoPromise_BadSpan => kit_is)
    (case q_NoPromise_Full => kit_is)
    (case q_NoPromise_NoPromise => kit_is)
    (case q_NoPromise_NoClosing => kit_is)
    (case q_NoPromise_NoWayBack => kit_is)
    (case q_NoPromise_ve => kit_is)
    (case q_NoPromise_ex => kts_exm)
    (case q_NoClosing_BadHouse => kit_is)
    (case q_NoClosing_BadSpan => kit_is)
    (case q_NoClosing_Full => kit_is)
    (case q_NoClosing_NoPromise => kit_is)
    (case q_NoClosing_NoClosing => kit_is)
    (case q_NoClosing_NoWayBack => kit_is)
    (case q_NoClosing_ve => kit_is)
    (case q_NoClosing_ex => kts_exm)
    (case q_NoWayBack_BadHouse => kit_is)
    (case q_NoWayBack_BadSpan => kit_is)
    (case q_NoWayBack_Full => kit_is)
    (case q_NoWayBack_NoPromise => kit_is)
    (case q_NoWayBack_NoClosing => kit_is)
    (case q_NoWayBack_NoWayBack => kit_is)
    (case q_NoWayBack_ve => kit_is)
    (case q_NoWayBack_ex => kts_exm)
    (case z_all => k_is)
    (case z_len => k_is)
    (case z_sum => k_is)
    (case z_max => k_is)
    (case z_list => k_is)
    (case z_range => k_is)
    (case z_sorted => k_is)
    (case z_set => k_is)
    (case z_dict => k_is)
    (case z_min => k_is)
    (case z_isinstance => k_is)
    (case z_int => k_is)
    (case z_bool => k_is)
    (case z_abs => k_is)
    (case z_ValueError => k_is)
    (case g_MOST_KINDS => exact ⟨_, by k_is⟩)
    (case g_MOST_OF_A_KIND => exact ⟨_, by k_is⟩)
    (case g_NIGHTS => exact ⟨_, by k_is⟩)
