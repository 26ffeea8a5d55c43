import PyProof.Rows.All
import Wide.All
import OpenK.AllK
import Wide.FinOn
import PyProof.EqAt
import PyProof.EqKinds
import PyProof.TupleCall
import HandS.ForMost
import HandS.ForExc
import HandS.OwnEq
import HandS.ExcInit
import KE.KExcSuper
import HandS.Lambda
import HandS.IsInst
import HandS.Wide
import HandS.Gcd
import KE.KOpsOwn
import PyProof.InstNe
import KE.KExcIs
import HandS.SetFor
import HandS.MakeKw
import HandS.Style
import HandS.TryOnly
import HandS.EndTab
import HandS.ExcBuiltin
import KE.KNestM
import PySem.Challenge.RW_everylist_k02_ratios
import PyProof.FactsAll.int_1
import PyProof.FactsAll.int_3
import PyProof.FactsAll.int_5
set_option Elab.async false
set_option linter.all false
set_option maxRecDepth 100000
set_option maxHeartbeats 4000000
/-! ExS: own exceptions over ValueError whose __init__ says super().__init__(text), and perhaps self.f = what it was given. -/
namespace PySem
namespace ExS
open PySem.W PySem.Calls PyProof.Rows PySem.HandSPX
/-! ### the text of __init__ -/
def iA0 (p1 : Pos) : Arguments := { posonlyargs := [], args := [{ arg := "self", annotation := none, pos := p1 }], vararg := none, kwonlyargs := [], kw_defaults := [], kwarg := none, defaults := [] }
def iA (y : Str) (p1 p2 : Pos) : Arguments := { posonlyargs := [], args := [{ arg := "self", annotation := none, pos := p1 }, { arg := y, annotation := none, pos := p2 }], vararg := none, kwonlyargs := [], kw_defaults := [], kwarg := none, defaults := [] }
/-- what a method call asks, beside: whether its object's name was imported -/
def plS (q1 q2 : Pos) (env : Env) : Sem Bool := do return (← importBound (.Call (.Name "super" q1) [] [] q2) env).getD true
def supS (tx : Str) (j : Nat) (q1 q2 q3 q4 q5 q6 : Pos) : Stmt := .Expr (.Call (.Attribute (.Call (.Name "super" q1) [] [] q2) "__init__" q3) [.Constant (.str tx) j q4] [] q5) q6
def atS (f y : Str) (q7 q8 q9 qa : Pos) : Stmt := .Assign [.Attribute (.Name "self" q7) f q8] (.Name y q9) qa
def iS0 : Scope := { kind := .function, names := [(PySem.Str.ofString "self", .local), (PySem.Str.ofString "__class__", .free), (PySem.Str.ofString "super", .globalImplicit)], isGenerator := false, isCoroutine := false, more := [] }
def iS (y : Str) : Scope := { kind := .function, names := [(PySem.Str.ofString "self", .local), (y, .local), (PySem.Str.ofString "__class__", .free), (PySem.Str.ofString "super", .globalImplicit)], isGenerator := false, isCoroutine := false, more := [] }
/-- what the written part says of a class of exceptions -/
structure ExCls (prog : Program) (K : Frag) (mg : Str → Option Value) (C fI cc cda : Addr) : Prop where
  cls : ∃ nm q N bs bm sn sub ab col dd k0 k1 k2 k3 k5, K.lookup C = some (excClassObj nm q C N bs bm true sn sub ab col dd k0 k1 k2 k3 k5 "ValueError.__new__") ∧ refsVE bm = true
  sa : findIn K (.ref C) "__setattr__" = some (some (.builtin "object.__setattr__"))
  ga : findIn K (.ref C) "__getattribute__" = some (some (.builtin "BaseException.__getattribute__"))
  gg : findIn K (.ref C) "__getattr__" = some none
  iC : findIn K (.ref C) "__init__" = some (some (.ref fI))
  tC : typeIn K (.ref fI) = some (.type "function")
  kC : keepIn K (.ref C) = true
  exC : subIn K (.ref C) (.type "BaseException") = some true
  veC : subIn K (.ref C) (.type "ValueError") = some true
  seC : mroIn K C (.ref C) = some true
  tyC : typeIn K (.ref C) = some (.type "type")
  hdC : hasDictIn K C = true
  cell : ∃ cl cld csl, K.lookup cc = some ⟨cl, cld, .cell (some (.ref C)), csl⟩
  code : ∃ ccl cdd vs ccs file tf, K.lookup cda = some ⟨ccl, cdd, .fields vs, ccs⟩ ∧ vs[2]? = some (.str file tf) ∧ ((prog.main.file : Str) == file) = true
  sup : ks_superIn K C C "__init__" = some (some (.builtin "ValueError.__init__"))
  opq : nsIn K cStatics "thirdparty.any" = some none
  mgs : mg "super" = none
  top : (prog.main.scope.names.lookup ("super" : Str)).isSome = false
section
variable {prog : Program} {w : World} {A : Around} {E : Value → Shared → Prop} {R : Result → Shared → Prop} {s : Shared} {K : Frag} {mg : Str → Option Value} {C fI cc cda : Addr}
theorem call_ve {u e t0 : Addr} {rest : List Value} {nm q : Str} {N : Addr} {bs bm : List Value} {hdct : Bool} {sn : List Str} {sub : List Value} {ab : Bool} {col : Option Bool} {dd : Option Addr} {k0 k1 k2 k3 k5 : Option Value} {h : Heap} {g : Array GenState} {d : Drawn} {t : Nat} {os : OsState} {Q : Value → Shared → Prop}
    (hC : h.get? C = some (excClassObj nm q C N bs bm hdct sn sub ab col dd k0 k1 k2 k3 k5 "ValueError.__new__")) (he : h.get? e = some (excO C t0)) (hu : h.get? u = some (kxs_mw "ValueError.__init__" e)) (hrest : rest.length ≤ sizeLine)
    (hq : ∀ h' t1, (∀ b o, b ≠ e → h.get? b = some o → h'.get? b = some o) → h'.get? e = some (excO C t1) → Q .none ⟨h', g, d, t, os⟩) :
    wpAny (model prog w) A (call (.ref u) rest) Q E ⟨h, g, d, t, os⟩ := by
  refine wpAny_call (codeAny_of_tree ?_)
  show wpAny _ A.in1 (callAny (.ref u) ⟨rest, []⟩) _ _ _
  simp only [callAny]
  refine wpAny_bind (wpAny_load hu ?_)
  simp only [kxs_mw, show (Value.type "method-wrapper" == Value.type "method" || Value.type "method-wrapper" == Value.type "builtin_function_or_method" || Value.type "method-wrapper" == Value.type "method-wrapper") = true by decide, if_true]
  refine KFB.if_so (by decide) ?_
  refine wpAny_bind (check_bound_init F.excBase_ValueError.toExcCallFacts hC he rfl ?_)
  refine wpAny_bind (wpAny_pure (wpAny_pure ?_))
  refine ⟨plainId_quiet F.excBase_ValueError.init.plain _, codeAny_builtin F.excBase_ValueError.initEntry ?_⟩
  exact exc_init_tree (cls := .ref C) (t0 := t0) (dv := none) (c2 := .none) (c3 := .none) (b4 := .bool false) he hrest fun h' k e' _ => hq h' _ k e'
/-- super().__init__(tx) in the __init__ that runs over x -/
theorem sup_stmt {tx : Str} {j : Nat} {q1 q2 q3 q4 q5 q6 : Pos} {body : List Stmt} {sc : Scope} {qual : Str} {L x t0 : Addr} {m mb : Str → Option Value} {fd : FuncData} {ar : Arg} {oc : Value} {od : Option Addr} {osl : Array (Option Value)} {Q : Flow → Shared → Prop} (T : ExCls prog K mg C fI cc cda) (X : K.In s.heap)
    (hg : s.heap.Ns mainGlobals mg) (hb : s.heap.Ns builtinsNs mb) (hbt : mb "super" = bootBuiltins "super") (hx : s.heap.get? x = some (excO C t0)) (hns : s.heap.Ns L m) (hv : m "self" = some (.ref x)) (hxL : x ≠ L)
    (hf : K.lookup fI = some ⟨oc, od, .func fd, osl⟩) (hp : (fd.params.posonlyargs ++ fd.params.args).head? = some ar) (har : ar.arg = ("self" : Str)) (hk : sc.kind = .function) (hs1 : sc.names.lookup ("super" : Str) = some .globalImplicit) (hs2 : sc.names.lookup ("__class__" : Str) = some .free) (hs3 : sc.names.lookup ("self" : Str) = some .local)
    (hsw : swapsWith (.Call (.Attribute (.Call (.Name "super" q1) [] [] q2) "__init__" q3) [.Constant (.str tx) j q4] [] q5) none q6.line (ksEnv qual sc L fI (.ref cda) cc) = pure false)
    (hev : eval (.Call (.Attribute (.Call (.Name "super" q1) [] [] q2) "__init__" q3) [.Constant (.str tx) j q4] [] q5) (ksEnv qual sc L fI (.ref cda) cc) = (do
      let ov ← attributeBase (.Call (.Name "super" q1) [] [] q2) "__init__" (ksEnv qual sc L fI (.ref cda) cc) (eval (.Call (.Name "super" q1) [] [] q2) (ksEnv qual sc L fI (.ref cda) cc))
      standAt q3.atName
      let (f, first) ← holding [ov] (getMethod ov "__init__" (plS q1 q2 (ksEnv qual sc L fI (.ref cda) cc)))
      callWith q5 f first (backTo q5 (starEach [.Constant (.str tx) j q4] (ksEnv qual sc L fI (.ref cda) cc))) []))
    (hq : ∀ h' tk t1, (∀ b o, b ≠ x → s.heap.get? b = some o → h'.get? b = some o) → h'.get? x = some (excO C t1) → s.heap.objs.size ≤ h'.objs.size → Q .next { s with heap := h', toks := tk }) :
    _root_.PySem.wpAt (model prog w) A (.func body (ksEnv qual sc L fI (.ref cda) cc)) (exec (supS tx j q1 q2 q3 q4 q5 q6) (ksEnv qual sc L fI (.ref cda) cc)) Q E s := by
  obtain ⟨nm, q, N, bs, bm, sn, sub, ab, col, dd, k0, k1, k2, k3, k5, hC, hbm⟩ := T.cls
  obtain ⟨cl, cld, csl, hcell⟩ := T.cell
  obtain ⟨ccl, cdd, vs, ccs, file, tf, hcode, hvs, hfile⟩ := T.code
  have hcl : clsIn K C = some { name := nm, bases := bs, mro := .ref C :: bm, ns := N, qualname := q, hasDict := true, slotNames := sn, subclasses := sub, abstract := ab, collection := col, hasDel := false } := by unfold clsIn; rw [hC] <;> rfl
  have I0 : InstAt s.heap x (excO C t0) C none := ⟨hx, rfl, rfl, trivial⟩
  have hxC : x ≠ C := ks_ne X I0 hcl
  obtain ⟨hh, g, d, t, os⟩ := s
  have hD1 : hh.get? C = some (excClassObj nm q C N bs bm true sn sub ab col dd k0 k1 k2 k3 k5 "ValueError.__new__") := X _ _ hC
  refine ks_wpAt_Expr_any (ks_wpAt_MethodCall ?_ hev) (by simp [interactive, hk]) hsw
  refine ks_wpAt_super_base (env := ksEnv qual sc L fI (.ref cda) cc) hs1 hs2 (by decide +kernel) rfl (X _ _ hf) rfl hp rfl (X _ _ hcode) rfl hvs hfile T.top ?_
  refine ks_loadName_global hk hs1 (loadGlobal_builtin (env := ksEnv qual sc L fI (.ref cda) cc) hg T.mgs hb (hbt.trans (by decide +kernel)) ⟨rfl, ?_⟩)
  refine wpAny_loadName_free hk hs2 rfl ⟨_, X _ _ hcell, rfl⟩ ?_
  rw [har]
  refine wpAny_loadName_local hk hs3 hns hv ?_
  refine ks_wpAny_isType_cls hD1 rfl ⟨rfl, ?_⟩
  refine ks_wpAny_call_super hD1 rfl hx rfl (fun c e => by cases e) (looks_mroIn X T.seC) (fun h1 e1 u1 => ?_)
  have X1 : K.In h1 := X.keeps u1
  have hx1 := u1 _ _ hx
  have I1 : InstAt h1 x (excO C t0) C none := ⟨hx1, rfl, rfl, trivial⟩
  have hI : Looks (model prog w) h1 (isInstance (.ref x) (.type "ValueError")) true := I1.type.andThen (looks_subIn X1 T.veC)
  have hsup := T.sup
  unfold ks_superIn at hsup
  rw [hcl] at hsup
  refine kxs_getMethod kxs_ValueError e1 (looks_opaque X1 T.opq) (l₀ := .ref C :: bm) ?_ rfl X1 hsup hI hxC (by decide +kernel) ?_
  · exact fun A Q E s k q => wpAny_bind ((looks_clsIn X1 hcl) A _ E s k (wpAny_pure q))
  have u2 : ∀ b o, h1.get? b = some o → (h1.push (kxs_mw "ValueError.__init__" x)).get? b = some o := fun b o e => Heap.get?_push_of_some _ e
  have hmw : (h1.push (kxs_mw "ValueError.__init__" x)).get? h1.objs.size = some (kxs_mw "ValueError.__init__" x) := Heap.get?_push_size _ rfl
  show wpAny _ _ (callWith q5 (.ref h1.objs.size) [] (backTo q5 (starEach [.Constant (.str tx) j q4] _)) []) _ _ _
  refine kxs_callWith (i := "ValueError.__init__") (x := x) (by rfl) ?_
  refine evalArgs_plain ?_
  show wpAny _ _ (spliced ((false, eval (.Constant (.str tx) j q4) _) :: backTo q5 (starEach [] _))) _ _ _
  refine spliced_cons (Constant_str ?_)
  refine spliced_nil ?_
  refine ⟨hmw, ?_⟩
  refine call_ve (u2 _ _ (X1 _ _ hC)) (u2 _ _ hx1) hmw (by show 1 ≤ sizeLine; rw [sizeLine_eq]; decide) fun h' t1 k' hx' => ?_
  have keep : ∀ b o, b ≠ x → hh.get? b = some o → h'.get? b = some o := fun b o hb e => k' b o hb (u2 _ _ (u1 _ _ e))
  have z1 : hh.objs.size < h1.objs.size := Heap.lt_size e1
  have z2 : h1.objs.size ≠ x := fun z => by
    have := Heap.lt_size hx
    rw [← z] at this
    exact Nat.lt_irrefl _ (Nat.lt_trans this z1)
  exact hq h' _ t1 keep hx' (Nat.le_of_lt (Nat.lt_trans z1 (Heap.lt_size (k' _ _ z2 hmw))))
/-- what __init__ leaves of a fresh exception at x, where it stores f -/
structure InitEnd (h h' : Heap) (x C dx t1 : Addr) (f : Str) (v : Value) : Prop where
  keep : ∀ b o, b ≠ x → h.get? b = some o → h'.get? b = some o
  obj : h'.get? x = some { cls := .ref C, dict := some dx, data := .fields #[.ref t1, .none, .none, .none, .bool false, .none] }
  dbig : h.objs.size ≤ dx
  dne : dx ≠ x
  ns : h'.Ns1 dx (fun y => if y = f then some v else none)
/-- the __init__ of a class that stores f -/
structure ExFn1 (K : Frag) (C fI cc cda : Addr) (f y : Str) : Prop where
  fn : ∃ (qual tx : Str) (j : Nat) (oc : Value) (od : Option Addr) (doc pm : Value) (an : Option Addr) (ct : Value) (osl : Array (Option Value)) (p1 p2 q1 q2 q3 q4 q5 q6 q7 q8 q9 qa : Pos),
    K.lookup fI = some ⟨oc, od, .func (ksFn "__init__" qual (iA y p1 p2) [supS tx j q1 q2 q3 q4 q5 q6, atS f y q7 q8 q9 qa] (iS y) .none .none doc pm an (.ref cda) ct cc), osl⟩ ∧ codeIn K (.ref cda) qual = true ∧
    (∀ L, swapsWith (.Call (.Attribute (.Call (.Name "super" q1) [] [] q2) "__init__" q3) [.Constant (.str tx) j q4] [] q5) none q6.line (ksEnv qual (iS y) L fI (.ref cda) cc) = pure false) ∧
    (∀ L, eval (.Call (.Attribute (.Call (.Name "super" q1) [] [] q2) "__init__" q3) [.Constant (.str tx) j q4] [] q5) (ksEnv qual (iS y) L fI (.ref cda) cc) = (do
      let ov ← attributeBase (.Call (.Name "super" q1) [] [] q2) "__init__" (ksEnv qual (iS y) L fI (.ref cda) cc) (eval (.Call (.Name "super" q1) [] [] q2) (ksEnv qual (iS y) L fI (.ref cda) cc))
      standAt q3.atName
      let (f, first) ← holding [ov] (getMethod ov "__init__" (plS q1 q2 (ksEnv qual (iS y) L fI (.ref cda) cc)))
      callWith q5 f first (backTo q5 (starEach [.Constant (.str tx) j q4] (ksEnv qual (iS y) L fI (.ref cda) cc))) [])) ∧
    (∀ L, swapsWith (.Name y q9) (some (.Attribute (.Name "self" q7) f q8)) qa.line (ksEnv qual (iS y) L fI (.ref cda) cc) = pure false)
  noN : findIn K (.ref C) f = some none
  ys : (("self" : Str) == y) = false
  yd : (y == ("__debug__" : Str)) = false
  nc : ∀ x ∈ (iS y).names, x.2 ≠ .cell
  l1 : (iS y).names.lookup ("self" : Str) = some .local
  l2 : (iS y).names.lookup y = some .local
  l3 : (iS y).names.lookup ("super" : Str) = some .globalImplicit
  l4 : (iS y).names.lookup ("__class__" : Str) = some .free
  bd : ∀ (qual : Str) (body : List Stmt) (doc pm : Value) (an : Option Addr) (cv ct : Value) (p1 p2 : Pos) (x : Addr) (v : Value), bindArgs (ksFn "__init__" qual (iA y p1 p2) body (iS y) .none .none doc pm an cv ct cc) ⟨[.ref x, v], []⟩ = pure [(("self" : Str), Value.ref x), (y, v)]
structure ExFn0 (K : Frag) (fI cc cda : Addr) : Prop where
  fn : ∃ (qual tx : Str) (j : Nat) (oc : Value) (od : Option Addr) (doc pm : Value) (an : Option Addr) (ct : Value) (osl : Array (Option Value)) (p1 q1 q2 q3 q4 q5 q6 : Pos),
    K.lookup fI = some ⟨oc, od, .func (ksFn "__init__" qual (iA0 p1) [supS tx j q1 q2 q3 q4 q5 q6] iS0 .none .none doc pm an (.ref cda) ct cc), osl⟩ ∧ codeIn K (.ref cda) qual = true ∧
    (∀ L, swapsWith (.Call (.Attribute (.Call (.Name "super" q1) [] [] q2) "__init__" q3) [.Constant (.str tx) j q4] [] q5) none q6.line (ksEnv qual iS0 L fI (.ref cda) cc) = pure false) ∧
    (∀ L, eval (.Call (.Attribute (.Call (.Name "super" q1) [] [] q2) "__init__" q3) [.Constant (.str tx) j q4] [] q5) (ksEnv qual iS0 L fI (.ref cda) cc) = (do
      let ov ← attributeBase (.Call (.Name "super" q1) [] [] q2) "__init__" (ksEnv qual iS0 L fI (.ref cda) cc) (eval (.Call (.Name "super" q1) [] [] q2) (ksEnv qual iS0 L fI (.ref cda) cc))
      standAt q3.atName
      let (f, first) ← holding [ov] (getMethod ov "__init__" (plS q1 q2 (ksEnv qual iS0 L fI (.ref cda) cc)))
      callWith q5 f first (backTo q5 (starEach [.Constant (.str tx) j q4] (ksEnv qual iS0 L fI (.ref cda) cc))) []))
theorem init0 (T : ExCls prog K mg C fI cc cda) (Fn : ExFn0 K fI cc cda) {x t0 : Addr} {mb : Str → Option Value} (X : K.In s.heap) (hlim : s.heap.NoLimit) (hg : s.heap.Ns mainGlobals mg) (hb : s.heap.Ns builtinsNs mb) (hbt : mb "super" = bootBuiltins "super") (hx : s.heap.get? x = some (excO C t0)) (hroom : A.depth < recursionLimit)
    (hq : ∀ h' tk t1, (∀ b o, b ≠ x → s.heap.get? b = some o → h'.get? b = some o) → h'.get? x = some (excO C t1) → s.heap.objs.size ≤ h'.objs.size → R (.ok (.ret .none)) { s with heap := h', toks := tk }) :
    codeAny (model prog w) A (.call (.ref fI) ⟨[.ref x], []⟩) R s := by
  obtain ⟨qual, tx, j, oc, od, doc, pm, an, ct, osl, p1, q1, q2, q3, q4, q5, q6, ho, hcd, hsw, hev⟩ := Fn.fn
  have c0 : ∀ x ∈ iS0.names, x.2 ≠ .cell := by decide +kernel
  have l0 : iS0.names.lookup ("self" : Str) = some .local := by decide +kernel
  have l1 : iS0.names.lookup ("super" : Str) = some .globalImplicit := by decide +kernel
  have l2 : iS0.names.lookup ("__class__" : Str) = some .free := by decide +kernel
  have m0 : ([(("self" : Str), Value.ref x)].reverse.lookup ("self" : Str)) = some (.ref x) := by simp [List.lookup]
  refine ks_codeAny_call_defAt (fd := ksFn "__init__" qual (iA0 p1) [supS tx j q1 q2 q3 q4 q5 q6] iS0 .none .none doc pm an (.ref cda) ct cc) (body := [supS tx j q1 q2 q3 q4 q5 q6]) (binds := [("self", .ref x)]) hroom (X _ _ ho) rfl hlim (codeRec_of X hcd) rfl (BindsTo.of_eq (by first | rfl | with_unfolding_all rfl)) c0 (by
    intro y hy
    simp at hy
    subst hy
    exact l0) (fun h₁ hns hk₁ => ?_)
  have hxL : x ≠ s.heap.objs.size := Nat.ne_of_lt (Heap.lt_size hx)
  have hsz : s.heap.objs.size < h₁.objs.size := hns.lt
  refine ks_wpAt_execs_cons ?_
  refine sup_stmt (m := fun z => [(("self" : Str), Value.ref x)].reverse.lookup z) (L := s.heap.objs.size) T (X.keeps hk₁) (hg.keeps hk₁) (hb.keeps hk₁) hbt (hk₁ _ _ hx) hns m0 hxL ho rfl rfl rfl l1 l2 l0 (hsw _) (hev _) fun h' tk t1 k hx' z => ?_
  refine wpAt_of_wpAny (wpAny_execs_nil ?_)
  exact hq h' tk t1 (fun b o hb e => k b o hb (hk₁ b o e)) hx' (Nat.le_of_lt (Nat.lt_of_lt_of_le hsz z))
theorem init1 {f y : Str} (T : ExCls prog K mg C fI cc cda) (Fn : ExFn1 K C fI cc cda f y) {x t0 : Addr} {v : Value} {mb : Str → Option Value} (X : K.In s.heap) (hlim : s.heap.NoLimit) (hg : s.heap.Ns mainGlobals mg) (hb : s.heap.Ns builtinsNs mb) (hbt : mb "super" = bootBuiltins "super") (hx : s.heap.get? x = some (excO C t0)) (hlk : K.lookup x = none) (hroom : A.depth < recursionLimit)
    (hq : ∀ h' tk dx t1, InitEnd s.heap h' x C dx t1 f v → R (.ok (.ret .none)) { s with heap := h', toks := tk }) :
    codeAny (model prog w) A (.call (.ref fI) ⟨[.ref x, v], []⟩) R s := by
  obtain ⟨qual, tx, j, oc, od, doc, pm, an, ct, osl, p1, p2, q1, q2, q3, q4, q5, q6, q7, q8, q9, qa, ho, hcd, hsw, hev, hsw2⟩ := Fn.fn
  obtain ⟨nm, q, N, bs, bm, sn, sub, ab, col, dd, k0, k1, k2, k3, k5, hC, hbm⟩ := T.cls
  have hcl : clsIn K C = some { name := nm, bases := bs, mro := .ref C :: bm, ns := N, qualname := q, hasDict := true, slotNames := sn, subclasses := sub, abstract := ab, collection := col, hasDel := false } := by unfold clsIn; rw [hC] <;> rfl
  have ys := Fn.ys
  have l1 := Fn.l1
  have l2 := Fn.l2
  have l3 := Fn.l3
  have l4 := Fn.l4
  refine ks_codeAny_call_defAt (fd := ksFn "__init__" qual (iA y p1 p2) [supS tx j q1 q2 q3 q4 q5 q6, atS f y q7 q8 q9 qa] (iS y) .none .none doc pm an (.ref cda) ct cc) (body := [supS tx j q1 q2 q3 q4 q5 q6, atS f y q7 q8 q9 qa]) (binds := [("self", .ref x), (y, v)]) hroom (X _ _ ho) rfl hlim (codeRec_of X hcd) rfl (BindsTo.of_eq (Fn.bd ..)) Fn.nc (by
    intro z hz
    simp at hz
    rcases hz with h | h
    · rw [h]; exact l1
    · rw [h]; exact l2) (fun h₁ hns hk₁ => ?_)
  have hxL : x ≠ s.heap.objs.size := Nat.ne_of_lt (Heap.lt_size hx)
  have hsz : s.heap.objs.size < h₁.objs.size := hns.lt
  have m1 : ([(("self" : Str), Value.ref x), (y, v)].reverse.lookup ("self" : Str)) = some (.ref x) := by
    simp only [List.reverse_cons, List.reverse_nil, List.nil_append, List.cons_append, List.lookup, ys, beq_self_eq_true]
  have m2 : ([(("self" : Str), Value.ref x), (y, v)].reverse.lookup y) = some v := by
    simp only [List.reverse_cons, List.reverse_nil, List.nil_append, List.cons_append, List.lookup, beq_self_eq_true]
  refine ks_wpAt_execs_cons ?_
  refine sup_stmt (m := fun z => [(("self" : Str), Value.ref x), (y, v)].reverse.lookup z) (L := s.heap.objs.size) T (X.keeps hk₁) (hg.keeps hk₁) (hb.keeps hk₁) hbt (hk₁ _ _ hx) hns m1 hxL ho rfl rfl rfl l3 l4 l1 (hsw _) (hev _) fun h2 tk t1 k hx2 z => ?_
  have X2 : K.In h2 := fun a o e => k a o (fun w => by rw [w, hlk] at e; cases e) (hk₁ _ _ (X a o e))
  have hn2 : h2.Ns s.heap.objs.size (fun z => [(("self" : Str), Value.ref x), (y, v)].reverse.lookup z) := by
    obtain ⟨oL, es, ep, e1, r⟩ := hns
    exact ⟨oL, es, ep, k _ _ (Ne.symm hxL) e1, r⟩
  refine wpAt_of_wpAny (wpAny_execs_cons (plainObj_wpAny_Assign_Attribute ?_ (hsw2 _)))
  refine wpAny_Name (wpAny_loadName_local rfl l2 hn2 m2 ?_) Fn.yd
  refine wpAny_Name (wpAny_loadName_local rfl l1 hn2 m1 ?_) (by decide)
  refine set_plain X2 (ox := excO C t1) (od := none) ⟨hx2, rfl, rfl, trivial⟩ T.sa ?_
  refine exc_osa X2 hx2 hcl (show refsVE (.ref C :: bm) = true from hbm) rfl Fn.noN (fun h₃ tk₃ dx k₃ dn dne hx₃ hn₃ => ?_)
  exact wpAny_execs_nil (hq h₃ tk₃ dx t1 ⟨fun b o hb e => k₃ b o hb (k b o hb (hk₁ b o e)), hx₃, Nat.le_of_lt (Nat.lt_of_lt_of_le hsz (Nat.le_trans z dn)), dne, hn₃⟩)

/-- a made exception -/
structure Made1 (h h' : Heap) (e C d : Addr) (f : Str) (v : Value) : Prop where
  keep : ∀ b o, h.get? b = some o → h'.get? b = some o
  new : h.objs.size ≤ e
  obj : ∃ t1, h'.get? e = some { cls := .ref C, dict := some d, data := .fields #[.ref t1, .none, .none, .none, .bool false, .none] }
  dbig : h.objs.size ≤ d
  dne : d ≠ e
  ns : h'.Ns1 d (fun y => if y = f then some v else none)
structure Made0 (h h' : Heap) (e C : Addr) : Prop where
  keep : ∀ b o, h.get? b = some o → h'.get? b = some o
  new : h.objs.size ≤ e
  obj : ∃ t1, h'.get? e = some (excO C t1)
theorem one_size (v : Value) : [v].length ≤ sizeLine := by
  rw [sizeLine_eq]
  exact (by decide : 1 ≤ 16777216)
theorem made1 {f y : Str} (T : ExCls prog K mg C fI cc cda) (Fn : ExFn1 K C fI cc cda f y) {v : Value} {mb : Str → Option Value} (X : K.In s.heap) (hlim : s.heap.NoLimit) (hg : s.heap.Ns mainGlobals mg) (hb : s.heap.Ns builtinsNs mb) (hbt : mb "super" = bootBuiltins "super") (hroom : A.depth + 1 < recursionLimit)
    (hq : ∀ h' tk e d, Made1 s.heap h' e C d f v → R (.ok (.ret (.ref e))) { s with heap := h', toks := tk }) :
    codeAny (model prog w) A (.call (.ref C) ⟨[v], []⟩) R s := by
  obtain ⟨nm, q, N, bs, bm, sn, sub, ab, col, dd, k0, k1, k2, k3, k5, hC, hbm⟩ := T.cls
  obtain ⟨hp, g, dr, tk, os⟩ := s
  have k : ∀ b o, hp.get? b = some o → ((hp.push (kdv_tup [v])).push (excO C hp.objs.size)).get? b = some o := fun b o e => Heap.get?_push_of_some _ (Heap.get?_push_of_some _ e)
  have hget : ((hp.push (kdv_tup [v])).push (excO C hp.objs.size)).get? (hp.objs.size + 1) = some (excO C hp.objs.size) := by heap_get
  have hnx : K.lookup (hp.objs.size + 1) = none := by
    cases e : K.lookup (hp.objs.size + 1) with
    | none => rfl
    | some o =>
      have z : hp.get? (hp.objs.size + 1) = some o := X _ _ e
      exact absurd (Nat.lt_of_succ_lt (Heap.lt_size z)) (Nat.lt_irrefl _)
  refine call_own F.excBase_ValueError (fun X => refsVE_contains X bm hbm) (X _ _ hC) (looks_findIn X T.iC) (fun self => bind_fn X self T.tC) (one_size v) ?_
  refine init1 (s := ⟨(hp.push (kdv_tup [v])).push (excO C hp.objs.size), g, dr, tk, os⟩) T Fn (X.keeps k) (hlim.keeps k) (hg.keeps k) (hb.keeps k) hbt hget hnx ?_ fun h' tk' dx t1 ⟨k', hx, dn, dne, hns⟩ => ?_
  · show A.depth + 1 < recursionLimit
    exact hroom
  · have old : ∀ b o, hp.get? b = some o → h'.get? b = some o := fun b o e => k' b o (Nat.ne_of_lt (Nat.lt_succ_of_lt (Heap.lt_size e))) (k b o e)
    have z : hp.objs.size + 1 + 1 ≤ dx := by
      first
        | (simpa only [Heap.size_push] using dn)
        | exact dn
        | (have q := dn; rw [Heap.size_push, Heap.size_push] at q; exact q)
    exact ⟨rfl, hq h' tk' (hp.objs.size + 1) dx ⟨old, Nat.le_succ _, ⟨_, hx⟩, Nat.le_trans (Nat.le_trans (Nat.le_succ _) (Nat.le_succ _)) z, dne, hns⟩⟩
theorem made0 (T : ExCls prog K mg C fI cc cda) (Fn : ExFn0 K fI cc cda) {mb : Str → Option Value} (X : K.In s.heap) (hlim : s.heap.NoLimit) (hg : s.heap.Ns mainGlobals mg) (hb : s.heap.Ns builtinsNs mb) (hbt : mb "super" = bootBuiltins "super") (hroom : A.depth + 1 < recursionLimit)
    (hq : ∀ h' tk e, Made0 s.heap h' e C → R (.ok (.ret (.ref e))) { s with heap := h', toks := tk }) :
    codeAny (model prog w) A (.call (.ref C) ⟨[], []⟩) R s := by
  obtain ⟨nm, q, N, bs, bm, sn, sub, ab, col, dd, k0, k1, k2, k3, k5, hC, hbm⟩ := T.cls
  obtain ⟨hp, g, dr, tk, os⟩ := s
  have k : ∀ b o, hp.get? b = some o → ((hp.push (kdv_tup [])).push (excO C hp.objs.size)).get? b = some o := fun b o e => Heap.get?_push_of_some _ (Heap.get?_push_of_some _ e)
  have hget : ((hp.push (kdv_tup [])).push (excO C hp.objs.size)).get? (hp.objs.size + 1) = some (excO C hp.objs.size) := by heap_get
  refine call_own F.excBase_ValueError (fun X => refsVE_contains X bm hbm) (X _ _ hC) (looks_findIn X T.iC) (fun self => bind_fn X self T.tC) (by rw [sizeLine_eq]; exact (by decide : 0 ≤ 16777216)) ?_
  refine init0 (s := ⟨(hp.push (kdv_tup [])).push (excO C hp.objs.size), g, dr, tk, os⟩) T Fn (X.keeps k) (hlim.keeps k) (hg.keeps k) (hb.keeps k) hbt hget ?_ fun h' tk' t1 k' hx z => ?_
  · show A.depth + 1 < recursionLimit
    exact hroom
  · have old : ∀ b o, hp.get? b = some o → h'.get? b = some o := fun b o e => k' b o (Nat.ne_of_lt (Nat.lt_succ_of_lt (Heap.lt_size e))) (k b o e)
    exact ⟨rfl, hq h' tk' (hp.objs.size + 1) ⟨old, Nat.le_succ _, _, hx⟩⟩
end
end ExS
end PySem

namespace L2
open PySem PySem.Spec PyProof.Rows PySem.ExS
section
variable {X : Cx} {pins : List (Addr × Obj)} {σ : L2.St} {H : Hp} {s : Shared} {C fI cc cda : Addr} {f y x : Str} {k : Nat} {e : Expr} {es : List Expr} {te : TE} {ta : TA} {p pos : Pos}
theorem xd_ok {P : Program} {w : World} {H : Hp} {h : Heap} {d : Addr} {f : Str} {v : V} {u : Value} (r : RelV v u) (hn : h.Ns1 d (fun y => if y = f then some u else none)) : ObjOk P w H h d (exd d [(f, v)]) :=
  exd_ok hn (relO_put (fs := []) r fun g => True.intro)
/-- two new objects are laid and tracked -/
theorem Inv.laid2 {h' : Heap} {a d : Addr} {o u : HO} {t' : Nat} (I : Inv X pins σ H s) (k : ∀ b w, s.heap.get? b = some w → h'.get? b = some w) (ha : s.heap.objs.size ≤ a) (hd : s.heap.objs.size ≤ d) (ne : d ≠ a) (no : ∀ x, u ≠ .own x) (nt : ∀ xs, u ≠ .tup xs) (no2 : ∀ x, o ≠ .own x) (nt2 : ∀ xs, o ≠ .tup xs)
    (n1 : ObjOk X.prog X.w (upd (upd H d u) a o) h' d u) (n2 : ObjOk X.prog X.w (upd (upd H d u) a o) h' a o) : Inv X pins σ (upd (upd H d u) a o) { s with heap := h', toks := t' } := by
  have fa : H a = none := I.hok.fresh ha
  have fd : H d = none := I.hok.fresh hd
  have na : ∀ {b w}, s.heap.get? b = some w → b ≠ a := fun {b w} q => Nat.ne_of_lt (Nat.lt_of_lt_of_le (Heap.lt_size q) ha)
  have nd : ∀ {b w}, s.heap.get? b = some w → b ≠ d := fun {b w} q => Nat.ne_of_lt (Nat.lt_of_lt_of_le (Heap.lt_size q) hd)
  have up : ∀ {b w}, H b = some w → upd (upd H d u) a o b = some w := fun {b w} q => by rw [upd_ne (ne_of_none q fa), upd_ne (ne_of_none q fd)]; exact q
  refine I.un ⟨fun b w q n _ _ => k b w q, fun b w q n _ _ => ⟨w.slots, k b w q⟩, fun b w q n _ => by rw [upd_ne (na q), upd_ne (nd q)]; exact n, fun b w q _ => ⟨w, k b w q⟩, fun b xs q => up q, fun b w xs q => up q, fun b ps q => ⟨#[], by rw [up q]; simp⟩⟩ fun b w q => ?_
  by_cases hb : b = a
  · subst hb; rw [upd_same] at q; cases q; exact n2
  · rw [upd_ne hb] at q
    by_cases hb2 : b = d
    · subst hb2; rw [upd_same] at q; cases q; exact n1
    · rw [upd_ne hb2] at q
      exact (I.hok b w q).stay (fun c v _ z => k c v z) (fun c z => up z) fun c xs z => up z
/-- the value of C(e): a new exception, held -/
def tExV1 (C : Addr) (f : Str) (ta : TA) : TE := fun σ H Q => ta σ H fun vs H1 => ∃ v, vs = [v] ∧ ∀ a d, H1 a = none → H1 d = none → d ≠ a → Q (.ref a) (upd (upd H1 d (exd d [(f, v)])) a (exo a C (some d)))
def tExV0 (C : Addr) : TE := fun σ H Q => ∀ a, H a = none → Q (.ref a) (upd H a (exo a C none))
theorem pe_exv1 (T : ExCls X.prog X.K X.mg C fI cc cda) (Fn : ExFn1 X.K C fI cc cda f y) (hr : Room k X.A) (he : PA X [e] ta) (hm : X.mg x = some (.ref C)) (hg : Gl X x := by rfl) (hdb : (x == ("__debug__" : Str)) = false := by decide)
    (hst : starEach [e] X.env = [(false, eval e X.env)] := by rfl) (hpl : (backTo pos (starEach [] X.env)).any (·.1) = false := by rfl) : PE X (.Call (.Name x p) [e] [] pos) (tExV1 C f ta) := by
  refine ⟨fun pins s σ H Q I h => ?_⟩
  refine wpAny_Call_Name_kw (ld_glob I hg hm ?_ hdb)
  refine PySem.W.callWith_K (h₀ := X.base) I.ok.mod.kin T.kC (thn (he.run pos pins s σ H _ I h) fun us s1 ⟨vs, H1, I1, r1, v, ev, q⟩ => ⟨I1.kIn, ?_⟩) hst hpl
  subst ev
  obtain ⟨u, rfl, ru⟩ := vals1 r1
  show wpAny _ _ (call (.ref C) [u]) _ _ _
  obtain ⟨mb, h1, h2⟩ := I1.mod.blt
  have hlim := I1.nolimit
  have kin := I1.kIn
  have g1 := I1.mod.glob.keeps I1.bk
  have g2 := h1.keeps I1.bk
  obtain ⟨hp, g, dr, tk, os⟩ := s1
  refine wpAny_call (made1 T Fn kin hlim g1 g2 (h2 _ (by decide)) (by have := hr.dp; omega) fun h' tk' e d M => ?_)
  obtain ⟨t1, ho⟩ := M.obj
  have J := I1.laid2 (t' := tk') (o := exo e C (some d)) (u := exd d [(f, v)]) M.keep M.new M.dbig M.dne (fun x => exd_own) (fun xs => exd_tup) (fun x => exo_own) (fun xs => exo_tup) (xd_ok ru M.ns) (exo_ok ho)
  exact ⟨.ref e, _, J, rfl, q e d (I1.hok.fresh M.new) (I1.hok.fresh M.dbig) M.dne⟩
theorem pe_exv0 (T : ExCls X.prog X.K X.mg C fI cc cda) (Fn : ExFn0 X.K fI cc cda) (hr : Room k X.A) (hm : X.mg x = some (.ref C)) (hg : Gl X x := by rfl) (hdb : (x == ("__debug__" : Str)) = false := by decide) : PE X (.Call (.Name x p) [] [] pos) (tExV0 C) := by
  refine ⟨fun pins s σ H Q I h => ?_⟩
  refine wpAny_Call_Name_kw (ld_glob I hg hm ?_ hdb)
  refine PySem.W.callWith_K0 I.kIn T.kC ?_
  show wpAny _ _ (call (.ref C) []) _ _ _
  obtain ⟨mb, h1, h2⟩ := I.mod.blt
  have hlim := I.nolimit
  have kin := I.kIn
  have g1 := I.mod.glob.keeps I.bk
  have g2 := h1.keeps I.bk
  obtain ⟨hp, g, dr, tk, os⟩ := s
  refine wpAny_call (made0 T Fn kin hlim g1 g2 (h2 _ (by decide)) (by have := hr.dp; omega) fun h' tk' e M => ?_)
  obtain ⟨t1, ho⟩ := M.obj
  have J : Inv X pins σ (upd H e (exo e C none)) ⟨h', g, dr, tk', os⟩ := I.laid (t' := tk') (o := exo e C none) M.keep M.new (exo_ok ho)
  exact ⟨.ref e, _, J, rfl, h e (I.hok.fresh M.new)⟩
/-- e.f, e an exception that is held -/
def tExF (C : Addr) (f : Str) (te : TE) : TE := fun σ H Q => te σ H fun x H1 => ∃ a d fs v, x = .ref a ∧ H1 a = some (exo a C (some d)) ∧ H1 d = some (exd d fs) ∧ fs.lookup f = some v ∧ Q v H1
theorem pe_exf (T : ExCls X.prog X.K X.mg C fI cc cda) (hno : PySem.W.findIn X.K (.ref C) f = some none) (he : PE X e te) (hb : attributeBase e f X.env (eval e X.env) = eval e X.env := by rfl) : PE X (.Attribute e f pos) (tExF C f te) := by
  refine ⟨fun pins s σ H Q I h => ?_⟩
  refine attr_of hb (thn (he.run pins s σ H _ I h) fun u s1 hh => ?_)
  obtain ⟨x, H1, I1, rx, a, d, fs, v, ex, ea, ed, l, q⟩ := hh
  subst ex
  obtain rfl : u = Value.ref a := rx
  obtain ⟨t1, ha⟩ := exo_at I1.hok ea
  obtain ⟨mA, hns, hr⟩ := exd_at I1.hok ed
  obtain ⟨od, ho, hl⟩ := lookIn_ns hns
  obtain ⟨u, hu, ru⟩ := RelO.some_of (v := v) (o := mA f) (by rw [← l]; exact hr f)
  have J : PySem.W.InstAt s1.heap a { cls := .ref C, dict := some d, data := .fields #[.ref t1, .none, .none, .none, .bool false, .none] } C (some od) := ⟨ha, rfl, rfl, ho⟩
  exact HandSPX.exc_get I1.kIn J T.ga T.gg T.exC (PySem.W.findObj_own T.hdC hno rfl (by rw [hl, hu])) (handed_of ru) ⟨v, H1, I1.tok _, ru, q⟩
end
end L2

set_option Elab.async false
set_option linter.all false
set_option maxRecDepth 100000
set_option maxHeartbeats 2000000
/-! Fd1: data in place of values: what an expression, a test, a statement makes of plain data, the heap out of sight. -/
namespace Fd
open PySem PySem.Spec PyProof.Rows L2

/-! ### data -/
inductive D where
  | non | bl (b : Bool) | int (i : Int) | str (x : Str)
  | lst (xs : List D) | tup (xs : List D)
  /-- a list that may be read alone (the script) -/
  | rdl (xs : List D)
  | ins (C : Addr) (ns : List Str) (xs : List D)
  | dct (ks : List Key) (xs : List D)
  /-- an exception that is held -/
  | exc (C : Addr) (ns : List Str) (xs : List D)
  | adr (a : Addr) | ty (n : String)

section
variable (K : PySem.W.Frag) (H : Hp)
mutual
/-- the value v is the datum d in the heap H -/
def Is : D → V → Prop
  | .non, v => v = .non
  | .bl b, v => v = .bl b
  | .int i, v => v = .int i
  | .str x, v => v = .str x
  | .lst xs, v => ∃ a vs, v = .ref a ∧ H a = some (.lst vs) ∧ IsL xs vs
  | .rdl xs, v => ∃ a vs, v = .ref a ∧ SqL K H a vs ∧ IsL xs vs
  | .tup xs, v => ∃ a vs, v = .ref a ∧ SqT K H a vs ∧ IsL xs vs
  | .ins C ns xs, v => ∃ a dx fs, v = .ref a ∧ H a = some (.ins C dx fs) ∧ fs.map (·.1) = ns ∧ IsL xs (fs.map (·.2))
  | .dct ks xs, v => ∃ a kvs, v = .ref a ∧ H a = some (.dK kvs) ∧ kvs.map (·.1) = ks ∧ IsL xs (kvs.map (·.2))
  | .exc C ns xs, v => ∃ a od fs, v = .ref a ∧ H a = some (exo a C od) ∧ fs.map (·.1) = ns ∧ IsL xs (fs.map (·.2)) ∧ (∀ d, od = some d → H d = some (exd d fs)) ∧ (od = none → fs = [])
  | .adr a, v => v = .ref a
  | .ty n, v => v = .ty n
def IsL : List D → List V → Prop
  | [], vs => vs = []
  | x :: xs, vs => ∃ v r, vs = v :: r ∧ Is x v ∧ IsL xs r
end
end
section
variable {K : PySem.W.Frag} {H H' : Hp}
theorem ext_seqL {a : Addr} {vs : List V} (e : Ext H H') (h : SqL K H a vs) : SqL K H' a vs := SqL.ext h e
theorem ext_seqT {a : Addr} {vs : List V} (e : Ext H H') (h : SqT K H a vs) : SqT K H' a vs := SqT.ext h e
mutual
theorem Is.mono (e : Ext H H') : ∀ (d : D) {v : V}, Is K H d v → Is K H' d v
  | .non, _, h => h
  | .bl _, _, h => h
  | .int _, _, h => h
  | .str _, _, h => h
  | .lst xs, _, h => let ⟨a, vs, e1, e2, e3⟩ := h; ⟨a, vs, e1, e _ _ e2, IsL.mono e xs e3⟩
  | .rdl xs, _, h => let ⟨a, vs, e1, e2, e3⟩ := h; ⟨a, vs, e1, ext_seqL e e2, IsL.mono e xs e3⟩
  | .tup xs, _, h => let ⟨a, vs, e1, e2, e3⟩ := h; ⟨a, vs, e1, ext_seqT e e2, IsL.mono e xs e3⟩
  | .ins C ns xs, _, h => let ⟨a, dx, fs, e1, e2, e3, e4⟩ := h; ⟨a, dx, fs, e1, e _ _ e2, e3, IsL.mono e xs e4⟩
  | .dct ks xs, _, h => let ⟨a, kvs, e1, e2, e3, e4⟩ := h; ⟨a, kvs, e1, e _ _ e2, e3, IsL.mono e xs e4⟩
  | .exc C ns xs, _, h => let ⟨a, od, fs, e1, e2, e3, e4, e5, e6⟩ := h; ⟨a, od, fs, e1, e _ _ e2, e3, IsL.mono e xs e4, fun d q => e _ _ (e5 d q), e6⟩
  | .adr _, _, h => h
  | .ty _, _, h => h
theorem IsL.mono (e : Ext H H') : ∀ (ds : List D) {vs : List V}, IsL K H ds vs → IsL K H' ds vs
  | [], _, h => h
  | x :: xs, _, h => let ⟨v, r, e1, e2, e3⟩ := h; ⟨v, r, e1, Is.mono e x e2, IsL.mono e xs e3⟩
end
theorem IsL.length : ∀ {ds : List D} {vs : List V}, IsL K H ds vs → vs.length = ds.length
  | [], _, h => by cases (show _ = _ from h); rfl
  | x :: xs, _, h => by obtain ⟨v, r, rfl, _, h⟩ := h; simp [IsL.length h]
theorem IsL.nil : IsL K H [] [] := rfl
theorem IsL.cons {x : D} {xs : List D} {v : V} {vs : List V} (h : Is K H x v) (t : IsL K H xs vs) : IsL K H (x :: xs) (v :: vs) := ⟨v, vs, rfl, h, t⟩
theorem IsL.get : ∀ {ds : List D} {vs : List V} {i : Nat} {v : V}, IsL K H ds vs → vs[i]? = some v → ∃ x, ds[i]? = some x ∧ Is K H x v
  | [], _, i, _, h, e => by cases (show _ = _ from h); simp at e
  | x :: xs, _, 0, v, h, e => by obtain ⟨v', r, rfl, h1, h⟩ := h; simp at e; subst e; exact ⟨x, rfl, h1⟩
  | x :: xs, _, i + 1, v, h, e => by obtain ⟨v', r, rfl, h1, h⟩ := h; simp at e; obtain ⟨y, e1, e2⟩ := IsL.get h e; exact ⟨y, by simpa using e1, e2⟩
theorem IsL.get' : ∀ {ds : List D} {vs : List V} {i : Nat} {x : D}, IsL K H ds vs → ds[i]? = some x → ∃ v, vs[i]? = some v ∧ Is K H x v
  | [], _, i, _, h, e => by simp at e
  | x :: xs, _, 0, y, h, e => by obtain ⟨v', r, rfl, h1, h⟩ := h; simp at e; subst e; exact ⟨v', rfl, h1⟩
  | x :: xs, _, i + 1, y, h, e => by obtain ⟨v', r, rfl, h1, h⟩ := h; simp at e; obtain ⟨y, e1, e2⟩ := IsL.get' h e; exact ⟨y, by simpa using e1, e2⟩
theorem IsL.append : ∀ {ds es : List D} {vs us : List V}, IsL K H ds vs → IsL K H es us → IsL K H (ds ++ es) (vs ++ us)
  | [], _, _, _, h, g => by cases (show _ = _ from h); exact g
  | x :: xs, _, _, _, h, g => by obtain ⟨v, r, rfl, h1, h⟩ := h; exact ⟨v, _, rfl, h1, IsL.append h g⟩
theorem IsL.take : ∀ {ds : List D} {vs : List V} (n : Nat), IsL K H ds vs → IsL K H (ds.take n) (vs.take n)
  | _, _, 0, _ => rfl
  | [], _, n + 1, h => by cases (show _ = _ from h); exact rfl
  | x :: xs, _, n + 1, h => by obtain ⟨v, r, rfl, h1, h⟩ := h; exact ⟨v, _, rfl, h1, IsL.take n h⟩
theorem IsL.drop : ∀ {ds : List D} {vs : List V} (n : Nat), IsL K H ds vs → IsL K H (ds.drop n) (vs.drop n)
  | _, _, 0, h => h
  | [], _, n + 1, h => by cases (show _ = _ from h); exact rfl
  | x :: xs, _, n + 1, h => by obtain ⟨v, r, rfl, h1, h⟩ := h; exact IsL.drop n h
theorem IsL.snoc {ds : List D} {vs : List V} {x : D} {v : V} (h : IsL K H ds vs) (g : Is K H x v) : IsL K H (ds ++ [x]) (vs ++ [v]) := h.append (.cons g .nil)
theorem Is.int_of {i : Int} {v : V} (h : Is K H (.int i) v) : v = .int i := h
end

/-! ### the state -/
inductive S where
  /-- nothing is known -/
  | no
  /-- a datum that is never changed -/
  | d (x : D)
  /-- a list of one's own -/
  | own (xs : List D)
  /-- an object of one's own -/
  | obj (a C : Addr) (ns : List Str) (xs : List D)
  /-- a dict of one's own -/
  | dic (ks : List Key) (xs : List D)
abbrev SS := List S
def S.mine : S → Bool
  | .own _ => true | .obj _ _ _ _ => true | .dic _ _ => true | _ => false
section
variable (T : List (Addr × Str)) (K : PySem.W.Frag)
/-- what a slot holds: F the heap of what is never changed, H the whole -/
def SlotIs (F H : Hp) : S → Option V → Prop
  | .no, _ => True
  | .d x, o => ∃ v, o = some v ∧ Is K F x v
  | .own xs, o => ∃ p vs, o = some (.ref p) ∧ F p = none ∧ H p = some (.lst vs) ∧ IsL K F xs vs
  | .obj p C ns xs, o => ∃ dx fs, o = some (.ref p) ∧ F p = none ∧ H p = some (.ins C dx fs) ∧ fs.map (·.1) = ns ∧ IsL K F xs (fs.map (·.2))
  | .dic ks xs, o => ∃ p kvs, o = some (.ref p) ∧ F p = none ∧ H p = some (.dK kvs) ∧ kvs.map (·.1) = ks ∧ IsL K F xs (kvs.map (·.2))
/-- a table of code objects, or a code object -/
def Codey (o : HO) : Prop := (∃ ps, o = .tbl ps) ∨ ∃ c q, o = LamX.CodeO c q
/-- nothing stands at p, or a table of code objects -/
def Fr (H : Hp) (p : Addr) : Prop := ∀ o, H p = some o → ∃ ps, o = .tbl ps
theorem Fr.of {H : Hp} {p : Addr} (h : H p = none) : Fr H p := fun o e => by rw [h] at e; cases e
theorem Fr.no {H : Hp} {p : Addr} {o : HO} {C : Prop} (h : Fr H p) (e : H p = some o) (n : ∀ ps, o ≠ .tbl ps) : C := by
  obtain ⟨ps, z⟩ := h o e
  exact absurd z (n ps)
/-- the heap grows: all but the tables of code objects stays, those of T are tables of theirs -/
structure Gr (T : List (Addr × Str)) (H H1 : Hp) : Prop where
  k : ∀ p o, H p = some o → (∀ ps, o ≠ .tbl ps) → H1 p = some o
  t : LamX.Tabs T H → LamX.Tabs T H1
theorem Gr.of {T : List (Addr × Str)} {H H1 : Hp} (e : Ext H H1) : Gr T H H1 where
  k := fun p o h _ => e p o h
  t := fun t => t.ext e
theorem Gr.refl {T : List (Addr × Str)} (H : Hp) : Gr T H H := .of fun _ _ h => h
theorem Gr.trans {T : List (Addr × Str)} {H H1 H2 : Hp} (a : Gr T H H1) (b : Gr T H1 H2) : Gr T H H2 := ⟨fun p o h n => b.k p o (a.k p o h n) n, fun t => b.t (a.t t)⟩
theorem Gr.fr {T : List (Addr × Str)} {H H1 : Hp} {p : Addr} (a : Gr T H H1) (h : Fr H1 p) : Fr H p := fun o e => by
  cases o with
  | tbl ps => exact ⟨ps, rfl⟩
  | _ => exact h _ (a.k p _ e fun _ z => nomatch z)
theorem Gr.ff {T : List (Addr × Str)} {H H1 : Hp} {p : Addr} (a : Gr T H H1) (h : H1 p = none) : Fr H p := a.fr (.of h)
theorem tabs_upd {T : List (Addr × Str)} {H : Hp} {p : Addr} {o : HO} (t : LamX.Tabs T H) (h : ∀ o', H p = some o' → ¬ Codey o') : LamX.Tabs T (upd H p o) := fun x hx => by
  obtain ⟨ps, h1, h2, h3⟩ := t x hx
  have ne : x.1 ≠ p := fun e => h _ (by rw [← e]; exact h1) (.inl ⟨ps, rfl⟩)
  refine ⟨ps, by rw [upd_ne ne]; exact h1, h2, fun pos cv hc => ?_⟩
  obtain ⟨c, e1, e2⟩ := h3 pos cv hc
  have ne2 : c ≠ p := fun e => h _ (by rw [← e]; exact e2) (.inr ⟨c, x.2, rfl⟩)
  exact ⟨c, e1, by rw [upd_ne ne2]; exact e2⟩
/-- new objects alone were added -/
structure Nx (T : List (Addr × Str)) (F H F1 H1 : Hp) : Prop where
  f : Ext F F1
  h : Gr T H H1
  s : Ext F1 H1
  nt : ∀ p ps, F1 p = some (.tbl ps) → F p = some (.tbl ps)
  n : ∀ p o, F1 p = some o → F p ≠ none ∨ Fr H p
structure StR (B : Hp × Hp) (F H : Hp) (σ : L2.St) (ss : SS) : Prop where
  len : σ.length = ss.length
  bF : Ext B.1 F
  bH : Gr T B.2 H
  sub : Ext F H
  nt : ∀ p ps, F p ≠ some (.tbl ps)
  tb : LamX.Tabs T H
  new : ∀ p o, F p = some o → B.1 p ≠ none ∨ Fr B.2 p
  slots : ∀ (i : Nat) (s : S) (o : Option V), ss[i]? = some s → σ[i]? = some o → SlotIs K F H s o
  own : ∀ (i : Nat) (s : S) (p : Addr), ss[i]? = some s → s.mine = true → σ[i]? = some (some (.ref p)) → Fr B.2 p
  dis : ∀ (i j : Nat) (s t : S) (p : Addr), ss[i]? = some s → ss[j]? = some t → s.mine = true → t.mine = true → σ[i]? = some (some (.ref p)) → σ[j]? = some (some (.ref p)) → i = j
end
section
variable {T : List (Addr × Str)} {K : PySem.W.Frag} {B : Hp × Hp} {F H F1 H1 F2 H2 : Hp} {σ : L2.St} {ss : SS}
theorem Nx.refl (s : Ext F H) : Nx T F H F H := ⟨fun _ _ h => h, .refl H, s, fun _ _ h => h, fun p o h => .inl (by rw [h]; exact fun z => nomatch z)⟩
theorem Nx.trans (a : Nx T F H F1 H1) (b : Nx T F1 H1 F2 H2) : Nx T F H F2 H2 := ⟨a.f.trans b.f, a.h.trans b.h, b.s, fun p ps h => a.nt p ps (b.nt p ps h), fun p o h => by
  rcases b.n p o h with z | z
  · cases e : F1 p with
    | none => exact absurd e z
    | some u => exact a.n p u e
  · exact .inr (a.h.fr z)⟩
theorem Nx.alloc {p : Addr} {o : HO} (s : Ext F H) (h : H p = none) (ho : ∀ ps, o ≠ .tbl ps := by intro ps z; cases z) : Nx T F H (upd F p o) (upd H p o) := by
  have hF : F p = none := by
    cases e : F p with
    | none => rfl
    | some u => rw [s p u e] at h; cases h
  refine ⟨Ext.upd hF, .of (Ext.upd h), fun a u e => ?_, fun a ps e => ?_, fun a u e => ?_⟩
  · by_cases q : a = p
    · subst q; rw [upd_same] at e ⊢; exact e
    · rw [upd_ne q] at e ⊢; exact s a u e
  · by_cases q : a = p
    · subst q; rw [upd_same] at e; exact absurd (Option.some.inj e) (ho ps)
    · rw [upd_ne q] at e; exact e
  · by_cases q : a = p
    · subst q; exact .inr (.of h)
    · rw [upd_ne q] at e; exact .inl (by rw [e]; exact fun z => nomatch z)
/-- a new object that is not among the data -/
theorem Nx.allocH {p : Addr} {o : HO} (s : Ext F H) (h : H p = none) : Nx T F H F (upd H p o) :=
  ⟨fun _ _ h => h, .of (Ext.upd h), fun a u e => by rw [upd_ne (ne_of_none (s a u e) h)]; exact s a u e, fun _ _ h => h, fun p o h => .inl (by rw [h]; exact fun z => nomatch z)⟩
theorem SlotIs.grow {s : S} {o : Option V} (a : Nx T F H F1 H1) (h : SlotIs K F H s o) : SlotIs K F1 H1 s o := by
  have free : ∀ {p : Addr} {u : HO}, F p = none → H p = some u → (∀ ps, u ≠ .tbl ps) → F1 p = none := fun {p u} e1 e2 hn => by
    cases e : F1 p with
    | none => rfl
    | some w =>
      rcases a.n p w e with z | z
      · exact absurd e1 z
      · exact z.no e2 hn
  cases s with
  | no => exact True.intro
  | d x => obtain ⟨v, e, h⟩ := h; exact ⟨v, e, Is.mono a.f x h⟩
  | own xs => obtain ⟨p, vs, e, e1, e2, h⟩ := h; exact ⟨p, vs, e, free e1 e2 (fun _ z => nomatch z), a.h.k _ _ e2 (fun _ z => nomatch z), IsL.mono a.f xs h⟩
  | obj p C ns xs => obtain ⟨dx, fs, e, e1, e2, e3, h⟩ := h; exact ⟨dx, fs, e, free e1 e2 (fun _ z => nomatch z), a.h.k _ _ e2 (fun _ z => nomatch z), e3, IsL.mono a.f xs h⟩
  | dic ks xs => obtain ⟨p, kvs, e, e1, e2, e3, h⟩ := h; exact ⟨p, kvs, e, free e1 e2 (fun _ z => nomatch z), a.h.k _ _ e2 (fun _ z => nomatch z), e3, IsL.mono a.f xs h⟩
theorem StR.grow (R : StR T K B F H σ ss) (a : Nx T F H F1 H1) : StR T K B F1 H1 σ ss where
  len := R.len
  bF := R.bF.trans a.f
  bH := R.bH.trans a.h
  sub := a.s
  nt := fun p ps e => R.nt p ps (a.nt p ps e)
  tb := a.h.t R.tb
  new := fun p o e => by
    rcases a.n p o e with z | z
    · cases q : F p with
      | none => exact absurd q z
      | some u => exact R.new p u q
    · exact .inr (R.bH.fr z)
  slots := fun i s o e1 e2 => (R.slots i s o e1 e2).grow a
  own := R.own
  dis := R.dis
theorem StR.nx (R : StR T K B F H σ ss) : Nx T F H F H := Nx.refl R.sub
theorem StR.alloc {p : Addr} {o : HO} (R : StR T K B F H σ ss) (h : H p = none) (ho : ∀ ps, o ≠ .tbl ps := by intro ps z; cases z) : StR T K B (upd F p o) (upd H p o) σ ss := R.grow (Nx.alloc R.sub h ho)
theorem StR.get {i : Nat} {x : D} (R : StR T K B F H σ ss) (h : ss[i]? = some (.d x)) : ∃ v, σ[i]? = some (some v) ∧ Is K F x v := by
  have hi : i < ss.length := (List.getElem?_eq_some_iff.mp h).1
  have hs : i < σ.length := by rw [R.len]; exact hi
  obtain ⟨v, e, q⟩ := R.slots i _ _ h (List.getElem?_eq_getElem hs)
  exact ⟨v, by rw [List.getElem?_eq_getElem hs, e], q⟩
theorem set_get {α : Type} {l : List α} {i j : Nat} {a x : α} (h : (l.set i a)[j]? = some x) : (i = j ∧ x = a) ∨ (i ≠ j ∧ l[j]? = some x) := by
  by_cases e : i = j
  · subst e
    have hl : i < l.length := by
      have := (List.getElem?_eq_some_iff.mp h).1
      simpa using this
    rw [List.getElem?_set_self hl] at h
    exact .inl ⟨rfl, (Option.some.inj h).symm⟩
  · rw [List.getElem?_set_ne e] at h
    exact .inr ⟨e, h⟩
/-- a slot is given a datum -/
theorem StR.put {i : Nat} {x : D} {v : V} (R : StR T K B F H σ ss) (h : Is K F x v) : StR T K B F H (σ.set i (some v)) (ss.set i (.d x)) where
  len := by simp [R.len]
  bF := R.bF
  bH := R.bH
  sub := R.sub
  nt := R.nt
  tb := R.tb
  new := R.new
  slots := fun j s o e1 e2 => by
    rcases set_get e1 with ⟨q, rfl⟩ | ⟨q, e1⟩
    · rcases set_get e2 with ⟨_, rfl⟩ | ⟨q2, _⟩
      · exact ⟨v, rfl, h⟩
      · exact absurd q q2
    · rcases set_get e2 with ⟨q2, _⟩ | ⟨_, e2⟩
      · exact absurd q2 q
      · exact R.slots j s o e1 e2
  own := fun j s p e1 m e2 => by
    rcases set_get e1 with ⟨q, rfl⟩ | ⟨q, e1⟩
    · cases m
    · rcases set_get e2 with ⟨q2, _⟩ | ⟨_, e2⟩
      · exact absurd q2 q
      · exact R.own j s p e1 m e2
  dis := fun j k s t p e1 e2 m1 m2 e3 e4 => by
    rcases set_get e1 with ⟨q, rfl⟩ | ⟨q, e1⟩
    · cases m1
    · rcases set_get e2 with ⟨q', rfl⟩ | ⟨q', e2⟩
      · cases m2
      · rcases set_get e3 with ⟨q2, _⟩ | ⟨_, e3⟩
        · exact absurd q2 q
        · rcases set_get e4 with ⟨q2, _⟩ | ⟨_, e4⟩
          · exact absurd q2 q'
          · exact R.dis j k s t p e1 e2 m1 m2 e3 e4
/-- a slot is forgotten -/
theorem StR.forget {i : Nat} {o : Option V} (R : StR T K B F H σ ss) : StR T K B F H (σ.set i o) (ss.set i .no) where
  len := by simp [R.len]
  bF := R.bF
  bH := R.bH
  sub := R.sub
  nt := R.nt
  tb := R.tb
  new := R.new
  slots := fun j s o e1 e2 => by
    rcases set_get e1 with ⟨q, rfl⟩ | ⟨q, e1⟩
    · exact True.intro
    · rcases set_get e2 with ⟨q2, _⟩ | ⟨_, e2⟩
      · exact absurd q2 q
      · exact R.slots j s o e1 e2
  own := fun j s p e1 m e2 => by
    rcases set_get e1 with ⟨q, rfl⟩ | ⟨q, e1⟩
    · cases m
    · rcases set_get e2 with ⟨q2, _⟩ | ⟨_, e2⟩
      · exact absurd q2 q
      · exact R.own j s p e1 m e2
  dis := fun j k s t p e1 e2 m1 m2 e3 e4 => by
    rcases set_get e1 with ⟨q, rfl⟩ | ⟨q, e1⟩
    · cases m1
    · rcases set_get e2 with ⟨q', rfl⟩ | ⟨q', e2⟩
      · cases m2
      · rcases set_get e3 with ⟨q2, _⟩ | ⟨_, e3⟩
        · exact absurd q2 q
        · rcases set_get e4 with ⟨q2, _⟩ | ⟨_, e4⟩
          · exact absurd q2 q'
          · exact R.dis j k s t p e1 e2 m1 m2 e3 e4
/-- a slot of which less is known -/
theorem StR.less {i : Nat} {s : S} (R : StR T K B F H σ ss) (h : ss[i]? = some s) (hm : s.mine = false ∨ True) : StR T K B F H σ (ss.set i .no) where
  len := by simp [R.len]
  bF := R.bF
  bH := R.bH
  sub := R.sub
  nt := R.nt
  tb := R.tb
  new := R.new
  slots := fun j s o e1 e2 => by
    rcases set_get e1 with ⟨q, rfl⟩ | ⟨q, e1⟩
    · exact True.intro
    · exact R.slots j s o e1 e2
  own := fun j s p e1 m e2 => by
    rcases set_get e1 with ⟨q, rfl⟩ | ⟨q, e1⟩
    · cases m
    · exact R.own j s p e1 m e2
  dis := fun j k s t p e1 e2 m1 m2 e3 e4 => by
    rcases set_get e1 with ⟨q, rfl⟩ | ⟨q, e1⟩
    · cases m1
    · rcases set_get e2 with ⟨q', rfl⟩ | ⟨q', e2⟩
      · cases m2
      · exact R.dis j k s t p e1 e2 m1 m2 e3 e4
end

/-! ### what an expression makes: canonical readings -/
section
variable (T : List (Addr × Str)) (K : PySem.W.Frag)
/-- from ss the datum d; Rl : which ss, d -/
def tEv (Rl : SS → D → Prop) : TE := fun σ H Q => ∃ B F ss d, Rl ss d ∧ StR T K B F H σ ss ∧ ∀ v F1 H1, Nx T F H F1 H1 → StR T K B F1 H1 σ ss → Is K F1 d v → Q v H1
def tEvs (Rl : SS → List D → Prop) : TA := fun σ H Q => ∃ B F ss ds, Rl ss ds ∧ StR T K B F H σ ss ∧ ∀ vs F1 H1, Nx T F H F1 H1 → StR T K B F1 H1 σ ss → IsL K F1 ds vs → Q vs H1
def tTv (Rl : SS → Bool → Prop) : TT := fun σ H Q => ∃ B F ss b, Rl ss b ∧ StR T K B F H σ ss ∧ ∀ F1 H1, Nx T F H F1 H1 → StR T K B F1 H1 σ ss → Q b H1
end
section
variable {T : List (Addr × Str)} {X : Cx}
theorem PE.imp {e : Expr} {t t' : TE} (h : PE X e t) (k : ∀ σ H Q, t' σ H Q → t σ H Q) : PE X e t' := ⟨fun pins s σ H Q I q => h.run pins s σ H Q I (k σ H Q q)⟩
theorem PT.imp {e : Expr} {t t' : TT} (h : PT X e t) (k : ∀ σ H Q, t' σ H Q → t σ H Q) : PT X e t' := ⟨fun pins s σ H Q I q => h.run pins s σ H Q I (k σ H Q q)⟩
theorem PA.imp {es : List Expr} {t t' : TA} (h : PA X es t) (k : ∀ σ H Q, t' σ H Q → t σ H Q) : PA X es t' := ⟨fun pos pins s σ H Q I q => h.run pos pins s σ H Q I (k σ H Q q)⟩
theorem PS.imp {e : Stmt} {t t' : TS} (h : PS X e t) (k : ∀ D σ H, t' D σ H → t D σ H) : PS X e t' := ⟨fun pins s σ H D I q => h.run pins s σ H D I (k D σ H q)⟩
theorem PSs.imp {e : List Stmt} {t t' : TS} (h : PSs X e t) (k : ∀ D σ H, t' D σ H → t D σ H) : PSs X e t' := ⟨fun pins s σ H D I q => h.run pins s σ H D I (k D σ H q)⟩
/-- e makes of the state ss the datum d -/
def EV (T : List (Addr × Str)) (X : Cx) (e : Expr) (ss : SS) (d : D) : Prop := PE X e (tEv T X.K fun ss' d' => ss' = ss ∧ d' = d)
def EVs (T : List (Addr × Str)) (X : Cx) (es : List Expr) (ss : SS) (ds : List D) : Prop := PA X es (tEvs T X.K fun ss' d' => ss' = ss ∧ d' = ds)
def TV (T : List (Addr × Str)) (X : Cx) (e : Expr) (ss : SS) (b : Bool) : Prop := PT X e (tTv T X.K fun ss' b' => ss' = ss ∧ b' = b)
abbrev EvP (T : List (Addr × Str)) (K : PySem.W.Frag) (ss : SS) (d : D) : TE := tEv T K fun ss' d' => ss' = ss ∧ d' = d
abbrev EvsP (T : List (Addr × Str)) (K : PySem.W.Frag) (ss : SS) (ds : List D) : TA := tEvs T K fun ss' d' => ss' = ss ∧ d' = ds
abbrev TvP (T : List (Addr × Str)) (K : PySem.W.Frag) (ss : SS) (b : Bool) : TT := tTv T K fun ss' d' => ss' = ss ∧ d' = b
/-- a family of readings -/
theorem pe_fam {e : Expr} {Rl : SS → D → Prop} (h : ∀ ss d, Rl ss d → EV T X e ss d) : PE X e (tEv T X.K Rl) := ⟨fun pins s σ H Q I q => by
  obtain ⟨B, F, ss, d, r, R, k⟩ := q
  exact (h ss d r).run pins s σ H Q I ⟨B, F, ss, d, ⟨rfl, rfl⟩, R, k⟩⟩
theorem pt_fam {e : Expr} {Rl : SS → Bool → Prop} (h : ∀ ss d, Rl ss d → TV T X e ss d) : PT X e (tTv T X.K Rl) := ⟨fun pins s σ H Q I q => by
  obtain ⟨B, F, ss, d, r, R, k⟩ := q
  exact (h ss d r).run pins s σ H Q I ⟨B, F, ss, d, ⟨rfl, rfl⟩, R, k⟩⟩
/-- from any reading -/
theorem EV.of {e : Expr} {t : TE} {ss : SS} {d : D} (h : PE X e t)
    (k : ∀ B F H σ Q, StR T X.K B F H σ ss → (∀ v F1 H1, Nx T F H F1 H1 → StR T X.K B F1 H1 σ ss → Is X.K F1 d v → Q v H1) → t σ H Q) : EV T X e ss d :=
  PE.imp h fun σ H Q ⟨B, F, ss', d', ⟨e1, e2⟩, R, q⟩ => by subst e1; subst e2; exact k B F H σ Q R q
theorem TV.of {e : Expr} {t : TT} {ss : SS} {b : Bool} (h : PT X e t)
    (k : ∀ B F H σ Q, StR T X.K B F H σ ss → (∀ F1 H1, Nx T F H F1 H1 → StR T X.K B F1 H1 σ ss → Q b H1) → t σ H Q) : TV T X e ss b :=
  PT.imp h fun σ H Q ⟨B, F, ss', d', ⟨e1, e2⟩, R, q⟩ => by subst e1; subst e2; exact k B F H σ Q R q
theorem EVs.of {es : List Expr} {t : TA} {ss : SS} {ds : List D} (h : PA X es t)
    (k : ∀ B F H σ Q, StR T X.K B F H σ ss → (∀ vs F1 H1, Nx T F H F1 H1 → StR T X.K B F1 H1 σ ss → IsL X.K F1 ds vs → Q vs H1) → t σ H Q) : EVs T X es ss ds :=
  PA.imp h fun σ H Q ⟨B, F, ss', d', ⟨e1, e2⟩, R, q⟩ => by subst e1; subst e2; exact k B F H σ Q R q
/-- use of one -/
theorem ev_go {K : PySem.W.Frag} {B : Hp × Hp} {F H : Hp} {σ : L2.St} {ss : SS} {d : D} {Q : VK} (R : StR T K B F H σ ss) (k : ∀ v F1 H1, Nx T F H F1 H1 → StR T K B F1 H1 σ ss → Is K F1 d v → Q v H1) : EvP T K ss d σ H Q := ⟨B, F, ss, d, ⟨rfl, rfl⟩, R, k⟩
theorem evs_go {K : PySem.W.Frag} {B : Hp × Hp} {F H : Hp} {σ : L2.St} {ss : SS} {ds : List D} {Q : List V → Hp → Prop} (R : StR T K B F H σ ss) (k : ∀ vs F1 H1, Nx T F H F1 H1 → StR T K B F1 H1 σ ss → IsL K F1 ds vs → Q vs H1) : EvsP T K ss ds σ H Q := ⟨B, F, ss, ds, ⟨rfl, rfl⟩, R, k⟩
theorem tv_go {K : PySem.W.Frag} {B : Hp × Hp} {F H : Hp} {σ : L2.St} {ss : SS} {b : Bool} {Q : Bool → Hp → Prop} (R : StR T K B F H σ ss) (k : ∀ F1 H1, Nx T F H F1 H1 → StR T K B F1 H1 σ ss → Q b H1) : TvP T K ss b σ H Q := ⟨B, F, ss, b, ⟨rfl, rfl⟩, R, k⟩
end

/-! ### expressions -/
section
variable {T : List (Addr × Str)} {X : Cx} {ss : SS} {a b c e : Expr} {es : List Expr} {pos : Pos} {d : D} {ds : List D}
theorem ev_var (i : Nat) {x : Str} (h : ss[i]? = some (.d d)) (hN : X.N[i]? = some x := by rfl) (hv : Vis X.env.scope x := by first | exact Or.inl rfl | exact Or.inr (Or.inl rfl) | exact Or.inr (Or.inr rfl)) (hd : (x == ("__debug__" : Str)) = false := by decide)
    (hcd : (x == ("__classdict__" : Str)) = false := by decide) : EV T X (.Name x pos) ss d := EV.of (pe_var hN hv hd hcd) fun B F H σ Q R k => by
  obtain ⟨v, e, q⟩ := R.get h
  exact ⟨v, e, k v F H R.nx R q⟩
theorem ev_int {i : Int} {j} : EV T X (.Constant (.int i) j pos) ss (.int i) := EV.of pe_int fun B F H σ Q R k => k _ F H R.nx R rfl
theorem ev_bl {i : Bool} {j} : EV T X (.Constant (.bool i) j pos) ss (.bl i) := EV.of pe_bl fun B F H σ Q R k => k _ F H R.nx R rfl
theorem ev_non {j} : EV T X (.Constant .none j pos) ss .non := EV.of pe_non fun B F H σ Q R k => k _ F H R.nx R rfl
theorem ev_str {x : Str} {j} : EV T X (.Constant (.str x) j pos) ss (.str x) := EV.of pe_str fun B F H σ Q R k => k _ F H R.nx R rfl
/-- two in a row, by a rule of values -/
theorem ev_op {op : Operator} {r : R2} {x y : D} (ho : OpR X (binaryOp op) r) (ha : EV T X a ss x) (hb : EV T X b ss y)
    (k : ∀ B F H σ v u Q, StR T X.K B F H σ ss → Is X.K F x v → Is X.K F y u → (∀ z F1 H1, Nx T F H F1 H1 → StR T X.K B F1 H1 σ ss → Is X.K F1 d z → Q z H1) → r v u H Q) : EV T X (.BinOp a op b pos) ss d :=
  EV.of (pe_op ho ha hb) fun B F H σ Q R q => ev_go R fun v F1 H1 n1 R1 i1 => ev_go R1 fun u F2 H2 n2 R2 i2 =>
    k B F2 H2 σ v u Q R2 (Is.mono n2.f _ i1) i2 fun z F3 H3 n3 R3 i3 => q z F3 H3 ((n1.trans n2).trans n3) R3 i3
theorem ev_cmp {op : CmpOp} {r : R2} {x y : D} (ho : OpR X (compareOp op) r) (ha : EV T X a ss x) (hb : EV T X b ss y)
    (k : ∀ B F H σ v u Q, StR T X.K B F H σ ss → Is X.K F x v → Is X.K F y u → (∀ z F1 H1, Nx T F H F1 H1 → StR T X.K B F1 H1 σ ss → Is X.K F1 d z → Q z H1) → r v u H Q)
    (h1 : behindInMarks op b = false := by first | exact nomark _ | rfl) : EV T X (.Compare a [op] [b] pos) ss d :=
  EV.of (pe_cmpR ho ha hb h1) fun B F H σ Q R q => ev_go R fun v F1 H1 n1 R1 i1 => ev_go R1 fun u F2 H2 n2 R2 i2 =>
    k B F2 H2 σ v u Q R2 (Is.mono n2.f _ i1) i2 fun z F3 H3 n3 R3 i3 => q z F3 H3 ((n1.trans n2).trans n3) R3 i3
theorem ev_add {i j : Int} (ha : EV T X a ss (.int i)) (hb : EV T X b ss (.int j)) : EV T X (.BinOp a .Add b pos) ss (.int (i + j)) :=
  ev_op op_add ha hb fun B F H σ v u Q R i1 i2 q => ⟨i, j, i1, i2, q _ F H R.nx R rfl⟩
theorem ev_sub {i j : Int} (ha : EV T X a ss (.int i)) (hb : EV T X b ss (.int j)) : EV T X (.BinOp a .Sub b pos) ss (.int (i - j)) :=
  ev_op op_sub ha hb fun B F H σ v u Q R i1 i2 q => ⟨i, j, i1, i2, q _ F H R.nx R rfl⟩
theorem ev_mod {i j : Int} (hj : 0 < j) (ha : EV T X a ss (.int i)) (hb : EV T X b ss (.int j)) : EV T X (.BinOp a .Mod b pos) ss (.int (i % j)) :=
  ev_op op_mod ha hb fun B F H σ v u Q R i1 i2 q => ⟨i, j, i1, i2, hj, q _ F H R.nx R rfl⟩
theorem ev_pow {i j : Int} (hj : CPow i j) (ha : EV T X a ss (.int i)) (hb : EV T X b ss (.int j)) : EV T X (.BinOp a .Pow b pos) ss (.int (i ^ j.toNat)) :=
  ev_op op_pow ha hb fun B F H σ v u Q R i1 i2 q => ⟨i, j, i1, i2, hj, q _ F H R.nx R rfl⟩
theorem ev_neg {i : Int} (ha : EV T X a ss (.int i)) : EV T X (.UnaryOp .USub a pos) ss (.int (-i)) :=
  EV.of (pe_un un_neg ha) fun B F H σ Q R q => ev_go R fun v F1 H1 n1 R1 i1 => ⟨i, i1, q _ F1 H1 n1 R1 rfl⟩
theorem ev_addS {x y : Str} (hl : x.length + y.length ≤ sizeLine) (ha : EV T X a ss (.str x)) (hb : EV T X b ss (.str y)) : EV T X (.BinOp a .Add b pos) ss (.str (x ++ y)) :=
  ev_op op_add_str ha hb fun B F H σ v u Q R i1 i2 q => ⟨x, y, i1, i2, hl, q _ F H R.nx R rfl⟩
theorem ev_lt {i j : Int} (ha : EV T X a ss (.int i)) (hb : EV T X b ss (.int j)) : EV T X (.Compare a [.Lt] [b] pos) ss (.bl (decide (i < j))) :=
  ev_cmp op_lt ha hb fun B F H σ v u Q R i1 i2 q => ⟨i, j, i1, i2, q _ F H R.nx R rfl⟩
theorem ev_le {i j : Int} (ha : EV T X a ss (.int i)) (hb : EV T X b ss (.int j)) : EV T X (.Compare a [.LtE] [b] pos) ss (.bl (decide (i ≤ j))) :=
  ev_cmp op_le ha hb fun B F H σ v u Q R i1 i2 q => ⟨i, j, i1, i2, q _ F H R.nx R rfl⟩
theorem ev_gt {i j : Int} (ha : EV T X a ss (.int i)) (hb : EV T X b ss (.int j)) : EV T X (.Compare a [.Gt] [b] pos) ss (.bl (decide (j < i))) :=
  ev_cmp op_gt ha hb fun B F H σ v u Q R i1 i2 q => ⟨i, j, i1, i2, q _ F H R.nx R rfl⟩
theorem ev_ge {i j : Int} (ha : EV T X a ss (.int i)) (hb : EV T X b ss (.int j)) : EV T X (.Compare a [.GtE] [b] pos) ss (.bl (decide (j ≤ i))) :=
  ev_cmp op_ge ha hb fun B F H σ v u Q R i1 i2 q => ⟨i, j, i1, i2, q _ F H R.nx R rfl⟩
theorem ev_eqI {i j : Int} (ha : EV T X a ss (.int i)) (hb : EV T X b ss (.int j)) : EV T X (.Compare a [.Eq] [b] pos) ss (.bl (decide (i = j))) :=
  ev_cmp op_eq ha hb fun B F H σ v u Q R i1 i2 q => by
    cases i1; cases i2
    exact ⟨rfl, q _ F H R.nx R (by show V.bl _ = V.bl _; rw [dec_int, Bool.beq_eq_decide_eq])⟩
theorem ev_neI {i j : Int} (ha : EV T X a ss (.int i)) (hb : EV T X b ss (.int j)) : EV T X (.Compare a [.NotEq] [b] pos) ss (.bl (!decide (i = j))) :=
  ev_cmp op_ne ha hb fun B F H σ v u Q R i1 i2 q => by
    cases i1; cases i2
    exact ⟨rfl, q _ F H R.nx R (by show V.bl _ = V.bl _; rw [dec_int, Bool.beq_eq_decide_eq])⟩
theorem ev_eqS {i j : Str} (ha : EV T X a ss (.str i)) (hb : EV T X b ss (.str j)) : EV T X (.Compare a [.Eq] [b] pos) ss (.bl (decide (i = j))) :=
  ev_cmp op_eq ha hb fun B F H σ v u Q R i1 i2 q => by
    cases i1; cases i2
    exact ⟨rfl, q _ F H R.nx R (by show V.bl _ = V.bl _; rw [dec_str, Bool.beq_eq_decide_eq])⟩
/-! arguments, displays -/
theorem evs_nil : EVs T X [] ss [] := EVs.of pa_nil fun B F H σ Q R k => k [] F H R.nx R rfl
theorem evs_cons (ha : EV T X e ss d) (hr : EVs T X es ss ds) (hs : starEach (e :: es) X.env = (false, eval e X.env) :: starEach es X.env := by rfl) : EVs T X (e :: es) ss (d :: ds) :=
  EVs.of (pa_cons ha hr hs) fun B F H σ Q R k => ev_go R fun v F1 H1 n1 R1 i1 => evs_go R1 fun vs F2 H2 n2 R2 i2 =>
    k (v :: vs) F2 H2 (n1.trans n2) R2 ⟨v, vs, rfl, Is.mono n2.f _ i1, i2⟩
theorem small_len {n : Nat} (h : n ≤ 100000) : n ≤ sizeLine := by rw [sizeLine_eq]; omega
theorem ev_tup {x1} (h : EVs T X es ss ds) (hl : ds.length ≤ 100000 := by exact Nat.le_of_ble_eq_true rfl) : EV T X (.Tuple es x1 pos) ss (.tup ds) :=
  EV.of (pe_tup h) fun B F H σ Q R k => evs_go R fun vs F1 H1 n1 R1 i1 => ⟨by rw [i1.length]; exact small_len hl, fun p hp =>
    k _ _ _ (n1.trans (Nx.alloc R1.sub hp)) (R1.alloc hp) ⟨p, vs, rfl, SqT.of upd_same, IsL.mono (Nx.alloc (T := T) R1.sub hp).f _ i1⟩⟩
theorem ev_lst (h : EVs T X es ss ds) (hl : ds.length ≤ 100000 := by exact Nat.le_of_ble_eq_true rfl) : EV T X (.List es pos) ss (.lst ds) :=
  EV.of (pe_lst h) fun B F H σ Q R k => evs_go R fun vs F1 H1 n1 R1 i1 => ⟨by rw [i1.length]; exact small_len hl, fun p hp =>
    k _ _ _ (n1.trans (Nx.alloc R1.sub hp)) (R1.alloc hp) ⟨p, vs, rfl, upd_same, IsL.mono (Nx.alloc (T := T) R1.sub hp).f _ i1⟩⟩
/-! items -/
theorem ev_ixL {xs : List D} {i : Int} (hi : ∃ n : Nat, i = n ∧ xs[n]? = some d) (ha : EV T X a ss (.lst xs)) (hb : EV T X b ss (.int i)) (hs : PlainIx b := by exact fun _ _ => rfl) : EV T X (.Subscript a b pos) ss d :=
  EV.of (pe_ix ix_list ha hb hs) fun B F H σ Q R q => ev_go R fun v F1 H1 n1 R1 i1 => ev_go R1 fun u F2 H2 n2 R2 i2 => by
    obtain ⟨p, vs, rfl, e2, e3⟩ := i1
    obtain ⟨n, rfl, hn⟩ := hi
    obtain ⟨w, hw, iw⟩ := IsL.get' e3 hn
    exact ⟨p, vs, _, w, rfl, i2, SqL.of (R2.sub _ _ (n2.f _ _ e2)), atI_nat hw, q _ _ _ (n1.trans n2) R2 (Is.mono n2.f _ iw)⟩
theorem ev_ixR {xs : List D} {i : Int} (hi : ∃ n : Nat, i = n ∧ xs[n]? = some d) (ha : EV T X a ss (.rdl xs)) (hb : EV T X b ss (.int i)) (hs : PlainIx b := by exact fun _ _ => rfl) : EV T X (.Subscript a b pos) ss d :=
  EV.of (pe_ix ix_list ha hb hs) fun B F H σ Q R q => ev_go R fun v F1 H1 n1 R1 i1 => ev_go R1 fun u F2 H2 n2 R2 i2 => by
    obtain ⟨p, vs, rfl, e2, e3⟩ := i1
    obtain ⟨n, rfl, hn⟩ := hi
    obtain ⟨w, hw, iw⟩ := IsL.get' e3 hn
    exact ⟨p, vs, _, w, rfl, i2, ext_seqL (n2.f.trans R2.sub) e2, atI_nat hw, q _ _ _ (n1.trans n2) R2 (Is.mono n2.f _ iw)⟩
theorem ev_ixT {xs : List D} {i : Int} (hi : ∃ n : Nat, i = n ∧ xs[n]? = some d) (ha : EV T X a ss (.tup xs)) (hb : EV T X b ss (.int i)) (hs : PlainIx b := by exact fun _ _ => rfl) : EV T X (.Subscript a b pos) ss d :=
  EV.of (pe_ix ix_tup ha hb hs) fun B F H σ Q R q => ev_go R fun v F1 H1 n1 R1 i1 => ev_go R1 fun u F2 H2 n2 R2 i2 => by
    obtain ⟨p, vs, rfl, e2, e3⟩ := i1
    obtain ⟨n, rfl, hn⟩ := hi
    obtain ⟨w, hw, iw⟩ := IsL.get' e3 hn
    exact ⟨p, vs, _, w, rfl, i2, ext_seqT (n2.f.trans R2.sub) e2, atI_nat hw, q _ _ _ (n1.trans n2) R2 (Is.mono n2.f _ iw)⟩
/-! tests -/
theorem tv_of {b : Bool} (h : EV T X e ss (.bl b)) (he : ∀ whole, isTrue e X.env whole = (do let v ← whole; standAt e.pos; holding [v] (truthy v)) := by intro _; rfl) : TV T X e ss b :=
  TV.of (pt_val h he) fun B F H σ Q R q => ev_go R fun v F1 H1 n1 R1 i1 => ⟨b, i1, q F1 H1 n1 R1⟩
theorem tv_cmp {op : CmpOp} {r : R2} {x y : D} {k : Bool} (ho : OpR X (compareOp op) r) (ha : EV T X a ss x) (hb : EV T X b ss y)
    (kk : ∀ B F H σ v u Q, StR T X.K B F H σ ss → Is X.K F x v → Is X.K F y u → (∀ F1 H1, Nx T F H F1 H1 → StR T X.K B F1 H1 σ ss → Q (.bl k) H1) → r v u H Q)
    (h1 : behindInMarks op b = false := by first | exact nomark _ | rfl) : TV T X (.Compare a [op] [b] pos) ss k :=
  TV.of (pt_cmpR ho ha hb h1) fun B F H σ Q R q => ev_go R fun v F1 H1 n1 R1 i1 => ev_go R1 fun u F2 H2 n2 R2 i2 =>
    kk B F2 H2 σ v u _ R2 (Is.mono n2.f _ i1) i2 fun F3 H3 n3 R3 => ⟨k, rfl, q F3 H3 ((n1.trans n2).trans n3) R3⟩
theorem tv_lt {i j : Int} (ha : EV T X a ss (.int i)) (hb : EV T X b ss (.int j)) : TV T X (.Compare a [.Lt] [b] pos) ss (decide (i < j)) :=
  tv_cmp op_lt ha hb fun B F H σ v u Q R i1 i2 q => ⟨i, j, i1, i2, q F H R.nx R⟩
theorem tv_le {i j : Int} (ha : EV T X a ss (.int i)) (hb : EV T X b ss (.int j)) : TV T X (.Compare a [.LtE] [b] pos) ss (decide (i ≤ j)) :=
  tv_cmp op_le ha hb fun B F H σ v u Q R i1 i2 q => ⟨i, j, i1, i2, q F H R.nx R⟩
theorem tv_gt {i j : Int} (ha : EV T X a ss (.int i)) (hb : EV T X b ss (.int j)) : TV T X (.Compare a [.Gt] [b] pos) ss (decide (j < i)) :=
  tv_cmp op_gt ha hb fun B F H σ v u Q R i1 i2 q => ⟨i, j, i1, i2, q F H R.nx R⟩
theorem tv_ge {i j : Int} (ha : EV T X a ss (.int i)) (hb : EV T X b ss (.int j)) : TV T X (.Compare a [.GtE] [b] pos) ss (decide (j ≤ i)) :=
  tv_cmp op_ge ha hb fun B F H σ v u Q R i1 i2 q => ⟨i, j, i1, i2, q F H R.nx R⟩
theorem tv_eqI {i j : Int} (ha : EV T X a ss (.int i)) (hb : EV T X b ss (.int j)) : TV T X (.Compare a [.Eq] [b] pos) ss (decide (i = j)) :=
  tv_cmp op_eq ha hb fun B F H σ v u Q R i1 i2 q => by
    cases i1; cases i2
    refine ⟨rfl, ?_⟩
    rw [dec_int, Bool.beq_eq_decide_eq]
    exact q F H R.nx R
theorem tv_neI {i j : Int} (ha : EV T X a ss (.int i)) (hb : EV T X b ss (.int j)) : TV T X (.Compare a [.NotEq] [b] pos) ss (!decide (i = j)) :=
  tv_cmp op_ne ha hb fun B F H σ v u Q R i1 i2 q => by
    cases i1; cases i2
    refine ⟨rfl, ?_⟩
    rw [dec_int, Bool.beq_eq_decide_eq]
    exact q F H R.nx R
theorem tv_not {k : Bool} (h : TV T X a ss k) : TV T X (.UnaryOp .Not a pos) ss (!k) := TV.of (pt_not h) fun B F H σ Q R q => tv_go R q
def TW (T : List (Addr × Str)) (X : Cx) (e : Expr) (ss : SS) (b : Bool) : Prop := PW X e (tTv T X.K fun ss' b' => ss' = ss ∧ b' = b)
theorem PW.imp {e : Expr} {t t' : TT} (h : PW X e t) (k : ∀ σ H Q, t' σ H Q → t σ H Q) : PW X e t' := ⟨fun wh pins s σ H Q I q => h.run wh pins s σ H Q I (k σ H Q q)⟩
theorem TW.tv {k : Bool} (h : TW T X e ss k) : TV T X e ss k := PW.pt h
theorem tw_and1 {k : Bool} (h : TV T X a ss k) : TW T X (.BoolOp .And [a] pos) ss k := pw_and1 h
theorem tw_or1 {k : Bool} (h : TV T X a ss k) : TW T X (.BoolOp .Or [a] pos) ss k := pw_or1 h
theorem tw_andT {k : Bool} (h : TV T X a ss true) (g : TW T X (.BoolOp .And (b :: es) pos) ss k) : TW T X (.BoolOp .And (a :: b :: es) pos) ss k :=
  PW.imp (pw_and h g) fun σ H Q ⟨B, F, ss', d', ⟨e1, e2⟩, R, q⟩ => by
    subst e1; subst e2
    exact tv_go R fun F1 H1 n1 R1 => iteT (tv_go R1 fun F2 H2 n2 R2 => q F2 H2 (n1.trans n2) R2)
theorem tw_andF {t : TT} (h : TV T X a ss false) (g : PW X (.BoolOp .And (b :: es) pos) t) : TW T X (.BoolOp .And (a :: b :: es) pos) ss false :=
  PW.imp (pw_and h g) fun σ H Q ⟨B, F, ss', d', ⟨e1, e2⟩, R, q⟩ => by
    subst e1; subst e2
    exact tv_go R fun F1 H1 n1 R1 => iteF (q F1 H1 n1 R1)
end
end Fd

set_option Elab.async false
set_option linter.all false
set_option maxRecDepth 100000
set_option maxHeartbeats 2000000
/-! Fd2: statements, loops, comprehensions, calls of defs. -/
namespace Fd
open PySem PySem.Spec PyProof.Rows L2
/-! ### statements -/
structure Post where
  nx : SS → Prop
  rt : D → Prop
  bk : SS → Prop := fun _ => False
  ct : SS → Prop := fun _ => False
def tSv (T : List (Addr × Str)) (K : PySem.W.Frag) (Rl : SS → Post → Prop) : TS := fun Dn σ H => ∃ B F ss P, Rl ss P ∧ StR T K B F H σ ss ∧ (∀ ss' σ' F1 H1, P.nx ss' → StR T K B F1 H1 σ' ss' → Dn.nx σ' H1) ∧
  (∀ d v ss' σ' F1 H1, P.rt d → StR T K B F1 H1 σ' ss' → Is K F1 d v → Dn.rt v H1) ∧ (∀ ss' σ' F1 H1, P.bk ss' → StR T K B F1 H1 σ' ss' → Dn.bk σ' H1) ∧ (∀ ss' σ' F1 H1, P.ct ss' → StR T K B F1 H1 σ' ss' → Dn.ct σ' H1)
def SV (T : List (Addr × Str)) (X : Cx) (st : Stmt) (ss : SS) (P : Post) : Prop := PS X st (tSv T X.K fun ss' P' => ss' = ss ∧ P' = P)
def SVs (T : List (Addr × Str)) (X : Cx) (st : List Stmt) (ss : SS) (P : Post) : Prop := PSs X st (tSv T X.K fun ss' P' => ss' = ss ∧ P' = P)
section
variable {T : List (Addr × Str)} {X : Cx} {ss : SS} {P : Post} {st : Stmt} {sts rest : List Stmt} {e : Expr} {d : D} {pos : Pos}
/-- the ends of a statement from a state -/
structure Go (T : List (Addr × Str)) (K : PySem.W.Frag) (B : Hp × Hp) (P : Post) (Dn : Ends) : Prop where
  nx : ∀ ss' σ' F1 H1, P.nx ss' → StR T K B F1 H1 σ' ss' → Dn.nx σ' H1
  rt : ∀ d v ss' σ' F1 H1, P.rt d → StR T K B F1 H1 σ' ss' → Is K F1 d v → Dn.rt v H1
  bk : ∀ ss' σ' F1 H1, P.bk ss' → StR T K B F1 H1 σ' ss' → Dn.bk σ' H1
  ct : ∀ ss' σ' F1 H1, P.ct ss' → StR T K B F1 H1 σ' ss' → Dn.ct σ' H1
theorem SV.of {t : TS} (h : PS X st t) (k : ∀ B F H σ Dn, StR T X.K B F H σ ss → Go T X.K B P Dn → t Dn σ H) : SV T X st ss P :=
  PS.imp h fun Dn σ H ⟨B, F, ss', P', ⟨e1, e2⟩, R, q1, q2, q3, q4⟩ => by subst e1; subst e2; exact k B F H σ Dn R ⟨q1, q2, q3, q4⟩
theorem SVs.of {t : TS} (h : PSs X sts t) (k : ∀ B F H σ Dn, StR T X.K B F H σ ss → Go T X.K B P Dn → t Dn σ H) : SVs T X sts ss P :=
  PSs.imp h fun Dn σ H ⟨B, F, ss', P', ⟨e1, e2⟩, R, q1, q2, q3, q4⟩ => by subst e1; subst e2; exact k B F H σ Dn R ⟨q1, q2, q3, q4⟩
theorem pss_fam {Rl : SS → Post → Prop} (h : ∀ ss P, Rl ss P → SVs T X sts ss P) : PSs X sts (tSv T X.K Rl) := ⟨fun pins s σ H Dn I q => by
  obtain ⟨B, F, ss, P, r, R, q⟩ := q
  exact (h ss P r).run pins s σ H Dn I ⟨B, F, ss, P, ⟨rfl, rfl⟩, R, q⟩⟩
abbrev AllSv (T : List (Addr × Str)) (X : Cx) (sts : List Stmt) : TS := tSv T X.K fun ss P => SVs T X sts ss P
theorem pss_all : PSs X sts (AllSv T X sts) := pss_fam fun _ _ h => h
theorem sv_go {B : Hp × Hp} {F H : Hp} {σ : L2.St} {Dn : Ends} (h : SVs T X sts ss P) (R : StR T X.K B F H σ ss) (g : Go T X.K B P Dn) : AllSv T X sts Dn σ H := ⟨B, F, ss, P, h, R, g.nx, g.rt, g.bk, g.ct⟩
theorem svs_nil (h : P.nx ss) : SVs T X [] ss P := SVs.of pss_nil fun B F H σ Dn R g => g.nx _ _ _ _ h R
theorem svs_cons (h : SV T X st ss ⟨fun ss' => SVs T X rest ss' P, P.rt, P.bk, P.ct⟩) : SVs T X (st :: rest) ss P :=
  SVs.of (pss_cons h pss_all) fun B F H σ Dn R g => ⟨B, F, ss, _, ⟨rfl, rfl⟩, R, fun ss' σ' F1 H1 q R1 => sv_go q R1 g, g.rt, g.bk, g.ct⟩
theorem svs_one (h : SV T X st ss P) : SVs T X [st] ss P := SVs.of (pss_one h) fun B F H σ Dn R g => ⟨B, F, ss, P, ⟨rfl, rfl⟩, R, g.nx, g.rt, g.bk, g.ct⟩
theorem SV.post {P' : Post} (h : SV T X st ss P') (h1 : ∀ s, P'.nx s → P.nx s) (h2 : ∀ d, P'.rt d → P.rt d) (h3 : ∀ s, P'.bk s → P.bk s) (h4 : ∀ s, P'.ct s → P.ct s) : SV T X st ss P :=
  SV.of h fun B F H σ Dn R g => ⟨B, F, ss, P', ⟨rfl, rfl⟩, R, fun ss' σ' F1 H1 q => g.nx ss' σ' F1 H1 (h1 _ q), fun d v ss' σ' F1 H1 q => g.rt d v ss' σ' F1 H1 (h2 _ q), fun ss' σ' F1 H1 q => g.bk ss' σ' F1 H1 (h3 _ q), fun ss' σ' F1 H1 q => g.ct ss' σ' F1 H1 (h4 _ q)⟩
theorem SVs.post {P' : Post} (h : SVs T X sts ss P') (h1 : ∀ s, P'.nx s → P.nx s) (h2 : ∀ d, P'.rt d → P.rt d) (h3 : ∀ s, P'.bk s → P.bk s) (h4 : ∀ s, P'.ct s → P.ct s) : SVs T X sts ss P :=
  SVs.of h fun B F H σ Dn R g => ⟨B, F, ss, P', ⟨rfl, rfl⟩, R, fun ss' σ' F1 H1 q => g.nx ss' σ' F1 H1 (h1 _ q), fun d v ss' σ' F1 H1 q => g.rt d v ss' σ' F1 H1 (h2 _ q), fun ss' σ' F1 H1 q => g.bk ss' σ' F1 H1 (h3 _ q), fun ss' σ' F1 H1 q => g.ct ss' σ' F1 H1 (h4 _ q)⟩
theorem sv_pass (h : P.nx ss) : SV T X (.Pass pos) ss P := SV.of ps_pass fun B F H σ Dn R g => g.nx _ _ _ _ h R
theorem sv_break (h : P.bk ss) : SV T X (.Break pos) ss P := SV.of ps_break fun B F H σ Dn R g => g.bk _ _ _ _ h R
theorem sv_continue (h : P.ct ss) : SV T X (.Continue pos) ss P := SV.of ps_continue fun B F H σ Dn R g => g.ct _ _ _ _ h R
theorem sv_ret (h : EV T X e ss d) (k : P.rt d) : SV T X (.Return (some e) pos) ss P := SV.of (ps_ret h) fun B F H σ Dn R g => ev_go R fun v F1 H1 n1 R1 i1 => g.rt d v ss σ F1 H1 k R1 i1
theorem sv_retN (k : P.rt .non) : SV T X (.Return none pos) ss P := SV.of ps_retN fun B F H σ Dn R g => g.rt .non _ ss σ F H k R rfl
theorem sv_expr (h : EV T X e ss d) (k : P.nx ss) (hs : swapsWith e none pos.line X.env = pure false := by rfl) : SV T X (.Expr e pos) ss P := SV.of (ps_expr h hs) fun B F H σ Dn R g => ev_go R fun v F1 H1 n1 R1 i1 => g.nx ss σ F1 H1 k R1
theorem sv_if {c : Expr} {a b : List Stmt} {t : Bool} (hc : TV T X c ss t) (h1 : t = true → SVs T X a ss P) (h2 : t = false → SVs T X b ss P) : SV T X (.If c a b pos) ss P :=
  SV.of (ps_if hc pss_all pss_all) fun B F H σ Dn R g => tv_go R fun F1 H1 n1 R1 => by
    cases t with
    | true => exact iteT (sv_go (h1 rfl) R1 g)
    | false => exact iteF (sv_go (h2 rfl) R1 g)
theorem sv_set (i : Nat) {x : Str} {pos' : Pos} (he : EV T X e ss d) (k : P.nx (ss.set i (.d d))) (hN : X.N.Nodup) (hi : X.N[i]? = some x := by rfl) (hx : Loc X.env.scope x := by first | exact Or.inl rfl | exact Or.inr rfl)
    (hs : swapsWith e (some (.Name x pos')) pos.line X.env = pure false := by rfl) (hf : X.fn x = true ∨ X.env.scope.names.lookup x = some .local := by first | exact .inl rfl | exact .inr rfl | assumption) : SV T X (.Assign [.Name x pos'] e pos) ss P :=
  SV.of (ps_set hN hi hx he hs hf) fun B F H σ Dn R g => ev_go R fun v F1 H1 n1 R1 i1 => g.nx _ _ F1 H1 k (R1.put i1)
end
/-! ### lists of one's own -/
section
variable {T : List (Addr × Str)} {K : PySem.W.Frag} {B : Hp × Hp} {F H F1 H1 F2 H2 : Hp} {σ : L2.St} {ss : SS}
/-- B.2 p = none for what is new -/
theorem StR.base_none (R : StR T K B F H σ ss) {p : Addr} (h : H p = none) : Fr B.2 p := R.bH.ff h
theorem StR.base_fr (R : StR T K B F H σ ss) {p : Addr} (h : Fr H p) : Fr B.2 p := R.bH.fr h
/-- an own slot's object is no table, no code object -/
theorem StR.plain (R : StR T K B F H σ ss) {i : Nat} {s : S} {p : Addr} (h : ss[i]? = some s) (m : s.mine = true) (hσ : σ[i]? = some (some (.ref p))) : ∀ o', H p = some o' → ¬ Codey o' := by
  have q := R.slots i _ _ h hσ
  intro o' e z
  cases s with
  | own xs => obtain ⟨p, vs, e0, e1, e2, _⟩ := q; cases e0; rw [e] at e2; cases e2; rcases z with ⟨_, z⟩ | ⟨_, _, z⟩ <;> cases z
  | obj p C ns xs => obtain ⟨dx, fs, e0, e1, e2, _⟩ := q; cases e0; rw [e] at e2; cases e2; rcases z with ⟨_, z⟩ | ⟨_, _, z⟩ <;> cases z
  | dic ks xs => obtain ⟨p, kvs, e0, e1, e2, _⟩ := q; cases e0; rw [e] at e2; cases e2; rcases z with ⟨_, z⟩ | ⟨_, _, z⟩ <;> cases z
  | _ => cases m
theorem StR.free (R : StR T K B F H σ ss) {p : Addr} (h : H p = none) : F p = none := by
  cases e : F p with
  | none => rfl
  | some u => rw [R.sub p u e] at h; cases h
/-- own slots stand in the heap -/
theorem StR.mine_at (R : StR T K B F H σ ss) {i : Nat} {s : S} (h : ss[i]? = some s) (m : s.mine = true) : ∃ p, σ[i]? = some (some (.ref p)) ∧ F p = none ∧ H p ≠ none := by
  have hi : i < ss.length := (List.getElem?_eq_some_iff.mp h).1
  have hs : i < σ.length := by rw [R.len]; exact hi
  have q := R.slots i _ _ h (List.getElem?_eq_getElem hs)
  rw [List.getElem?_eq_getElem hs]
  cases s with
  | own xs => obtain ⟨p, vs, e, e1, e2, _⟩ := q; exact ⟨p, by rw [e], e1, by rw [e2]; exact fun z => nomatch z⟩
  | obj p C ns xs => obtain ⟨dx, fs, e, e1, e2, _⟩ := q; exact ⟨p, by rw [e], e1, by rw [e2]; exact fun z => nomatch z⟩
  | dic ks xs => obtain ⟨p, kvs, e, e1, e2, _⟩ := q; exact ⟨p, by rw [e], e1, by rw [e2]; exact fun z => nomatch z⟩
  | _ => cases m
/-- a change at p of the whole heap alone, p no own slot's -/
theorem StR.updH {p : Addr} {o : HO} (R : StR T K B F H σ ss) (hF : F p = none) (hB : Fr B.2 p) (hk : ∀ o', H p = some o' → ¬ Codey o') (ho : ∀ (i : Nat) (s : S), ss[i]? = some s → s.mine = true → σ[i]? ≠ some (some (.ref p))) : StR T K B F (upd H p o) σ ss where
  len := R.len
  bF := R.bF
  bH := ⟨fun q u e n => by
    by_cases z : q = p
    · subst z; exact hB.no e n
    · rw [upd_ne z]; exact R.bH.k q u e n, fun t => tabs_upd (R.bH.t t) hk⟩
  sub := fun q u e => by rw [upd_ne (ne_of_none e hF)]; exact R.sub q u e
  nt := R.nt
  tb := tabs_upd R.tb hk
  new := R.new
  slots := fun i s oo e1 e2 => by
    have q := R.slots i s oo e1 e2
    have ne : ∀ {p' : Addr}, s.mine = true → oo = some (.ref p') → p' ≠ p := fun {p'} m e z => ho i s e1 m (by rw [e2, e, z])
    cases s with
    | no => exact True.intro
    | d x => exact q
    | own xs => obtain ⟨p', vs, e, e3, e4, h⟩ := q; exact ⟨p', vs, e, e3, by rw [upd_ne (ne rfl e)]; exact e4, h⟩
    | obj p' C ns xs => obtain ⟨dx, fs, e, e3, e4, h⟩ := q; exact ⟨dx, fs, e, e3, by rw [upd_ne (ne rfl e)]; exact e4, h⟩
    | dic ks xs => obtain ⟨p', kvs, e, e3, e4, h⟩ := q; exact ⟨p', kvs, e, e3, by rw [upd_ne (ne rfl e)]; exact e4, h⟩
  own := R.own
  dis := R.dis
/-- a slot is given an object of its own -/
theorem StR.putOwn {i : Nat} {s : S} {p : Addr} (R : StR T K B F H σ ss) (m : s.mine = true) (h : SlotIs K F H s (some (.ref p))) (hB : Fr B.2 p) (ho : ∀ (j : Nat) (t : S), j ≠ i → ss[j]? = some t → t.mine = true → σ[j]? ≠ some (some (.ref p))) :
    StR T K B F H (σ.set i (some (.ref p))) (ss.set i s) where
  len := by simp [R.len]
  bF := R.bF
  bH := R.bH
  sub := R.sub
  nt := R.nt
  tb := R.tb
  new := R.new
  slots := fun j t o e1 e2 => by
    rcases set_get e1 with ⟨q, rfl⟩ | ⟨q, e1⟩
    · rcases set_get e2 with ⟨_, rfl⟩ | ⟨q2, _⟩
      · exact h
      · exact absurd q q2
    · rcases set_get e2 with ⟨q2, _⟩ | ⟨_, e2⟩
      · exact absurd q2 q
      · exact R.slots j t o e1 e2
  own := fun j t p' e1 m' e2 => by
    rcases set_get e1 with ⟨q, rfl⟩ | ⟨q, e1⟩
    · rcases set_get e2 with ⟨_, z⟩ | ⟨q2, _⟩
      · cases z; exact hB
      · exact absurd q q2
    · rcases set_get e2 with ⟨q2, _⟩ | ⟨_, e2⟩
      · exact absurd q2 q
      · exact R.own j t p' e1 m' e2
  dis := fun j k s' t p' e1 e2 m1 m2 e3 e4 => by
    rcases set_get e3 with ⟨q, z⟩ | ⟨q, e3⟩
    · cases z
      rcases set_get e4 with ⟨q', z⟩ | ⟨q', e4⟩
      · exact q.symm.trans q'
      · rcases set_get e2 with ⟨q2, _⟩ | ⟨_, e2⟩
        · exact absurd q2 q'
        · exact absurd e4 (ho k t (fun z => q' z.symm) e2 m2)
    · rcases set_get e1 with ⟨q2, _⟩ | ⟨_, e1⟩
      · exact absurd q2 q
      · rcases set_get e4 with ⟨q', z⟩ | ⟨q', e4⟩
        · cases z
          exact absurd e3 (ho j s' (fun z => q z.symm) e1 m1)
        · rcases set_get e2 with ⟨q2, _⟩ | ⟨_, e2⟩
          · exact absurd q2 q'
          · exact R.dis j k s' t p' e1 e2 m1 m2 e3 e4
/-- a fresh object laid and given to a slot -/
theorem StR.newOwn {i : Nat} {s : S} {p : Addr} {o : HO} (R : StR T K B F H σ ss) (hp : H p = none) (m : s.mine = true) (h : SlotIs K F (upd H p o) s (some (.ref p))) : StR T K B F (upd H p o) (σ.set i (some (.ref p))) (ss.set i s) := by
  have no : ∀ (j : Nat) (t : S), ss[j]? = some t → t.mine = true → σ[j]? ≠ some (some (.ref p)) := fun j t e mt z => by
    obtain ⟨p', e1, _, e3⟩ := R.mine_at e mt
    rw [z] at e1
    cases e1
    exact e3 hp
  exact (R.updH (R.free hp) (R.base_none hp) (fun o' e => by rw [hp] at e; cases e) no).putOwn m h (R.base_none hp) fun j t _ => no j t
theorem set_self {α : Type} {l : List α} {i : Nat} {a : α} (h : l[i]? = some a) : l.set i a = l := by
  apply List.ext_getElem?
  intro j
  by_cases e : i = j
  · subst e
    rw [List.getElem?_set_self (List.getElem?_eq_some_iff.mp h).1, h]
  · rw [List.getElem?_set_ne e]
/-- an own object is changed -/
theorem StR.chg {i : Nat} {s s' : S} {p : Addr} {o : HO} (R : StR T K B F H σ ss) (hs : ss[i]? = some s) (m : s.mine = true) (hσ : σ[i]? = some (some (.ref p))) (m' : s'.mine = true) (hF : F p = none) (h : SlotIs K F (upd H p o) s' (some (.ref p))) :
    StR T K B F (upd H p o) σ (ss.set i s') := by
  have hB := R.own i s p hs m hσ
  have R1 : StR T K B F H σ (ss.set i .no) := R.less hs (.inr trivial)
  have hil : i < ss.length := (List.getElem?_eq_some_iff.mp hs).1
  have no : ∀ (j : Nat) (t : S), (ss.set i .no)[j]? = some t → t.mine = true → σ[j]? ≠ some (some (.ref p)) := fun j t e mt z => by
    rcases set_get e with ⟨_, rfl⟩ | ⟨q, e⟩
    · cases mt
    · exact q (R.dis i j s t p hs e m mt hσ z)
  have R2 := (R1.updH (o := o) hF hB (R.plain hs m hσ) no).putOwn (i := i) m' h hB fun j t _ => no j t
  rw [set_self hσ, List.set_set] at R2
  exact R2
/-- what was one's own is never changed again: a datum -/
theorem StR.freeze {i : Nat} {xs : List D} (R : StR T K B F H σ ss) (h : ss[i]? = some (.own xs)) : ∃ F', Ext F F' ∧ Nx T F H F' H ∨ True := ⟨F, .inr trivial⟩
theorem StR.freezeL {i : Nat} {xs : List D} (R : StR T K B F H σ ss) (h : ss[i]? = some (.own xs)) : ∃ F', Ext F F' ∧ StR T K B F' H σ (ss.set i (.d (.lst xs))) := by
  have hi : i < ss.length := (List.getElem?_eq_some_iff.mp h).1
  have hs : i < σ.length := by rw [R.len]; exact hi
  obtain ⟨p, vs, e, e1, e2, hx⟩ := R.slots i _ _ h (List.getElem?_eq_getElem hs)
  have hσ : σ[i]? = some (some (.ref p)) := by rw [List.getElem?_eq_getElem hs, e]
  have hB := R.own i _ p h rfl hσ
  have xF : Ext F (upd F p (.lst vs)) := Ext.upd e1
  refine ⟨upd F p (.lst vs), xF, ⟨by simp [R.len], R.bF.trans xF, R.bH, fun q u z => ?_, fun q ps z => ?_, R.tb, fun q u z => ?_, fun j s o z1 z2 => ?_, fun j s q z1 m z2 => ?_, fun j k s t q z1 z2 m1 m2 z3 z4 => ?_⟩⟩
  · by_cases hq : q = p
    · subst hq; rw [upd_same] at z; rw [e2]; exact z
    · rw [upd_ne hq] at z; exact R.sub q u z
  · by_cases hq : q = p
    · subst hq; rw [upd_same] at z; cases z
    · rw [upd_ne hq] at z; exact R.nt q ps z
  · by_cases hq : q = p
    · subst hq; exact .inr hB
    · rw [upd_ne hq] at z; exact R.new q u z
  · rcases set_get z1 with ⟨q, rfl⟩ | ⟨q, z1⟩
    · subst q
      rw [hσ] at z2
      cases z2
      exact ⟨.ref p, rfl, p, vs, rfl, upd_same, IsL.mono xF _ hx⟩
    · have w := R.slots j s o z1 z2
      have ne : ∀ {p' : Addr}, s.mine = true → o = some (.ref p') → p' ≠ p := fun {p'} m e' z => q (R.dis i j _ s p h z1 rfl m hσ (by rw [z2, e', z]))
      cases s with
      | no => exact True.intro
      | d x => obtain ⟨v, w1, w2⟩ := w; exact ⟨v, w1, Is.mono xF x w2⟩
      | own ys => obtain ⟨p', us, w1, w2, w3, w4⟩ := w; exact ⟨p', us, w1, by rw [upd_ne (ne rfl w1)]; exact w2, w3, IsL.mono xF _ w4⟩
      | obj p' C ns ys => obtain ⟨dx, fs, w1, w2, w3, w4, w5⟩ := w; exact ⟨dx, fs, w1, by rw [upd_ne (ne rfl w1)]; exact w2, w3, w4, IsL.mono xF _ w5⟩
      | dic ks ys => obtain ⟨p', kvs, w1, w2, w3, w4, w5⟩ := w; exact ⟨p', kvs, w1, by rw [upd_ne (ne rfl w1)]; exact w2, w3, w4, IsL.mono xF _ w5⟩
  · rcases set_get z1 with ⟨_, rfl⟩ | ⟨_, z1⟩
    · cases m
    · exact R.own j s q z1 m z2
  · rcases set_get z1 with ⟨_, rfl⟩ | ⟨_, z1⟩
    · cases m1
    · rcases set_get z2 with ⟨_, rfl⟩ | ⟨_, z2⟩
      · cases m2
      · exact R.dis j k s t q z1 z2 m1 m2 z3 z4
theorem StR.rebase (R : StR T K B F H σ ss) : StR T K (F, B.2) F H σ ss := ⟨R.len, fun _ _ h => h, R.bH, R.sub, R.nt, R.tb, fun p o e => .inl (by show F p ≠ none; rw [e]; exact fun z => nomatch z), R.slots, R.own, R.dis⟩
theorem StR.unbase {σ' : L2.St} {ss' : SS} (R : StR T K B F H σ ss) (R' : StR T K (F, B.2) F1 H1 σ' ss') : StR T K B F1 H1 σ' ss' := ⟨R'.len, R.bF.trans R'.bF, R'.bH, R'.sub, R'.nt, R'.tb, fun p o e => by
  rcases R'.new p o e with z | z
  · cases q : F p with
    | none => exact absurd q z
    | some u => exact R.new p u q
  · exact .inr z, R'.slots, R'.own, R'.dis⟩
end
section
variable {T : List (Addr × Str)} {X : Cx} {ss : SS} {P : Post} {st : Stmt} {sts rest : List Stmt} {e : Expr} {d : D} {ds : List D} {es : List Expr} {pos : Pos}
/-- an own list is a datum from here on -/
theorem sv_freeze (i : Nat) {xs : List D} (hi : ss[i]? = some (.own xs)) (h : SV T X st (ss.set i (.d (.lst xs))) P) : SV T X st ss P :=
  SV.of h fun B F H σ Dn R g => let ⟨F', _, R'⟩ := R.freezeL hi; ⟨B, F', _, P, ⟨rfl, rfl⟩, R', g.nx, g.rt, g.bk, g.ct⟩
theorem svs_freeze (i : Nat) {xs : List D} (hi : ss[i]? = some (.own xs)) (h : SVs T X sts (ss.set i (.d (.lst xs))) P) : SVs T X sts ss P :=
  SVs.of h fun B F H σ Dn R g => let ⟨F', _, R'⟩ := R.freezeL hi; ⟨B, F', _, P, ⟨rfl, rfl⟩, R', g.nx, g.rt, g.bk, g.ct⟩
/-- x = [..]: a list of one's own -/
theorem sv_setOwn (i : Nat) {x : Str} {pos' pl : Pos} (he : EVs T X es ss ds) (k : P.nx (ss.set i (.own ds))) (hN : X.N.Nodup) (hl : ds.length ≤ 100000 := by exact Nat.le_of_ble_eq_true rfl) (hi : X.N[i]? = some x := by rfl) (hx : Loc X.env.scope x := by first | exact Or.inl rfl | exact Or.inr rfl)
    (hs : swapsWith (.List es pl) (some (.Name x pos')) pos.line X.env = pure false := by rfl) (hf : X.fn x = true ∨ X.env.scope.names.lookup x = some .local := by first | exact .inl rfl | exact .inr rfl | assumption) :
    SV T X (.Assign [.Name x pos'] (.List es pl) pos) ss P :=
  SV.of (ps_set hN hi hx (pe_lst he) hs hf) fun B F H σ Dn R g => evs_go R fun vs F1 H1 n1 R1 i1 => ⟨by rw [i1.length]; exact small_len hl, fun p hp =>
    g.nx _ _ _ _ k (R1.newOwn hp rfl ⟨p, vs, rfl, R1.free hp, upd_same, i1⟩)⟩
/-- x.append(e) -/
theorem sv_append (i : Nat) {xs : List D} {x : Str} {px ap cp : Pos} (hx : ss[i]? = some (.own xs)) (he : EV T X e ss d) (k : P.nx (ss.set i (.own (xs ++ [d])))) (hl : xs.length ≤ 100000)
    (hp : ∀ {te : TE}, PE X e te → PE X (.Call (.Attribute (.Name x px) "append" ap) [e] [] cp) (tBM X.K "list" rAppend (tVar i) (tCons te tNil)) := by
      intro te h; exact pe_bm PySem.F.plainAttrs_list PySem.F.slot_list_append PySem.F.type_list_append mt_append (pv _) (pa_cons h pa_nil))
    (hs : swapsWith (.Call (.Attribute (.Name x px) "append" ap) [e] [] cp) none pos.line X.env = pure false := by rfl) :
    SV T X (.Expr (.Call (.Attribute (.Name x px) "append" ap) [e] [] cp) pos) ss P := by
  refine SV.of (ps_expr (hp he) hs) fun B F H σ Dn R g => ?_
  have hi : i < ss.length := (List.getElem?_eq_some_iff.mp hx).1
  have hsl : i < σ.length := by rw [R.len]; exact hi
  obtain ⟨p, vs, e1, e2, e3, e4⟩ := R.slots i _ _ hx (List.getElem?_eq_getElem hsl)
  have hσ : σ[i]? = some (some (.ref p)) := by rw [List.getElem?_eq_getElem hsl, e1]
  refine ⟨.ref p, hσ, .inl ⟨rfl, vs, SqL.of e3⟩, ev_go R fun v F1 H1 n1 R1 i1 => ?_⟩
  obtain ⟨p', vs', q1, q2, q3, q4⟩ := R1.slots i _ _ hx (List.getElem?_eq_getElem hsl)
  rw [q1] at e1
  cases e1
  refine ⟨p, _, v, rfl, rfl, q3, ?_, g.nx _ _ _ _ k (R1.chg hx rfl hσ rfl q2 ⟨p, _, rfl, q2, upd_same, q4.snoc i1⟩)⟩
  rw [q4.length, sizeLine_eq]; omega
end
end Fd

set_option Elab.async false
set_option linter.all false
set_option maxRecDepth 100000
set_option maxHeartbeats 2000000
/-! Fd3: loops, comprehensions, calls of defs. -/
namespace Fd
open PySem PySem.Spec PyProof.Rows L2
/-! ### what is walked -/
/-- J yields the data xs, one after another; it may lay new objects -/
structure Yl (T : List (Addr × Str)) (K : PySem.W.Frag) (J : It) (F1 : Hp) (xs : List D) : Prop where
  item : ∀ (i : Nat) (F H : Hp), Ext F1 F → Ext F H → i < xs.length → J.go i H ∧ ∀ x H', J.yld i H x H' → ∃ F' d, Nx T F H F' H' ∧ xs[i]? = some d ∧ Is K F' d x
  stop : ∀ (F H : Hp), Ext F1 F → Ext F H → J.stop xs.length H
def tIv (T : List (Addr × Str)) (K : PySem.W.Frag) (ss : SS) (xs : List D) : TI := fun σ H R => ∃ B F, StR T K B F H σ ss ∧ ∀ J F1 H1, Nx T F H F1 H1 → StR T K B F1 H1 σ ss → Yl T K J F1 xs → R J H1
def IV (T : List (Addr × Str)) (X : Cx) (tg e : Expr) (ss : SS) (xs : List D) : Prop := PI X tg e (tIv T X.K ss xs)
section
variable {T : List (Addr × Str)} {X : Cx} {ss : SS} {tg e : Expr} {xs : List D} {d : D}
theorem PI.imp {t t' : TI} (h : PI X tg e t) (k : ∀ σ H R, t' σ H R → t σ H R) : PI X tg e t' := ⟨fun pins s σ H R I q => h.run pins s σ H R I (k σ H R q)⟩
theorem IV.of {t : TI} (h : PI X tg e t) (k : ∀ B F H σ R, StR T X.K B F H σ ss → (∀ J F1 H1, Nx T F H F1 H1 → StR T X.K B F1 H1 σ ss → Yl T X.K J F1 xs → R J H1) → t σ H R) : IV T X tg e ss xs :=
  PI.imp h fun σ H R ⟨B, F, R0, q⟩ => k B F H σ R R0 q
theorem iv_list (he : EV T X e ss (.lst xs)) : IV T X tg e ss xs := IV.of (pi_list he) fun B F H σ R R0 q => ev_go R0 fun v F1 H1 n1 R1 i1 => by
  obtain ⟨a, vs, rfl, e2, e3⟩ := i1
  refine ⟨a, rfl, ⟨vs, SqL.of (R1.sub _ _ e2)⟩, q _ F1 H1 n1 R1 ⟨fun i F H x1 x2 hi => ?_, fun F H x1 x2 => ⟨vs, SqL.of (x2 _ _ (x1 _ _ e2)), by rw [e3.length]; exact Nat.le_refl _⟩⟩⟩
  obtain ⟨v, hv, iv⟩ := IsL.get' e3 (List.getElem?_eq_getElem hi)
  refine ⟨⟨vs, v, SqL.of (x2 _ _ (x1 _ _ e2)), hv⟩, fun x H' y => ?_⟩
  obtain ⟨rfl, y⟩ := y
  have := y vs (SqL.of (x2 _ _ (x1 _ _ e2)))
  rw [hv] at this
  cases this
  exact ⟨F, _, Nx.refl x2, List.getElem?_eq_getElem hi, Is.mono x1 _ iv⟩
theorem iv_rdl (he : EV T X e ss (.rdl xs)) : IV T X tg e ss xs := IV.of (pi_list he) fun B F H σ R R0 q => ev_go R0 fun v F1 H1 n1 R1 i1 => by
  obtain ⟨a, vs, rfl, e2, e3⟩ := i1
  refine ⟨a, rfl, ⟨vs, ext_seqL R1.sub e2⟩, q _ F1 H1 n1 R1 ⟨fun i F H x1 x2 hi => ?_, fun F H x1 x2 => ⟨vs, ext_seqL (x1.trans x2) e2, by rw [e3.length]; exact Nat.le_refl _⟩⟩⟩
  obtain ⟨v, hv, iv⟩ := IsL.get' e3 (List.getElem?_eq_getElem hi)
  refine ⟨⟨vs, v, ext_seqL (x1.trans x2) e2, hv⟩, fun x H' y => ?_⟩
  obtain ⟨rfl, y⟩ := y
  have := y vs (ext_seqL (x1.trans x2) e2)
  rw [hv] at this
  cases this
  exact ⟨F, _, Nx.refl x2, List.getElem?_eq_getElem hi, Is.mono x1 _ iv⟩
theorem iv_tup (he : EV T X e ss (.tup xs)) : IV T X tg e ss xs := IV.of (pi_tup he) fun B F H σ R R0 q => ev_go R0 fun v F1 H1 n1 R1 i1 => by
  obtain ⟨a, vs, rfl, e2, e3⟩ := i1
  refine ⟨a, rfl, ⟨vs, ext_seqT R1.sub e2⟩, q _ F1 H1 n1 R1 ⟨fun i F H x1 x2 hi => ?_, fun F H x1 x2 => ⟨vs, ext_seqT (x1.trans x2) e2, by rw [e3.length]; exact Nat.le_refl _⟩⟩⟩
  obtain ⟨v, hv, iv⟩ := IsL.get' e3 (List.getElem?_eq_getElem hi)
  refine ⟨⟨vs, v, ext_seqT (x1.trans x2) e2, hv⟩, fun x H' y => ?_⟩
  obtain ⟨rfl, y⟩ := y
  have := y vs (ext_seqT (x1.trans x2) e2)
  rw [hv] at this
  cases this
  exact ⟨F, _, Nx.refl x2, List.getElem?_eq_getElem hi, Is.mono x1 _ iv⟩
/-- lo, lo + 1, .. -/
def rng (lo : Int) (n : Nat) : List D := (List.range n).map fun (i : Nat) => D.int (lo + (i : Int))
theorem rng_len (lo : Int) (n : Nat) : (rng lo n).length = n := by simp [rng]
theorem rng_get {lo : Int} {n i : Nat} (h : i < n) : (rng lo n)[i]? = some (.int (lo + (i : Int))) := by
  unfold rng
  rw [List.getElem?_map, List.getElem?_range h]
  rfl
theorem yl_range (K : PySem.W.Frag) (F1 : Hp) (lo : Int) (n : Nat) : Yl T K (Itr lo n) F1 (rng lo n) := by
  refine ⟨fun i F H x1 x2 hi => ?_, fun F H x1 x2 => by show n ≤ _; rw [rng_len]; exact Nat.le_refl _⟩
  rw [rng_len] at hi
  refine ⟨hi, fun x H' y => ?_⟩
  obtain ⟨rfl, rfl⟩ := y
  exact ⟨F, _, Nx.refl x2, rng_get hi, rfl⟩
theorem iv_range1 {a : Expr} {n : Int} {p pos : Pos} (ha : EV T X a ss (.int n)) (hb : -(2 ^ 62) ≤ n ∧ n < 2 ^ 62) (hm : X.mg "range" = none) (hg : Gl X "range" := by rfl) (hs : starEach [a] X.env = [(false, eval a X.env)] := by rfl) :
    IV T X tg (.Call (.Name "range" p) [a] [] pos) ss (rng 0 n.toNat) :=
  IV.of (pi_range1 hg hm (pa_cons ha pa_nil hs) hs) fun B F H σ R R0 q => ev_go R0 fun v F1 H1 n1 R1 i1 => ⟨n, by cases i1; rfl, hb.1, hb.2, q _ F1 H1 n1 R1 (yl_range _ _ _ _)⟩
theorem iv_range2 {a b : Expr} {m n : Int} {p pos : Pos} (ha : EV T X a ss (.int m)) (hb' : EV T X b ss (.int n)) (hb : -(2 ^ 62) ≤ m ∧ m < 2 ^ 62 ∧ -(2 ^ 62) ≤ n ∧ n < 2 ^ 62) (hm : X.mg "range" = none) (hg : Gl X "range" := by rfl)
    (hs : starEach [a, b] X.env = [(false, eval a X.env), (false, eval b X.env)] := by rfl) (hs2 : starEach [b] X.env = [(false, eval b X.env)] := by rfl) :
    IV T X tg (.Call (.Name "range" p) [a, b] [] pos) ss (rng m (n - m).toNat) :=
  IV.of (pi_range2 hg hm (pa_cons ha (pa_cons hb' pa_nil hs2) (by rw [hs, hs2])) hs hs2) fun B F H σ R R0 q => ev_go R0 fun v F1 H1 n1 R1 i1 => ev_go R1 fun u F2 H2 n2 R2 i2 =>
    ⟨m, n, by cases i1; cases i2; rfl, hb, q _ F2 H2 (n1.trans n2) R2 (yl_range _ _ _ _)⟩
/-- a text's signs -/
def signs (x : Str) : List D := x.cps.toList.map fun c => .str ⟨#[c]⟩
theorem iv_str {x : Str} (he : EV T X e ss (.str x)) : IV T X tg e ss (signs x) := IV.of (pi_str he) fun B F H σ R R0 q => ev_go R0 fun v F1 H1 n1 R1 i1 => by
  refine ⟨x, i1, q _ F1 H1 n1 R1 ⟨fun i F H x1 x2 hi => ?_, fun F H x1 x2 => by show _ ≤ _; simp [signs]⟩⟩
  have hi' : i < x.cps.size := by simpa [signs] using hi
  refine ⟨hi', fun y H' z => ?_⟩
  obtain ⟨rfl, c, hc, rfl⟩ := z
  refine ⟨F, .str ⟨#[c]⟩, Nx.refl x2, ?_, rfl⟩
  unfold signs
  rw [List.getElem?_map, Array.getElem?_toList, hc]
  rfl
/-! ### targets -/
inductive Tg where
  | one (j : Nat)
  | many (js : List Nat)
def gNames : List Nat → TGs
  | [] => gNil
  | j :: js => gCons (gName j) (gNames js)
def gOf (K : PySem.W.Frag) : Tg → TG
  | .one j => gName j
  | .many js => gTup K js.length (gNames js)
def putMany : List Nat → List D → SS → SS
  | j :: js, x :: xs, ss => putMany js xs (ss.set j (.d x))
  | _, _, ss => ss
def Tg.put : Tg → D → SS → SS
  | .one j, x, ss => ss.set j (.d x)
  | .many js, .tup xs, ss => putMany js xs ss
  | _, _, ss => ss
def Tg.fits : Tg → D → Bool
  | .one _, _ => true
  | .many js, .tup xs => js.length == xs.length
  | _, _ => false
def Tg.slots : Tg → List Nat
  | .one j => [j]
  | .many js => js
end
section
theorem wipe_get (σ : L2.St) (i : Nat) : ∀ vs : List Nat, (wipe σ vs)[i]? = if i ∈ vs then (σ[i]?).map fun _ => none else σ[i]?
  | [] => by simp [wipe]
  | v :: vs => by
    have ih := wipe_get σ i vs
    unfold wipe
    by_cases e : v = i
    · subst e
      rw [if_pos List.mem_cons_self]
      by_cases h : v < (wipe σ vs).length
      · rw [List.getElem?_set_self h]
        rw [wipe_length] at h
        rw [List.getElem?_eq_getElem h]
        rfl
      · rw [List.getElem?_eq_none (by simpa using h)]
        rw [wipe_length] at h
        rw [List.getElem?_eq_none (by omega)]
        rfl
    · rw [List.getElem?_set_ne e, ih]
      by_cases h : i ∈ vs
      · rw [if_pos h, if_pos (List.mem_cons_of_mem _ h)]
      · rw [if_neg h, if_neg (by simp only [List.mem_cons, not_or]; exact ⟨fun z => e z.symm, h⟩)]
theorem wipe_set {σ : L2.St} {vs : List Nat} {j : Nat} {o : Option V} (h : j ∈ vs) : wipe (σ.set j o) vs = wipe σ vs := by
  apply List.ext_getElem?
  intro i
  rw [wipe_get, wipe_get]
  by_cases e : j = i
  · subst e
    rw [if_pos h, if_pos h]
    by_cases hl : j < σ.length
    · rw [List.getElem?_set_self hl, List.getElem?_eq_getElem hl]; rfl
    · rw [List.getElem?_eq_none (by simpa using hl), List.getElem?_eq_none (by simpa using hl)]
  · rw [List.getElem?_set_ne e]
theorem wipe_wipe {σ : L2.St} {vs : List Nat} : wipe (wipe σ vs) vs = wipe σ vs := by
  apply List.ext_getElem?
  intro i
  rw [wipe_get, wipe_get]
  split
  · rename_i h
    cases σ[i]? <;> rfl
  · rfl
/-- the same of what is known -/
def wipeS (ss : SS) : List Nat → SS
  | [] => ss
  | v :: vs => (wipeS ss vs).set v .no
variable {T : List (Addr × Str)} {K : PySem.W.Frag} {B : Hp × Hp} {F H F1 H1 F2 H2 : Hp} {σ : L2.St} {ss : SS}
theorem StR.wipe (R : StR T K B F H σ ss) : ∀ vs : List Nat, StR T K B F H (L2.wipe σ vs) (wipeS ss vs)
  | [] => R
  | v :: vs => (StR.wipe R vs).forget
theorem names_go : ∀ {js : List Nat} {xs : List D} {vs : List V} {σ : L2.St} {ss : SS} {Q : L2.St → Hp → Prop} {ws : List Nat}, StR T K B F H σ ss → IsL K F xs vs → js.length = xs.length → (∀ j ∈ js, j ∈ ws ∨ ws = []) →
    (∀ σ', StR T K B F H σ' (putMany js xs ss) → (ws ≠ [] → L2.wipe σ' ws = L2.wipe σ ws) → Q σ' H) → gNames js vs σ H Q
  | [], [], _, σ, ss, Q, ws, R, h, _, _, k => by
    cases (show _ = _ from h)
    exact ⟨rfl, k σ R fun _ => rfl⟩
  | j :: js, x :: xs, _, σ, ss, Q, ws, R, h, hl, hw, k => by
    obtain ⟨v, r, rfl, h1, h2⟩ := h
    refine ⟨v, r, rfl, ?_⟩
    show gNames js r (σ.set j (some v)) H Q
    refine names_go (ws := ws) (R.put h1) h2 (by simpa using hl) (fun i hi => hw i (List.mem_cons_of_mem _ hi)) fun σ' R' e => k σ' R' fun hne => ?_
    rw [e hne]
    rcases hw j List.mem_cons_self with q | q
    · exact wipe_set q
    · exact absurd q hne
theorem tg_go {t : Tg} {d : D} {v : V} {Q : L2.St → Hp → Prop} {ws : List Nat} (R : StR T K B F H σ ss) (h : Is K F d v) (hf : t.fits d = true) (hw : ∀ j ∈ t.slots, j ∈ ws ∨ ws = []) (k : ∀ σ', StR T K B F H σ' (t.put d ss) → (ws ≠ [] → L2.wipe σ' ws = L2.wipe σ ws) → Q σ' H) : gOf K t v σ H Q := by
  cases t with
  | one j => exact k _ (R.put h) fun hne => (hw j List.mem_cons_self).elim (fun q => wipe_set q) fun q => absurd q hne
  | many js =>
    cases d with
    | tup xs =>
      obtain ⟨a, vs, rfl, e1, e2⟩ := h
      have hl : js.length = xs.length := by simpa [Tg.fits] using hf
      exact ⟨a, vs, rfl, ext_seqT R.sub e1, by rw [e2.length, hl], names_go R e2 hl hw k⟩
    | _ => cases hf
end
/-! ### loops -/
section
variable {T : List (Addr × Str)} {X : Cx} {ss : SS} {P : Post} {tg e c : Expr} {body : List Stmt} {xs : List D} {d : D} {pos : Pos}
theorem sv_for (t : Tg) (I : Nat → SS → Prop) (hi : IV T X tg e ss xs) (hg : PG X tg (gOf X.K t)) (h0 : I 0 ss)
    (hs : ∀ i x ss', xs[i]? = some x → I i ss' → t.fits x = true ∧ SVs T X body (t.put x ss') ⟨I (i + 1), P.rt, P.nx, I (i + 1)⟩)
    (hd : ∀ ss', I xs.length ss' → P.nx ss') (hp : PassesOwn (model X.prog X.w) X.A X.env X.xe := by exact PassesOwn.never) (hc : X.calm = true := by rfl) (hf : ∀ x, foldedSetIterable e X.env x = pure x := by intro _; rfl) : SV T X (.For tg e body [] pos) ss P := by
  refine SV.of (ps_for hp hc hi hg (pss_all (T := T) (sts := body)) hf) fun B F H σ Dn R g => ⟨B, F, R, fun J F1 H1 n1 R1 Y => ?_⟩
  refine ⟨fun i m σ' H' => m = xs.length - i ∧ i ≤ xs.length ∧ ∃ F' ss', StR T X.K (F1, B.2) F' H' σ' ss' ∧ I i ss', ⟨xs.length, by simp, Nat.zero_le _, F1, ss, R1.rebase, h0⟩, ?_⟩
  rintro i m σ' H' ⟨rfl, hi', F', ss', R', hI⟩
  by_cases hlt : i < xs.length
  · obtain ⟨go, yl⟩ := Y.item i F' H' R'.bF R'.sub hlt
    refine .inr ⟨go, fun σ2 H2 => ∃ F2 ss2, StR T X.K (F1, B.2) F2 H2 σ2 ss2 ∧ I (i + 1) ss2, fun σ2 H2 ⟨F2, ss2, R2, h2⟩ => ⟨xs.length - (i + 1), by omega, rfl, hlt, F2, ss2, R2, h2⟩, fun v H2 y => ?_⟩
    obtain ⟨F2, x, n2, hx, ix⟩ := yl v H2 y
    obtain ⟨hfit, hbody⟩ := hs i x ss' hx hI
    refine tg_go (ws := []) (R'.grow n2) ix hfit (fun j _ => .inr rfl) fun σ3 R3 _ => ?_
    exact sv_go hbody R3 ⟨fun ss4 σ4 F4 H4 q R4 => ⟨F4, ss4, R4, q⟩, fun d v ss4 σ4 F4 H4 q R4 i4 => g.rt d v ss4 σ4 F4 H4 q (R1.unbase R4) i4, fun ss4 σ4 F4 H4 q R4 => g.nx ss4 σ4 F4 H4 q (R1.unbase R4), fun ss4 σ4 F4 H4 q R4 => ⟨F4, ss4, R4, q⟩⟩
  · have e : i = xs.length := by omega
    subst e
    exact .inl ⟨Y.stop F' H' R'.bF R'.sub, g.nx ss' σ' F' H' (hd ss' hI) (R1.unbase R')⟩
theorem sv_while (I : SS → Prop) (μ : SS → Nat) (h0 : I ss) (hs : ∀ ss', I ss' → ∃ b, TV T X c ss' b ∧ (b = true → SVs T X body ss' ⟨fun s2 => I s2 ∧ μ s2 < μ ss', P.rt, P.nx, fun s2 => I s2 ∧ μ s2 < μ ss'⟩) ∧ (b = false → P.nx ss'))
    (hp : PassesOwn (model X.prog X.w) X.A X.env X.xe := by exact PassesOwn.never) : SV T X (.While c body [] pos) ss P := by
  have hc : PT X c (tTv T X.K fun ss' b => TV T X c ss' b) := pt_fam fun ss' b h => h
  refine SV.of (ps_while hp hc (pss_all (T := T) (sts := body))) fun B F H σ Dn R g => ⟨fun m σ' H' => ∃ F' ss', StR T X.K B F' H' σ' ss' ∧ I ss' ∧ m = μ ss', ⟨_, F, ss, R, h0, rfl⟩, ?_⟩
  rintro m σ' H' ⟨F', ss', R', hI, rfl⟩
  obtain ⟨b, tv, ht, hf⟩ := hs ss' hI
  refine ⟨B, F', ss', b, tv, R', fun F1 H1 n1 R1 => ?_⟩
  cases b with
  | true =>
    refine iteT ⟨fun σ2 H2 => ∃ F2 ss2, StR T X.K B F2 H2 σ2 ss2 ∧ I ss2 ∧ μ ss2 < μ ss', fun σ2 H2 ⟨F2, ss2, R2, h2, l2⟩ => ⟨μ ss2, l2, F2, ss2, R2, h2, rfl⟩, ?_⟩
    exact sv_go (ht rfl) R1 ⟨fun ss4 σ4 F4 H4 q R4 => ⟨F4, ss4, R4, q⟩, g.rt, g.nx, fun ss4 σ4 F4 H4 q R4 => ⟨F4, ss4, R4, q⟩⟩
  | false => exact iteF (g.nx _ _ _ _ (hf rfl) R1)
end
/-! ### comprehensions -/
section
variable {T : List (Addr × Str)} {X : Cx} {ss : SS} {tg e elt : Expr} {ifs : List Expr} {xs : List D} {pos : Pos}
def TsV (T : List (Addr × Str)) (X : Cx) (ifs : List Expr) (ss : SS) (b : Bool) : Prop := PTs X ifs (tTv T X.K fun ss' b' => ss' = ss ∧ b' = b)
theorem PTs.imp {t t' : TT} (h : PTs X ifs t) (k : ∀ σ H Q, t' σ H Q → t σ H Q) : PTs X ifs t' := ⟨fun pins s σ H Q I q => h.run pins s σ H Q I (k σ H Q q)⟩
theorem ts_nil : TsV T X [] ss true := PTs.imp pts_nil fun σ H Q ⟨B, F, ss', b', ⟨e1, e2⟩, R, q⟩ => by subst e1; subst e2; exact q F H R.nx R
theorem ts_one {c : Expr} {b : Bool} (h : TV T X c ss b) : TsV T X [c] ss b := pts_one h
theorem pts_fam {Rl : SS → Bool → Prop} (h : ∀ ss d, Rl ss d → TsV T X ifs ss d) : PTs X ifs (tTv T X.K Rl) := ⟨fun pins s σ H Q I q => by
  obtain ⟨B, F, ss, d, r, R, k⟩ := q
  exact (h ss d r).run pins s σ H Q I ⟨B, F, ss, d, ⟨rfl, rfl⟩, R, k⟩⟩
/-- what the block's items give: keep x, then f x -/
def outs (keep : D → Bool) (f : D → D) (xs : List D) : List D := (xs.filter keep).map f
theorem outs_take {keep : D → Bool} {f : D → D} {xs : List D} {i : Nat} {x : D} (h : xs[i]? = some x) : outs keep f (xs.take (i + 1)) = if keep x = true then outs keep f (xs.take i) ++ [f x] else outs keep f (xs.take i) := by
  have e : xs.take (i + 1) = xs.take i ++ [x] := by
    rw [List.take_succ, h]; rfl
  unfold outs
  rw [e, List.filter_append, List.map_append]
  by_cases hk : keep x = true
  · rw [if_pos hk, List.filter_cons, if_pos hk]; rfl
  · rw [if_neg hk, List.filter_cons, if_neg hk]
    simp
theorem outs_len (keep : D → Bool) (f : D → D) (xs : List D) : (outs keep f xs).length ≤ xs.length := by
  unfold outs
  rw [List.length_map]
  exact List.length_filter_le _ _
/-- the reading's proof, for the value and for the store -/
theorem lc_go {K : PySem.W.Frag} {B : Hp × Hp} {F H : Hp} {σ : L2.St} {vs : List Nat} {t : Tg} {keep : D → Bool} {f : D → D} {Q : VK} (hv : vs ≠ []) (ht : ∀ j ∈ t.slots, j ∈ vs) (hfit : ∀ x ∈ xs, t.fits x = true) (hlen : xs.length ≤ 100000) (R : StR T K B F H σ ss)
    (q : ∀ D vs' F1 H1, Nx T F H F1 H1 → StR T K B F1 H1 σ ss → F1 D = none → Fr B.2 D → Fr H D → H1 D = some (.lst vs') → IsL K F1 (outs keep f xs) vs' → Q (.ref D) H1) :
    tLc (tIv T K ss xs) (gOf K t) (tTv T K fun ss' b => ∃ x ∈ xs, ss' = t.put x (wipeS ss vs) ∧ b = keep x) (tEv T K fun ss' d => ∃ x ∈ xs, keep x = true ∧ ss' = t.put x (wipeS ss vs) ∧ d = f x) vs σ H Q := by
  refine ⟨B, F, R, fun J F1 H1 n1 R1 Y D hD => ?_⟩
  have HD : Fr H D := n1.h.ff hD
  refine ⟨fun i m H' => m = xs.length - i ∧ i ≤ xs.length ∧ ∃ F' acc, Nx T F1 H1 F' H' ∧ F' D = none ∧ H' D = some (.lst acc) ∧ IsL K F' (outs keep f (xs.take i)) acc, ⟨xs.length, by simp, Nat.zero_le _, F1, [], Nx.allocH R1.sub hD, R1.free hD, upd_same, by simp [outs]; exact rfl⟩, ?_⟩
  rintro i m H' ⟨rfl, hi', F', acc, n2, fD, eD, hacc⟩
  by_cases hlt : i < xs.length
  · obtain ⟨go, yl⟩ := Y.item i F' H' n2.f n2.s hlt
    refine .inr ⟨go, fun H2 => ∃ F2 acc', Nx T F1 H1 F2 H2 ∧ F2 D = none ∧ H2 D = some (.lst acc') ∧ IsL K F2 (outs keep f (xs.take (i + 1))) acc', fun H2 ⟨F2, acc', h⟩ => ⟨xs.length - (i + 1), by omega, rfl, hlt, F2, acc', h⟩, fun v H2 y => ?_⟩
    obtain ⟨F2, x, n3, hx, ix⟩ := yl v H2 y
    have hmem : x ∈ xs := List.mem_of_getElem? hx
    have noD : ∀ {Fa Ha Fb Hb : Hp}, Nx T Fa Ha Fb Hb → Fa D = none → ∀ {o : HO}, Ha D = some o → (∀ ps, o ≠ .tbl ps) → Fb D = none := fun {Fa Ha Fb Hb} n e1 o e2 e3 => by
      cases e : Fb D with
      | none => rfl
      | some u =>
        rcases n.n D u e with z | z
        · exact absurd e1 z
        · exact z.no e2 e3
    have fD2 : F2 D = none := noD n3 fD eD (fun _ z => nomatch z)
    have n12 := n2.trans n3
    have eD2 := n3.h.k _ _ eD (fun _ z => nomatch z)
    have R2 : StR T K B F2 H2 (L2.wipe σ vs) (wipeS ss vs) := (R1.wipe vs).grow n12
    refine tg_go (ws := vs) R2 ix (hfit x hmem) (fun j hj => .inl (ht j hj)) fun σ3 R3 hw => ⟨by rw [hw hv, wipe_wipe], ?_⟩
    refine ⟨B, F2, _, keep x, ⟨x, hmem, rfl, rfl⟩, R3, fun F3 H3 n4 R4 => ?_⟩
    have fD3 : F3 D = none := noD n4 fD2 eD2 (fun _ z => nomatch z)
    have eD3 := n4.h.k _ _ eD2 (fun _ z => nomatch z)
    have n13 := n12.trans n4
    have hacc3 := IsL.mono (n3.f.trans n4.f) _ hacc
    cases hk : keep x with
    | true =>
      refine iteT ⟨B, F3, _, f x, ⟨x, hmem, hk, rfl, rfl⟩, R4, fun w F4 H4 n5 R5 i5 => ?_⟩
      have fD4 : F4 D = none := noD n5 fD3 eD3 (fun _ z => nomatch z)
      have n14 := n13.trans n5
      refine ⟨acc, n5.h.k _ _ eD3 (fun _ z => nomatch z), ?_, F4, acc ++ [w], ⟨n14.f, ⟨fun p o e nn => ?_, fun t => tabs_upd (n14.h.t t) fun o' e z => ?_⟩, fun p o e => ?_, n14.nt, fun p o e => n14.n p o e⟩, fD4, upd_same, ?_⟩
      · have := hacc.length
        have h2 := outs_len keep f (xs.take i)
        rw [List.length_take] at h2
        rw [sizeLine_eq]; omega
      · rw [upd_ne (ne_of_none e hD)]; exact n14.h.k p o e nn
      · rw [n5.h.k _ _ eD3 (fun _ z => nomatch z)] at e
        cases e
        rcases z with ⟨_, z⟩ | ⟨_, _, z⟩ <;> cases z
      · rw [upd_ne (ne_of_none e fD4)]; exact n14.s p o e
      · rw [outs_take hx, if_pos hk]
        exact (IsL.mono n5.f _ hacc3).snoc i5
    | false =>
      refine iteF ⟨F3, acc, n13, fD3, eD3, ?_⟩
      rw [outs_take hx, if_neg (by rw [hk]; decide)]
      exact hacc3
  · have e : i = xs.length := by omega
    subst e
    refine .inl ⟨Y.stop F' H' n2.f n2.s, q D acc F' H' (n1.trans n2) (R1.grow n2) fD ?_ HD eD ?_⟩
    · exact R.base_fr HD
    · rw [List.take_length] at hacc
      exact hacc
theorem Nx.told {F H F1 H1 : Hp} {D : Addr} {o : HO} (n : Nx T F H F1 H1) (h1 : F1 D = none) (h2 : Fr H D) (h3 : H1 D = some o) (ho : ∀ ps, o ≠ .tbl ps := by intro ps z; cases z) : Nx T F H (upd F1 D o) H1 where
  f := n.f.trans (Ext.upd h1)
  h := n.h
  s := fun p u e => by
    by_cases q : p = D
    · subst q; rw [upd_same] at e; rw [h3]; exact e
    · rw [upd_ne q] at e; exact n.s p u e
  nt := fun p ps e => by
    by_cases q : p = D
    · subst q; rw [upd_same] at e; exact absurd (Option.some.inj e) (ho ps)
    · rw [upd_ne q] at e; exact n.nt p ps e
  n := fun p u e => by
    by_cases q : p = D
    · subst q; exact .inr h2
    · rw [upd_ne q] at e; exact n.n p u e
/-- [elt for target in iter if ..] -/
theorem ev_lc {scope : Scope} (own : List (Str × Nat)) (t : Tg) (keep : D → Bool) (f : D → D) (hi : IV T X tg e ss xs) (ok : BlkOk X.N X.env.scope scope own)
    (hg : ∀ (s : Shared) (H : Hp) (C : Addr) (cl : List (Str × Addr)) (fp : List Addr), PG (X.blk s H scope (compEnvC scope cl C X.env) fp) tg (gOf X.K t))
    (ht : ∀ (s : Shared) (H : Hp) (C : Addr) (cl : List (Str × Addr)) (fp : List Addr) x, x ∈ xs → TsV T (X.blk s H scope (compEnvC scope cl C X.env) fp) ifs (t.put x (wipeS ss (own.map (·.2)))) (keep x))
    (he : ∀ (s : Shared) (H : Hp) (C : Addr) (cl : List (Str × Addr)) (fp : List Addr) x, x ∈ xs → keep x = true → EV T (X.blk s H scope (compEnvC scope cl C X.env) fp) elt (t.put x (wipeS ss (own.map (·.2)))) (f x))
    (hN : X.N.Nodup) (hfit : ∀ x ∈ xs, t.fits x = true) (hlen : xs.length ≤ 100000) (hv : own.map (·.2) ≠ [] := by decide) (hsl : ∀ j ∈ t.slots, j ∈ own.map (·.2) := by decide) (hc : X.calm = true := by rfl) (hs : ∀ x, foldedSetIterable e X.env x = pure x := by intro _; rfl) :
    EV T X (.ListComp elt [⟨tg, e, ifs, 0⟩] scope pos) ss (.lst (outs keep f xs)) := by
  refine EV.of (pe_lc (tt := tTv T X.K fun ss' b => ∃ x ∈ xs, ss' = t.put x (wipeS ss (own.map (·.2))) ∧ b = keep x) (te := tEv T X.K fun ss' d => ∃ x ∈ xs, keep x = true ∧ ss' = t.put x (wipeS ss (own.map (·.2))) ∧ d = f x) hc hN hi ok hg (fun s H C cl fp => pts_fam (X := X.blk s H scope (compEnvC scope cl C X.env) fp) (Rl := fun ss' b => ∃ x ∈ xs, ss' = t.put x (wipeS ss (own.map (·.2))) ∧ b = keep x) fun ss' b ⟨x, hx, e1, e2⟩ => by rw [e1, e2]; exact ht s H C cl fp x hx)
    (fun s H C cl fp => pe_fam (X := X.blk s H scope (compEnvC scope cl C X.env) fp) (Rl := fun ss' d => ∃ x ∈ xs, keep x = true ∧ ss' = t.put x (wipeS ss (own.map (·.2))) ∧ d = f x) fun ss' d ⟨x, hx, hk, e1, e2⟩ => by rw [e1, e2]; exact he s H C cl fp x hx hk) hs) fun B F H σ Q R q => ?_
  exact lc_go hv hsl hfit hlen R fun D vs' F1 H1 n1 R1 f1 b1 h1 d1 i1 => by
    have n2 := n1.told f1 h1 d1
    exact q _ _ H1 n2 (R.grow n2) ⟨D, vs', rfl, upd_same, IsL.mono (Ext.upd f1) _ i1⟩
end
end Fd

set_option Elab.async false
set_option linter.all false
set_option maxRecDepth 100000
set_option maxHeartbeats 2000000
/-! Fd4: defs by what they make of data; objects; built-in functions. -/
namespace Fd
open PySem PySem.Spec PyProof.Rows L2
/-! ### defs -/
/-- a def that hands back, of the data ds, the datum d, wherever pre ds d -/
def spD (T : List (Addr × Str)) (K : PySem.W.Frag) (n : Nat) (pre : List D → D → Prop) : Sp := fun vs H Q _ => ∃ F ds d, Ext F H ∧ (∀ p ps, F p ≠ some (.tbl ps)) ∧ LamX.Tabs T H ∧ IsL K F ds vs ∧ ds.length = n ∧ pre ds d ∧ ∀ v F1 H1, Nx T F H F1 H1 → Is K F1 d v → Q v H1
/-- the def under the module's name x (level k, n parameters) -/
def FD (T : List (Addr × Str)) (P : Program) (w : World) (K : PySem.W.Frag) (mg : Str → Option Value) (base : Heap) (x : Str) (n k : Nat) (pre : List D → D → Prop) : Prop :=
  ∃ f fd ps, mg x = some (.ref f) ∧ PySem.W.keepIn K (.ref f) = true ∧ Binds K fd ps [] ∧ ps.length = n ∧ FnOk P w K mg base CX0 k f fd ps (spD T K n pre)
def startS (N : List Str) (ds : List D) : SS := ds.map S.d ++ List.replicate (N.length - ds.length) S.no
abbrev bodyX (CX : CXT) (P : Program) (w : World) (K : PySem.W.Frag) (mg : Str → Option Value) (base : Heap) (N : List Str) (qual : Str) (st : Stmt) (f : Addr) (cdv : Value) (A : Around) (outer : List Env) (s : Shared) (H : Hp) (E : XK) : Cx :=
  (cxOf CX P w K mg base N qual (defScope st) f cdv A outer s H E).nox
section
variable {T : List (Addr × Str)} {P : Program} {w : World} {K : PySem.W.Frag} {mg : Str → Option Value} {base : Heap}
theorem start_slots {N : List Str} {F H : Hp} : ∀ {ds : List D} {vs : List V} (m : Nat) (i : Nat) (s : S) (o : Option V), IsL K F ds vs → (ds.map S.d ++ List.replicate m S.no)[i]? = some s → (vs.map some ++ List.replicate m none)[i]? = some o → SlotIs K F H s o
  | [], _, m, i, s, o, h, e1, e2 => by
    cases (show _ = _ from h)
    simp only [List.map_nil, List.nil_append] at e1 e2
    have : s = S.no := by
      rw [List.getElem?_replicate] at e1
      split at e1 <;> simp at e1
      exact e1.symm
    subst this
    exact True.intro
  | x :: xs, _, m, 0, s, o, h, e1, e2 => by
    obtain ⟨v, r, rfl, h1, _⟩ := h
    simp at e1 e2
    subst e1; subst e2
    exact ⟨v, rfl, h1⟩
  | x :: xs, _, m, i + 1, s, o, h, e1, e2 => by
    obtain ⟨v, r, rfl, _, h⟩ := h
    simp only [List.map_cons, List.cons_append, List.getElem?_cons_succ] at e1 e2
    exact start_slots (N := N) m i s o h e1 e2
theorem start_mine {ds : List D} {m i : Nat} {s : S} (h : (ds.map S.d ++ List.replicate m S.no)[i]? = some s) : s.mine = false := by
  have := List.mem_of_getElem? h
  rcases List.mem_append.mp this with q | q
  · obtain ⟨x, _, rfl⟩ := List.mem_map.mp q; rfl
  · rw [(List.mem_replicate.mp q).2]; rfl
theorem start_str {N : List Str} {F H : Hp} {ds : List D} {vs : List V} (x : Ext F H) (nt : ∀ p ps, F p ≠ some (.tbl ps)) (tb : LamX.Tabs T H) (h : IsL K F ds vs) : StR T K (F, H) F H (L2.start N vs) (startS N ds) where
  len := by unfold L2.start startS; simp [h.length]
  bF := fun _ _ h => h
  bH := .refl H
  sub := x
  nt := nt
  tb := tb
  new := fun p o e => .inl (by show F p ≠ none; rw [e]; exact fun z => nomatch z)
  slots := fun i s o e1 e2 => by
    unfold L2.start at e2
    unfold startS at e1
    rw [h.length] at e2
    exact start_slots (N := N) _ i s o h e1 e2
  own := fun i s p e1 m _ => by
    unfold startS at e1
    rw [start_mine e1] at m; cases m
  dis := fun i j s t p e1 _ m _ _ _ => by
    unfold startS at e1
    rw [start_mine e1] at m; cases m
theorem StR.back {B : Hp × Hp} {F H : Hp} {σ : L2.St} {ss : SS} (R : StR T K B F H σ ss) : Nx T B.1 B.2 F H := ⟨R.bF, R.bH, R.sub, fun p ps e => absurd e (R.nt p ps), fun p o e => R.new p o e⟩
/-- THE RULE for a def -/
theorem fd_ok {x qual : Str} {st : Stmt} {f : Addr} {fd : FuncData} {N ps : List Str} {k n : Nat} {pre : List D → D → Prop} (F : Fun K x qual st f fd) (S : FnScope N ps (defScope st)) (hn : ps.length = n)
    (h : ∀ (cdv : Value) (A : Around) (outer : List Env) (s : Shared) (H : Hp) (E : XK) (ds : List D) (d : D), Room k (A.deeper (envOfC qual (defScope st) s.heap.objs.size f cdv)) → ds.length = n → pre ds d →
      SVs T (bodyX CX0 P w K mg base N qual st f cdv A outer s H E) (defBody st) (startS N ds) { nx := fun _ => d = .non, rt := fun d' => d' = d }) : FnOk P w K mg base CX0 (k + 1) f fd ps (spD T K n pre) := by
  refine F.ok S (fun vs H Q E ⟨F, ds, d, _, _, _, i, l, _⟩ => by rw [i.length, l, hn]) (fun cdv A outer s H vs Q E hr hsp => ?_)
  obtain ⟨F0, ds, d, x, nt, tb, i, l, p, q⟩ := hsp
  refine ⟨_, h cdv A outer s H E ds d hr l p, (F0, H), F0, _, _, ⟨rfl, rfl⟩, start_str x nt tb i, fun ss' σ' F1 H1 e R1 => ?_, fun d' v ss' σ' F1 H1 e R1 i1 => ?_, fun _ _ _ _ z => z.elim, fun _ _ _ _ z => z.elim⟩
  · subst e
    exact q .non F1 H1 R1.back rfl
  · subst e
    exact q v F1 H1 R1.back i1
theorem FD.mk {x : Str} {f : Addr} {fd : FuncData} {ps : List Str} {n k : Nat} {pre : List D → D → Prop} (h1 : mg x = some (.ref f)) (h2 : PySem.W.keepIn K (.ref f) = true) (h3 : Binds K fd ps []) (h4 : ps.length = n) (h5 : FnOk P w K mg base CX0 k f fd ps (spD T K n pre)) : FD T P w K mg base x n k pre :=
  ⟨f, fd, ps, h1, h2, h3, h4, h5⟩
end
section
variable {T : List (Addr × Str)} {X : Cx} {ss : SS} {e a b c o : Expr} {es : List Expr} {d : D} {ds : List D} {x m : Str} {p pos apos : Pos} {n k : Nat} {pre : List D → D → Prop}
/-- f(..) -/
theorem ev_call (G : FD T X.prog X.w X.K X.mg X.base x n k pre) (hr : Room k X.A) (ha : EVs T X (e :: es) ss ds) (hp : pre ds d) (hn : ds.length = n := by rfl) (hg : Gl X x := by rfl) (hdb : (x == ("__debug__" : Str)) = false := by decide)
    (he : starEach (e :: es) X.env = (false, eval e X.env) :: starEach es X.env := by rfl) (hpl : (backTo pos (starEach es X.env)).any (·.1) = false := by rfl) : EV T X (.Call (.Name x p) (e :: es) [] pos) ss d := by
  obtain ⟨f, fd, ps, h1, h2, h3, h4, h5⟩ := G
  refine EV.of (pe_call h5 hr hg h1 h2 h3 .nil pass0 ha hdb he hpl) fun B F H σ Q R q => evs_go R fun vs F1 H1 n1 R1 i1 => ?_
  show spD T X.K n pre (vs ++ []) H1 Q E0
  rw [List.append_nil]
  exact ⟨F1, ds, d, R1.sub, R1.nt, R1.tb, i1, hn, hp, fun v F2 H2 n2 i2 => q v F2 H2 (n1.trans n2) (R1.grow n2) i2⟩
theorem ev_call0 (G : FD T X.prog X.w X.K X.mg X.base x 0 k pre) (hr : Room k X.A) (hp : pre [] d) (hg : Gl X x := by rfl) (hdb : (x == ("__debug__" : Str)) = false := by decide) : EV T X (.Call (.Name x p) [] [] pos) ss d := by
  obtain ⟨f, fd, ps, h1, h2, h3, h4, h5⟩ := G
  refine EV.of (pe_call0 h5 hr hg h1 h2 h3 .nil pass0 hdb) fun B F H σ Q R q => ?_
  show spD T X.K 0 pre ([] ++ []) H Q E0
  exact ⟨F, [], d, R.sub, R.nt, R.tb, rfl, rfl, hp, fun v F2 H2 n2 i2 => q v F2 H2 n2 (R.grow n2) i2⟩
/-- o.f -/
theorem ev_fld {C : Addr} {ns : List Str} {xs : List D} {f : Str} (he : EV T X o ss (.ins C ns xs)) (cl : Cls X.K C) (na : NoAttr X.K C f) (i : Nat) (hn : ns[i]? = some f) (hx : xs[i]? = some d) (nd : ns.Nodup)
    (hb : attributeBase o f X.env (eval o X.env) = eval o X.env := by rfl) : EV T X (.Attribute o f pos) ss d :=
  EV.of (pe_fld he hb) fun B F H σ Q R q => ev_go R fun v F1 H1 n1 R1 i1 => by
    obtain ⟨a, dx, fs, rfl, e1, e2, e3⟩ := i1
    obtain ⟨w, hw, iw⟩ := IsL.get' e3 hx
    refine ⟨a, C, dx, fs, w, rfl, R1.sub _ _ e1, cl, na, ?_, q w F1 H1 n1 R1 iw⟩
    have look : ∀ {l : List (Str × V)} {j : Nat}, (l.map (·.1)).Nodup → (l.map (·.1))[j]? = some f → (l.map (·.2))[j]? = some w → l.lookup f = some w := by
      intro l
      induction l with
      | nil => intro j _ h; simp at h
      | cons y r ih =>
        intro j nd h1 h2
        cases j with
        | zero =>
          simp at h1 h2
          subst h1; subst h2
          simp [List.lookup]
        | succ j =>
          simp at h1 h2
          have nd' : (y.1 :: r.map (·.1)).Nodup := nd
          obtain ⟨n1, n2⟩ := List.nodup_cons.mp nd'
          have ne : ¬ f = y.1 := fun z => n1 (by rw [← z]; exact List.mem_of_getElem? (l := r.map (·.1)) (by simpa using h1))
          have hb : (f == y.1) = false := beq_eq_false_iff_ne.mpr ne
          simp only [List.lookup, hb]
          exact ih n2 (by simpa using h1) (by simpa using h2)
    subst e2
    exact look nd hn hw
/-! built-in functions -/
theorem ev_blt {id : String} {r : List V → Hp → VK → Prop} (hc : CallR X (.builtin id) r) (ha : EVs T X (e :: es) ss ds) (hm : X.mg x = none) (hv : bootBuiltins x = some (.builtin id))
    (k : ∀ B F H σ vs Q, StR T X.K B F H σ ss → IsL X.K F ds vs → (∀ z F1 H1, Nx T F H F1 H1 → StR T X.K B F1 H1 σ ss → Is X.K F1 d z → Q z H1) → r vs H Q) (hg : Gl X x := by rfl) (hn : x ≠ "__name__" := by decide) (hdb : (x == ("__debug__" : Str)) = false := by decide)
    (he : starEach (e :: es) X.env = (false, eval e X.env) :: starEach es X.env := by rfl) (hpl : (backTo pos (starEach es X.env)).any (·.1) = false := by rfl) : EV T X (.Call (.Name x p) (e :: es) [] pos) ss d :=
  EV.of (pe_callB hc hg hm hv ha hn hdb he hpl) fun B F H σ Q R q => evs_go R fun vs F1 H1 n1 R1 i1 => k B F1 H1 σ vs Q R1 i1 fun z F2 H2 n2 R2 i2 => q z F2 H2 (n1.trans n2) R2 i2
theorem ev_bty {tn : String} {r : List V → Hp → VK → Prop} (hc : CallR X (.type tn) r) (ha : EVs T X (e :: es) ss ds) (hm : X.mg x = none) (hv : bootBuiltins x = some (.type tn))
    (k : ∀ B F H σ vs Q, StR T X.K B F H σ ss → IsL X.K F ds vs → (∀ z F1 H1, Nx T F H F1 H1 → StR T X.K B F1 H1 σ ss → Is X.K F1 d z → Q z H1) → r vs H Q) (hg : Gl X x := by rfl) (hn : x ≠ "__name__" := by decide) (hdb : (x == ("__debug__" : Str)) = false := by decide)
    (he : starEach (e :: es) X.env = (false, eval e X.env) :: starEach es X.env := by rfl) (hpl : (backTo pos (starEach es X.env)).any (·.1) = false := by rfl) : EV T X (.Call (.Name x p) (e :: es) [] pos) ss d :=
  EV.of (pe_callTy hc hg hm hv ha hn hdb he hpl) fun B F H σ Q R q => evs_go R fun vs F1 H1 n1 R1 i1 => k B F1 H1 σ vs Q R1 i1 fun z F2 H2 n2 R2 i2 => q z F2 H2 (n1.trans n2) R2 i2
/-- f(..), f a module's name for a built-in function -/
theorem ev_blf {id : String} {r : List V → Hp → VK → Prop} (hc : CallR X (.builtin id) r) (ha : EVs T X (e :: es) ss ds) (hm : X.mg x = some (.builtin id))
    (k : ∀ B F H σ vs Q, StR T X.K B F H σ ss → IsL X.K F ds vs → (∀ z F1 H1, Nx T F H F1 H1 → StR T X.K B F1 H1 σ ss → Is X.K F1 d z → Q z H1) → r vs H Q) (hg : Gl X x := by rfl) (hdb : (x == ("__debug__" : Str)) = false := by decide)
    (he : starEach (e :: es) X.env = (false, eval e X.env) :: starEach es X.env := by rfl) (hpl : (backTo pos (starEach es X.env)).any (·.1) = false := by rfl) : EV T X (.Call (.Name x p) (e :: es) [] pos) ss d :=
  EV.of (pe_callBfun hc hg hm ha hdb he hpl) fun B F H σ Q R q => evs_go R fun vs F1 H1 n1 R1 i1 => k B F1 H1 σ vs Q R1 i1 fun z F2 H2 n2 R2 i2 => q z F2 H2 (n1.trans n2) R2 i2
theorem isL1 {K : PySem.W.Frag} {F : Hp} {x : D} {vs : List V} (h : IsL K F [x] vs) : ∃ v, vs = [v] ∧ Is K F x v := by
  obtain ⟨v, r, rfl, h1, h2⟩ := h
  cases (show _ = _ from h2)
  exact ⟨v, rfl, h1⟩
theorem isL2 {K : PySem.W.Frag} {F : Hp} {x y : D} {vs : List V} (h : IsL K F [x, y] vs) : ∃ v w, vs = [v, w] ∧ Is K F x v ∧ Is K F y w := by
  obtain ⟨v, r, rfl, h1, h2⟩ := h
  obtain ⟨w, rfl, h3⟩ := isL1 h2
  exact ⟨v, w, rfl, h1, h3⟩
theorem ev_abs {i : Int} (ha : EV T X e ss (.int i)) (hm : X.mg "abs" = none) (hg : Gl X "abs" := by rfl) (he : starEach [e] X.env = [(false, eval e X.env)] := by rfl) : EV T X (.Call (.Name "abs" p) [e] [] pos) ss (.int (if i < 0 then -i else i)) :=
  ev_blt call_abs (evs_cons ha evs_nil he) hm (by decide +kernel) (fun B F H σ vs Q R i1 q => by
    obtain ⟨v, rfl, h⟩ := isL1 i1
    cases h
    exact ⟨i, rfl, q _ F H R.nx R rfl⟩) hg (he := he)
theorem ev_int1 {i : Int} (ha : EV T X e ss (.int i)) (hm : X.mg "int" = none) (hg : Gl X "int" := by rfl) (he : starEach [e] X.env = [(false, eval e X.env)] := by rfl) : EV T X (.Call (.Name "int" p) [e] [] pos) ss (.int i) :=
  ev_bty call_int1 (evs_cons ha evs_nil he) hm (by decide +kernel) (fun B F H σ vs Q R i1 q => by
    obtain ⟨v, rfl, h⟩ := isL1 i1
    cases h
    exact .inl ⟨i, rfl, q _ F H R.nx R rfl⟩) hg (he := he)
theorem ev_strI {i : Int} (hz : i.natAbs.log2 < 1920) (ha : EV T X e ss (.int i)) (hm : X.mg "str" = none) (hg : Gl X "str" := by rfl) (he : starEach [e] X.env = [(false, eval e X.env)] := by rfl) : EV T X (.Call (.Name "str" p) [e] [] pos) ss (.str (toString i)) :=
  ev_bty call_str_int (evs_cons ha evs_nil he) hm (by decide +kernel) (fun B F H σ vs Q R i1 q => by
    obtain ⟨v, rfl, h⟩ := isL1 i1
    cases h
    exact ⟨i, rfl, hz, q _ F H R.nx R rfl⟩) hg (he := he)
theorem ev_gcd {i j : Int} (ha : EV T X a ss (.int i)) (hb : EV T X b ss (.int j)) (hm : X.mg x = some (.builtin "math.gcd")) (hg : Gl X x := by rfl) (hdb : (x == ("__debug__" : Str)) = false := by decide) (he : starEach [a, b] X.env = (false, eval a X.env) :: starEach [b] X.env := by rfl) (he2 : starEach [b] X.env = [(false, eval b X.env)] := by rfl) (hpl : (backTo pos (starEach [b] X.env)).any (·.1) = false := by rfl) :
    EV T X (.Call (.Name x p) [a, b] [] pos) ss (.int ((Nat.gcd i.natAbs j.natAbs : Nat) : Int)) :=
  ev_blf cr_gcd (evs_cons ha (evs_cons hb evs_nil he2) he) hm (fun B F H σ vs Q R i1 q => by
    obtain ⟨v, w, rfl, h, h2⟩ := isL2 i1
    cases h; cases h2
    exact ⟨i, j, rfl, q _ F H R.nx R rfl⟩) hg hdb he hpl
/-- len of a list, a tuple, a text -/
def D.len : D → Option Nat
  | .lst xs => some xs.length
  | .rdl xs => some xs.length
  | .tup xs => some xs.length
  | .str x => if x.length ≤ sizeLine then some x.length else none
  | _ => none
theorem ev_len {y : D} {n : Nat} (h : y.len = some n) (ha : EV T X e ss y) (hm : X.mg "len" = none) (hg : Gl X "len" := by rfl) (he : starEach [e] X.env = [(false, eval e X.env)] := by rfl) : EV T X (.Call (.Name "len" p) [e] [] pos) ss (.int n) :=
  ev_blt call_len (evs_cons ha evs_nil he) hm PySem.boot_len (fun B F H σ vs Q R i1 q => by
    obtain ⟨v, rfl, i⟩ := isL1 i1
    refine ⟨v, n, rfl, ?_, q _ F H R.nx R rfl⟩
    cases y with
    | lst xs =>
      obtain ⟨a, us, rfl, e1, e2⟩ := i
      have : xs.length = n := Option.some.inj h
      exact .inl ⟨us, SqL.of (R.sub _ _ e1), by rw [e2.length, this]⟩
    | rdl xs =>
      obtain ⟨a, us, rfl, e1, e2⟩ := i
      have : xs.length = n := Option.some.inj h
      exact .inl ⟨us, ext_seqL R.sub e1, by rw [e2.length, this]⟩
    | tup xs =>
      obtain ⟨a, us, rfl, e1, e2⟩ := i
      have : xs.length = n := Option.some.inj h
      exact .inr ⟨us, ext_seqT R.sub e1, by rw [e2.length, this]⟩
    | str z =>
      cases i
      have h' : (if z.length ≤ sizeLine then some z.length else none) = some n := h
      split at h'
      · cases h'; exact ⟨by assumption, rfl⟩
      · cases h'
    | _ => cases h) hg (he := he)
/-- % and // by great divisors, * of great ints -/
theorem ev_mul {i j : Int} (hc : CMul i j) (ha : EV T X a ss (.int i)) (hb : EV T X b ss (.int j)) : EV T X (.BinOp a .Mult b pos) ss (.int (i * j)) :=
  ev_op op_mul ha hb fun B F H σ v u Q R i1 i2 q => ⟨i, j, i1, i2, hc, q _ F H R.nx R rfl⟩
theorem ev_mulW {i j : Int} (hc : CMulW i j) (ha : EV T X a ss (.int i)) (hb : EV T X b ss (.int j)) : EV T X (.BinOp a .Mult b pos) ss (.int (i * j)) :=
  ev_op op_mulW ha hb fun B F H σ v u Q R i1 i2 q => ⟨i, j, i1, i2, hc, q _ F H R.nx R rfl⟩
theorem ev_fdivW {i j : Int} (hc : CDivW i j) (ha : EV T X a ss (.int i)) (hb : EV T X b ss (.int j)) : EV T X (.BinOp a .FloorDiv b pos) ss (.int (i / j)) :=
  ev_op op_fdivW ha hb fun B F H σ v u Q R i1 i2 q => ⟨i, j, i1, i2, hc, q _ F H R.nx R rfl⟩
/-! a if t else b, and, or -/
theorem ev_if {t : Bool} (hc : TV T X c ss t) (h1 : t = true → EV T X a ss d) (h2 : t = false → EV T X b ss d) : EV T X (.IfExp c a b pos) ss d := by
  have p1 : PE X a (tEv T X.K fun ss' d' => EV T X a ss' d') := pe_fam fun _ _ h => h
  have p2 : PE X b (tEv T X.K fun ss' d' => EV T X b ss' d') := pe_fam fun _ _ h => h
  refine EV.of (pe_ifExp hc p1 p2) fun B F H σ Q R q => tv_go R fun F1 H1 n1 R1 => ?_
  cases t with
  | true => exact iteT ⟨B, F1, ss, d, h1 rfl, R1, fun v F2 H2 n2 R2 i2 => q v F2 H2 (n1.trans n2) R2 i2⟩
  | false => exact iteF ⟨B, F1, ss, d, h2 rfl, R1, fun v F2 H2 n2 R2 i2 => q v F2 H2 (n1.trans n2) R2 i2⟩
theorem tv_if {t u : Bool} {e : Expr} (h : EV T X (.IfExp c a b pos) ss (.bl u)) (he : ∀ whole, isTrue (.IfExp c a b pos) X.env whole = (do let v ← whole; standAt (Expr.IfExp c a b pos).pos; holding [v] (truthy v)) := by intro _; rfl) : TV T X (.IfExp c a b pos) ss u := tv_of h he
theorem ev_not {t : Bool} (h : EV T X a ss (.bl t)) : EV T X (.UnaryOp .Not a pos) ss (.bl (!t)) :=
  EV.of (pe_not h) fun B F H σ Q R q => ev_go R fun v F1 H1 n1 R1 i1 => ⟨t, i1, q _ F1 H1 n1 R1 rfl⟩
theorem ev_one {op} {d : D} (h : EV T X a ss d) : EV T X (.BoolOp op [a] pos) ss d := pe_one h
theorem ev_andB {t u : Bool} (h : EV T X a ss (.bl t)) (g : t = true → EV T X (.BoolOp .And (b :: es) pos) ss (.bl u)) : EV T X (.BoolOp .And (a :: b :: es) pos) ss (.bl (t && u)) := by
  have p2 : PE X (.BoolOp .And (b :: es) pos) (tEv T X.K fun ss' d' => EV T X (.BoolOp .And (b :: es) pos) ss' d') := pe_fam fun _ _ h => h
  refine EV.of (pe_and h p2) fun B F H σ Q R q => ev_go R fun v F1 H1 n1 R1 i1 => ⟨t, i1, ?_⟩
  cases t with
  | true => exact iteT ⟨B, F1, ss, .bl u, g rfl, R1, fun v F2 H2 n2 R2 i2 => q v F2 H2 (n1.trans n2) R2 i2⟩
  | false => exact iteF (q _ F1 H1 n1 R1 rfl)
theorem ev_orB {t u : Bool} (h : EV T X a ss (.bl t)) (g : t = false → EV T X (.BoolOp .Or (b :: es) pos) ss (.bl u)) : EV T X (.BoolOp .Or (a :: b :: es) pos) ss (.bl (t || u)) := by
  have p2 : PE X (.BoolOp .Or (b :: es) pos) (tEv T X.K fun ss' d' => EV T X (.BoolOp .Or (b :: es) pos) ss' d') := pe_fam fun _ _ h => h
  refine EV.of (pe_or h p2) fun B F H σ Q R q => ev_go R fun v F1 H1 n1 R1 i1 => ⟨t, i1, ?_⟩
  cases t with
  | true => exact iteT (q _ F1 H1 n1 R1 rfl)
  | false => exact iteF ⟨B, F1, ss, .bl u, g rfl, R1, fun v F2 H2 n2 R2 i2 => q v F2 H2 (n1.trans n2) R2 i2⟩
theorem tw_andB {t u : Bool} (h : TV T X a ss t) (g : t = true → TW T X (.BoolOp .And (b :: es) pos) ss u) : TW T X (.BoolOp .And (a :: b :: es) pos) ss (t && u) := by
  have p2 : PW X (.BoolOp .And (b :: es) pos) (tTv T X.K fun ss' d' => TW T X (.BoolOp .And (b :: es) pos) ss' d') := ⟨fun wh pins s σ H Q I ⟨B, F, ss, d, r, R, k⟩ => r.run wh pins s σ H Q I ⟨B, F, ss, d, ⟨rfl, rfl⟩, R, k⟩⟩
  refine PW.imp (pw_and h p2) fun σ H Q ⟨B, F, ss', d', ⟨e1, e2⟩, R, q⟩ => ?_
  subst e1; subst e2
  refine tv_go R fun F1 H1 n1 R1 => ?_
  cases t with
  | true => exact iteT ⟨B, F1, _, u, g rfl, R1, fun F2 H2 n2 R2 => q F2 H2 (n1.trans n2) R2⟩
  | false => exact iteF (q F1 H1 n1 R1)
theorem tw_orB {t u : Bool} (h : TV T X a ss t) (g : t = false → TW T X (.BoolOp .Or (b :: es) pos) ss u) : TW T X (.BoolOp .Or (a :: b :: es) pos) ss (t || u) := by
  have p2 : PW X (.BoolOp .Or (b :: es) pos) (tTv T X.K fun ss' d' => TW T X (.BoolOp .Or (b :: es) pos) ss' d') := ⟨fun wh pins s σ H Q I ⟨B, F, ss, d, r, R, k⟩ => r.run wh pins s σ H Q I ⟨B, F, ss, d, ⟨rfl, rfl⟩, R, k⟩⟩
  refine PW.imp (pw_or h p2) fun σ H Q ⟨B, F, ss', d', ⟨e1, e2⟩, R, q⟩ => ?_
  subst e1; subst e2
  refine tv_go R fun F1 H1 n1 R1 => ?_
  cases t with
  | true => exact iteT (q F1 H1 n1 R1)
  | false => exact iteF ⟨B, F1, _, u, g rfl, R1, fun F2 H2 n2 R2 => q F2 H2 (n1.trans n2) R2⟩
theorem EV.cast {d d' : D} (h : EV T X e ss d) (q : d = d') : EV T X e ss d' := q ▸ h
theorem TV.cast {t u : Bool} (h : TV T X e ss t) (q : t = u) : TV T X e ss u := q ▸ h
end
end Fd

set_option Elab.async false
set_option linter.all false
set_option maxRecDepth 100000
set_option maxHeartbeats 4000000
/-! Fd5: operators of own classes, by the library's own terms: an int to the left, ==, !=. -/
namespace FdS
open PySem PySem.Spec PyProof.Rows PySem.W
/-- an int's method that declines an instance -/
abbrev Decl (x C dx : Addr) : PySem.Spec := fun _ R s => s.heap.get? x = some (PySem.W.instObj C dx) ∧ R (.ok (.ret Value.notImplemented)) s
theorem int_add_inst (a : Int) (t : Tok) (x C dx : Addr) : Meets (Builtin.«int.__add__» ⟨[.int a t, .ref x], []⟩) (Decl x C dx) :=
  .of_wp fun prog w A R s h => by obtain ⟨hp, g, d, tk, os⟩ := s; obtain ⟨hl, h⟩ := h; simp only [PySem.W.instObj] at hl; wp_walk; exact ⟨_, rfl, h⟩
theorem int_sub_inst (a : Int) (t : Tok) (x C dx : Addr) : Meets (Builtin.«int.__sub__» ⟨[.int a t, .ref x], []⟩) (Decl x C dx) :=
  .of_wp fun prog w A R s h => by obtain ⟨hp, g, d, tk, os⟩ := s; obtain ⟨hl, h⟩ := h; simp only [PySem.W.instObj] at hl; wp_walk; exact ⟨_, rfl, h⟩
theorem int_mul_inst (a : Int) (t : Tok) (x C dx : Addr) : Meets (Builtin.«int.__mul__» ⟨[.int a t, .ref x], []⟩) (Decl x C dx) :=
  .of_wp fun prog w A R s h => by obtain ⟨hp, g, d, tk, os⟩ := s; obtain ⟨hl, h⟩ := h; simp only [PySem.W.instObj] at hl; wp_walk; exact ⟨_, rfl, h⟩
theorem int_eq_inst (a : Int) (t : Tok) (x C dx : Addr) : Meets (Builtin.«int.__eq__» ⟨[.int a t, .ref x], []⟩) (Decl x C dx) :=
  .of_wp fun prog w A R s h => by obtain ⟨hp, g, d, tk, os⟩ := s; obtain ⟨hl, h⟩ := h; simp only [PySem.W.instObj] at hl; wp_walk; exact ⟨_, rfl, h⟩
theorem int_ne_inst (a : Int) (t : Tok) (x C dx : Addr) : Meets (Builtin.«int.__ne__» ⟨[.int a t, .ref x], []⟩) (Decl x C dx) :=
  .of_wp fun prog w A R s h => by obtain ⟨hp, g, d, tk, os⟩ := s; obtain ⟨hl, h⟩ := h; simp only [PySem.W.instObj] at hl; wp_walk; exact ⟨_, rfl, h⟩
section
variable {prog : Program} {w : World} {A : Around} {E : Value → Shared → Prop} {s : Shared} {K : Frag} {x C dx f f0 : Addr} {od : Option Obj}
/-- the left int declines, the instance's reflected method gives -/
theorem bin_int {op : Operator} {id : String} {B : Builtin} {i : Int} {t : Tok} {Q : Value → Shared → Prop} (X : K.In s.heap) (I : InstAt s.heap x (PySem.W.instObj C dx) C od) (slot : Slot "int" (PySem.dunder op.info.2) id) (entry : entryFor table id = some B) (args : argsOk id ⟨[.int i t, .ref x], []⟩)
    (g : Meets (B ⟨[.int i t, .ref x], []⟩) (Decl x C dx)) (fills : fillsNumberSlot (.type "int") op.info.2 = pure true) (hc : selfFirst K C = true) (hs : findIn K (.ref C) (PySem.dunder op.info.2) = some (some (.ref f0)))
    (hr : findIn K (.ref C) (dunderR op.info.2) = some (some (.ref f))) (hf : isFn K (.ref f) = true) (hsub : subIn K (.ref C) (.type "int") = some false)
    (h : wpAny (model prog w) A (call (.ref f) [.ref x, .int i t]) (PySem.W.CmpBack Q) E s) : wpAny (model prog w) A (binaryOp op (.int i t) (.ref x)) Q E s := by
  obtain ⟨cd, rest, hcd, hm⟩ := ksp_first hc
  rcases hi : op.info with ⟨sym, nm'⟩
  rw [hi] at hs hr fills slot
  dsimp only at hs hr fills slot
  have one := ksp_try (name := dunderR nm') X I hr hf h
  have hx : s.heap.get? x = some (PySem.W.instObj C dx) := I.1
  have L3 : Looks (model prog w) s.heap (fillsNumberSlot (.ref C) nm') true := fills_K X hcd hm hs
  simp only [binaryOp, hi]
  refine wpAny_holding (wpAny_bind ?_)
  unfold binaryOp1
  refine wpAny_bind (wpAny_typeOf (typeIs_int s i t) (wpAny_bind (I.type.here (wpAny_bind (wpAny_of_eq fills ?_)))))
  have hne : (Value.type "int" == Value.ref C) = false := Bool.eq_false_iff.mpr fun q => by cases beq_iff_eq.mp q
  simp only [hne, Bool.false_eq_true, if_false]
  refine wpAny_bind (L3.here ?_)
  simp only [Bool.and_self, if_true]
  refine wpAny_bind ((looks_subIn X hsub).here ?_)
  have hpy : numberSlotInPython (.type "int") nm' = pure false := rfl
  simp only [Bool.false_eq_true, if_false, pure_bind, Bool.not_false, Bool.and_self, if_true, hpy]
  refine wpAny_bind (wpAny_tryMethod_declines (typeIs_int s i t) slot (call_meets slot (typeIs_int s i t) entry args g ⟨hx, rfl, ?_⟩))
  simp only []
  refine wpAny_bind (wpAny_mono one (fun r s' hr' => ?_) fun _ _ e => e)
  obtain ⟨v, rfl, hq⟩ := hr'
  exact wpAny_bind (wpAny_rule (wpAny_pure (wpAny_pure hq)))
/-- tryCompare by an own method -/
theorem try_own {b : Value} {name : Str} {Q : Value → Shared → Prop} {ox : Obj} (X : K.In s.heap) (I : InstAt s.heap x ox C od) (hs : findIn K (.ref C) name = some (some (.ref f))) (hf : isFn K (.ref f) = true)
    (h : wpAny (model prog w) A (call (.ref f) [.ref x, b]) (PySem.W.CmpBack Q) E s) : wpAny (model prog w) A (tryCompare (.ref x) name b) (fun r s' => ∃ v, r = some v ∧ Q v s') E s := by
  unfold tryCompare
  refine wpAny_bind (ifBound_K X I hs hf (wpAny_mono h (fun v s' hv => ?_) fun _ _ e => e))
  cases v <;> first | exact hv.elim | exact wpAny_pure ⟨_, rfl, hv⟩
/-- tryCompare "__ne__" by object.__ne__ over an own __eq__ that gives a bool -/
theorem try_ne {b : Value} {Q : Value → Shared → Prop} {ox : Obj} (hu : A.units + 1 < cLine) (X : K.In s.heap) (I : InstAt s.heap x ox C od) (hn : findIn K (.ref C) "__ne__" = some (some (.builtin "object.__ne__"))) (hob : subIn K (.ref C) (.type "object") = some true)
    (hs : findIn K (.ref C) "__eq__" = some (some (.ref f))) (hf : isFn K (.ref f) = true)
    (h : wpAny (model prog w) A.in1 (call (.ref f) [.ref x, b]) (fun v s' => ∃ k, v = .bool k ∧ Q (.bool (!k)) s') E s) : wpAny (model prog w) A (tryCompare (.ref x) "__ne__" b) (fun r s' => ∃ v, r = some v ∧ Q v s') E s := by
  unfold tryCompare
  refine wpAny_bind ?_
  simp only [callSpecialIfBound?, bindSpecialIfBound?]
  refine wpAny_holding (wpAny_bind (wpAny_bind (wpAny_bind (I.type.here ((looks_findIn X hn).here ?_)))))
  have run : wpAny (model prog w) A (call (.builtin "object.__ne__") ([.ref x] ++ [b])) (fun v s' => ∃ k, v = .bool k ∧ Q (.bool k) s') E s := by
    refine wpAny_call (codeAny_call_builtin F.cmp_object.ne.plain F.cmpEntry_ne (check_slot F.cmpKind_ne F.cmpSplit_ne (I.type.andThen (looks_subIn X hob)) (F.cmpArgs_ne _ _) ?_))
    show wpAny _ A.in1 (Builtin.«object.__ne__» ⟨[.ref x, b], []⟩) _ _ s
    unfold Builtin.«object.__ne__»
    refine wpAny_bind (wpAny_of_eq (a := (.ref x, [b])) rfl ?_)
    refine wpAny_bind (wpAny_cRoomFor hu ?_)
    refine wpAny_bind (ifBound_K X I hs hf (wpAny_mono h (fun v s' hv => ?_) fun _ _ e => e))
    obtain ⟨k, rfl, hq⟩ := hv
    refine wpAny_bind (wpAny_truthy_bool ?_)
    exact wpAny_pure ⟨_, rfl, hq⟩
  have fin : wpAny (model prog w) A (call (.builtin "object.__ne__") ([.ref x] ++ [b]) >>= fun v => pure (some v)) (fun a s₁ => wpAny (model prog w) A (match a with | some .notImplemented | none => pure none | some v => pure (some v)) (fun r s' => ∃ v, r = some v ∧ Q v s') E s₁) E s :=
    wpAny_bind (wpAny_mono run (fun v s' hv => by obtain ⟨k, rfl, hq⟩ := hv; exact wpAny_pure (wpAny_pure ⟨_, rfl, hq⟩)) fun _ _ e => e)
  simp only [F.cmp_object.ne.bind]
  refine wpAny_bind (wpAny_askSetting (wpAny_ite ?_))
  split
  · exact wpAny_bind (wpAny_pure (wpAny_pure fin))
  · exact wpAny_tryCatch (wpAny_bind (wpAny_pure (wpAny_pure fin)))
/-- x op b, the left an instance: its own answer is taken -/
theorem cmp_left {op : CmpOp} {b tb : Value} {Q : Value → Shared → Prop} {ox : Obj} (hu : A.units < cLine) (X : K.In s.heap) (I : InstAt s.heap x ox C od) (hb : Looks (model prog w) s.heap (typeOf b) tb) (hn : notFirst K C tb = true)
    (one : wpAny (model prog w) A (tryCompare (.ref x) (cmpInfo op).2.1 b) (fun r s' => ∃ v, r = some v ∧ Q v s') E s) : wpAny (model prog w) A (richCompare op (.ref x) b) Q E s := by
  unfold richCompare
  simp only [oneThing_ref]
  refine wpAny_holding (wpAny_bind (wpAny_cRoomFor hu ?_))
  refine wpAny_bind (I.type.here (wpAny_bind (hb.here ?_)))
  split
  · rename_i q
    have e : subIn K tb (.ref C) = some false := by
      rcases Bool.or_eq_true_iff.mp hn with e | e
      · rw [beq_iff_eq.mp e] at q; simp at q
      · exact beq_iff_eq.mp e
    refine wpAny_bind ((looks_subIn X e).here ?_)
    simp only [Bool.false_eq_true, if_false]
    refine wpAny_bind (wpAny_mono one (fun r s' z => ?_) fun _ _ e => e)
    obtain ⟨v, rfl, hq⟩ := z
    exact wpAny_pure hq
  · refine wpAny_bind (wpAny_pure ?_)
    simp only [Bool.false_eq_true, if_false]
    refine wpAny_bind (wpAny_mono one (fun r s' z => ?_) fun _ _ e => e)
    obtain ⟨v, rfl, hq⟩ := z
    exact wpAny_pure hq
/-- i op x, the right an instance: the int declines -/
theorem cmp_int {op : CmpOp} {id : String} {B : Builtin} {i : Int} {t : Tok} {Q : Value → Shared → Prop} (hu : A.units < cLine) (X : K.In s.heap) (I : InstAt s.heap x (PySem.W.instObj C dx) C od) (slot : Slot "int" (cmpInfo op).2.1 id) (entry : entryFor table id = some B) (args : argsOk id ⟨[.int i t, .ref x], []⟩)
    (g : Meets (B ⟨[.int i t, .ref x], []⟩) (Decl x C dx)) (hsub : subIn K (.ref C) (.type "int") = some false)
    (one : wpAny (model prog w) A (tryCompare (.ref x) (cmpInfo op).2.2 (.int i t)) (fun r s' => ∃ v, r = some v ∧ Q v s') E s) : wpAny (model prog w) A (richCompare op (.int i t) (.ref x)) Q E s := by
  have hx : s.heap.get? x = some (PySem.W.instObj C dx) := I.1
  unfold richCompare
  have h1 : oneThing? op (.int i t) (.ref x) = none := rfl
  simp only [h1]
  refine wpAny_holding (wpAny_bind (wpAny_cRoomFor hu ?_))
  refine wpAny_bind (wpAny_typeOf (typeIs_int s i t) (wpAny_bind (I.type.here ?_)))
  have hne : (Value.type "int" != Value.ref C) = true := rfl
  simp only [hne, if_true]
  refine wpAny_bind ((looks_subIn X hsub).here ?_)
  simp only [Bool.false_eq_true, if_false, Bool.not_false, if_true]
  refine wpAny_bind (wpAny_tryCompare_declines (typeIs_int s i t) slot (call_meets slot (typeIs_int s i t) entry args g ⟨hx, rfl, ?_⟩))
  refine wpAny_bind (wpAny_mono one (fun r s' z => ?_) fun _ _ e => e)
  obtain ⟨v, rfl, hq⟩ := z
  exact wpAny_pure hq
end
end FdS

set_option Elab.async false
set_option linter.all false
set_option maxRecDepth 100000
set_option maxHeartbeats 4000000
/-! Fd6: operators of own classes on data. -/
namespace Fd
open PySem PySem.Spec PyProof.Rows L2
/-- a two-place operation on data -/
def rD (T : List (Addr × Str)) (K : PySem.W.Frag) (pre : D → D → D → Prop) : R2 := fun x y H Q => ∃ F dx dy d, Ext F H ∧ (∀ p ps, F p ≠ some (.tbl ps)) ∧ LamX.Tabs T H ∧ Is K F dx x ∧ Is K F dy y ∧ pre dx dy d ∧ ∀ v F1 H1, Nx T F H F1 H1 → Is K F1 d v → Q v H1
def OpD (T : List (Addr × Str)) (X : Cx) (f : Value → Value → Sem Value) (pre : D → D → D → Prop) : Prop := OpR X f (rD T X.K pre)
section
variable {T : List (Addr × Str)} {X : Cx} {ss : SS} {a b : Expr} {pos : Pos} {x y d : D} {pre pre' : D → D → D → Prop}
theorem OpD.or {f : Value → Value → Sem Value} (h : OpD T X f pre) (h' : OpD T X f pre') : OpD T X f (fun x y d => pre x y d ∨ pre' x y d) := fun pins s σ H x y v u Q I rx ry ⟨F, dx, dy, d, e, nt, tbs, i1, i2, p, q⟩ => by
  rcases p with p | p
  · exact h pins s σ H x y v u Q I rx ry ⟨F, dx, dy, d, e, nt, tbs, i1, i2, p, q⟩
  · exact h' pins s σ H x y v u Q I rx ry ⟨F, dx, dy, d, e, nt, tbs, i1, i2, p, q⟩
theorem ev_opD {op : Operator} (ho : OpD T X (binaryOp op) pre) (ha : EV T X a ss x) (hb : EV T X b ss y) (hp : pre x y d) : EV T X (.BinOp a op b pos) ss d :=
  ev_op ho ha hb fun B F H σ v u Q R i1 i2 q => ⟨F, x, y, d, R.sub, R.nt, R.tb, i1, i2, hp, fun z F1 H1 n1 iz => q z F1 H1 n1 (R.grow n1) iz⟩
theorem ev_cmpD {op : CmpOp} (ho : OpD T X (compareOp op) pre) (ha : EV T X a ss x) (hb : EV T X b ss y) (hp : pre x y d) (h1 : behindInMarks op b = false := by first | exact nomark _ | rfl) : EV T X (.Compare a [op] [b] pos) ss d :=
  ev_cmp ho ha hb (fun B F H σ v u Q R i1 i2 q => ⟨F, x, y, d, R.sub, R.nt, R.tb, i1, i2, hp, fun z F1 H1 n1 iz => q z F1 H1 n1 (R.grow n1) iz⟩) h1
theorem tv_cmpD {op : CmpOp} {k : Bool} (ho : OpD T X (compareOp op) pre) (ha : EV T X a ss x) (hb : EV T X b ss y) (hp : pre x y (.bl k)) (h1 : behindInMarks op b = false := by first | exact nomark _ | rfl) : TV T X (.Compare a [op] [b] pos) ss k :=
  tv_cmp ho ha hb (fun B F H σ v u Q R i1 i2 q => ⟨F, x, y, .bl k, R.sub, R.nt, R.tb, i1, i2, hp, fun z F1 H1 n1 iz => by cases iz; exact q F1 H1 n1 (R.grow n1)⟩) h1
theorem opD_I0 {f : Value → Value → Sem Value} {g : Int → Int → Int} (h : OpR X f (rI0 fun i j => .int (g i j))) : OpD T X f (fun x y d => ∃ i j, x = .int i ∧ y = .int j ∧ d = .int (g i j)) := fun pins s σ H x y v u Q I rx ry ⟨F, dx, dy, d, e, nt, tbs, i1, i2, ⟨i, j, e1, e2, e3⟩, q⟩ => by
  subst e1; subst e2; subst e3
  exact h pins s σ H x y v u Q I rx ry ⟨i, j, i1, i2, q _ F H (Nx.refl e) rfl⟩
theorem opD_I {f : Value → Value → Sem Value} {C : Int → Int → Prop} {g : Int → Int → Int} (h : OpR X f (rI C fun i j => .int (g i j))) : OpD T X f (fun x y d => ∃ i j, x = .int i ∧ y = .int j ∧ C i j ∧ d = .int (g i j)) := fun pins s σ H x y v u Q I rx ry ⟨F, dx, dy, d, e, nt, tbs, i1, i2, ⟨i, j, e1, e2, c, e3⟩, q⟩ => by
  subst e1; subst e2; subst e3
  exact h pins s σ H x y v u Q I rx ry ⟨i, j, i1, i2, c, q _ F H (Nx.refl e) rfl⟩
end
/-! ### the types of data -/
def D.ty? : D → Option Value
  | .non => some (.type "NoneType") | .bl _ => some (.type "bool") | .int _ => some (.type "int") | .str _ => some (.type "str") | .lst _ => some (.type "list") | .tup _ => some (.type "tuple")
  | .ins C _ _ => some (.ref C) | .dct _ _ => some (.type "dict") | _ => none
section
variable {T : List (Addr × Str)} {X : Cx} {pins : List (Addr × Obj)} {σ : L2.St} {F H : Hp} {s : Shared}
theorem looks_ty {d : D} {v : V} {u t : Value} (I : Inv X pins σ H s) (e : Ext F H) (i : Is X.K F d v) (r : RelV v u) (h : d.ty? = some t) : PySem.W.Looks (model X.prog X.w) s.heap (typeOf u) t := by
  cases d with
  | non => cases i; cases r; cases h; exact PySem.W.Looks.of_pure rfl
  | bl b => cases i; cases r; cases h; exact PySem.W.Looks.of_pure rfl
  | int z => cases i; obtain ⟨t', rfl⟩ := r; cases h; exact PySem.W.Looks.of_pure rfl
  | str z => cases i; obtain ⟨t', rfl⟩ := r; cases h; exact PySem.W.Looks.of_pure rfl
  | lst xs =>
    obtain ⟨a, vs, rfl, e1, _⟩ := i
    cases r; cases h
    obtain ⟨its, _, ⟨o, n, e2, e3, _⟩, _⟩ := I.list (SqL.of (e _ _ e1))
    have : PySem.W.Looks (model X.prog X.w) s.heap (typeOf (.ref a)) o.cls := (PySem.W.Looks.ld e2).andThen .now
    rw [e3] at this
    exact this
  | tup xs =>
    obtain ⟨a, vs, rfl, e1, _⟩ := i
    cases r; cases h
    obtain ⟨its, _, ⟨o, e2, e3, _⟩, _⟩ := I.tuple (ext_seqT e e1)
    have : PySem.W.Looks (model X.prog X.w) s.heap (typeOf (.ref a)) o.cls := (PySem.W.Looks.ld e2).andThen .now
    rw [e3] at this
    exact this
  | ins C ns xs =>
    obtain ⟨a, dx, fs, rfl, e1, _⟩ := i
    cases r; cases h
    obtain ⟨mA, O, _⟩ := ins_get I.hok (e _ _ e1)
    obtain ⟨od, J, _⟩ := O.look
    exact J.type
  | dct ks xs =>
    obtain ⟨a, kvs, rfl, e1, _⟩ := i
    cases r; cases h
    obtain ⟨_, _, vs, _, o, es, ep, h1, h2, _⟩ := (show ObjOk X.prog X.w H s.heap a (.dK kvs) from I.hok a _ (e _ _ e1))
    have : PySem.W.Looks (model X.prog X.w) s.heap (typeOf (.ref a)) o.cls := (PySem.W.Looks.ld h1).andThen .now
    rw [h2.1] at this
    exact this
  | _ => cases h
/-- one level down -/
abbrev Cx.in1 (X : Cx) : Cx := { X with A := X.A.in1 }
theorem Inv.in1 (I : Inv X pins σ H s) : Inv (Cx.in1 X) pins σ H s :=
  ⟨⟨I.ok.mod, I.ok.kind, I.ok.glob, I.ok.blt, I.ok.above, I.ok.inj, I.ok.has, I.ok.cab, I.ok.hd, I.ok.frames, I.ok.stk, I.ok.exf, I.ok.bs, I.ok.bsz, I.ok.noex, I.ok.exfs, I.ok.funs, I.ok.frf⟩, I.os, I.bare, I.base, I.loc, I.cell, I.free, I.freeC, I.pin, I.hok, I.len⟩
theorem Inv.out1 (I : Inv (Cx.in1 X) pins σ H s) : Inv X pins σ H s :=
  ⟨⟨I.ok.mod, I.ok.kind, I.ok.glob, I.ok.blt, I.ok.above, I.ok.inj, I.ok.has, I.ok.cab, I.ok.hd, I.ok.frames, I.ok.stk, I.ok.exf, I.ok.bs, I.ok.bsz, I.ok.noex, I.ok.exfs, I.ok.funs, I.ok.frf⟩, I.os, I.bare, I.base, I.loc, I.cell, I.free, I.freeC, I.pin, I.hok, I.len⟩
theorem back_of {Q : VK} {u : Value} {s' : Shared} (h : EP X pins σ Q u s') : PySem.W.CmpBack (EP X pins σ Q) u s' := by
  obtain ⟨v, H', I', r, q⟩ := id h
  cases v with
  | non => cases (show u = Value.none from r); exact h
  | bl b => cases (show u = Value.bool b from r); exact h
  | int i => obtain ⟨t, e⟩ := (show ∃ t, u = Value.int i t from r); cases e; exact h
  | str x => obtain ⟨t, e⟩ := (show ∃ t, u = Value.str x t from r); cases e; exact h
  | byt b => obtain ⟨t, e⟩ := (show ∃ t, u = Value.bytes b t from r); cases e; exact h
  | flt b => obtain ⟨t, e⟩ := (show ∃ t, u = Value.float b t from r); cases e; exact h
  | ref a => cases (show u = Value.ref a from r); exact h
  | ty n => cases (show u = Value.type n from r); exact h
end
/-! ### a method that an operator calls -/
structure OwnM (T : List (Addr × Str)) (P : Program) (w : World) (K : PySem.W.Frag) (mg : Str → Option Value) (base : Heap) (C : Addr) (m : Str) (n k : Nat) (pre : List D → D → Prop) (f : Addr) : Prop where
  at_ : PySem.W.findIn K (.ref C) m = some (some (.ref f))
  fn : PySem.W.isFn K (.ref f) = true
  kp : PySem.W.keepIn K (.ref f) = true
  ok : ∃ fd ps, Binds K fd ps [] ∧ ps.length = n ∧ FnOk P w K mg base CX0 k f fd ps (spD T K n pre)
section
variable {T : List (Addr × Str)} {X : Cx} {pins : List (Addr × Obj)} {σ : L2.St} {F H : Hp} {s : Shared} {C f f0 : Addr} {k n : Nat} {pre : List D → D → Prop} {m : Str}
theorem OwnM.run {P : Program} {w : World} {K : PySem.W.Frag} {mg : Str → Option Value} {base : Heap} (M : OwnM T X.prog X.w X.K X.mg X.base C m n k pre f) (hr : Room k X.A) (I : Inv X pins σ H s) {us : List Value} {vs : List V} {ds : List D} {d : D} {Q : VK} (r : Vals vs us) (e : Ext F H) (nt : ∀ p ps, F p ≠ some (.tbl ps)) (tbs : LamX.Tabs T H) (i : IsL X.K F ds vs) (hn : ds.length = n)
    (hp : pre ds d) (q : ∀ v F1 H1, Nx T F H F1 H1 → Is X.K F1 d v → Q v H1) : wpAny (model X.prog X.w) X.A (call (.ref f) us) (EP X pins σ Q) X.xe s := by
  obtain ⟨fd, ps, hb, hl, F0⟩ := M.ok
  refine run_fn (dvs := []) (ds := []) F0 hr hb .nil pass0 I r ?_
  rw [List.append_nil]
  exact ⟨F, ds, d, e, nt, tbs, i, hn, hp, q⟩
/-- -x -/
theorem un_own (M : OwnM T X.prog X.w X.K X.mg X.base C "__neg__" 1 k pre f) (hr : Room k X.A) : UnR X (unaryOp .USub) (fun x H Q => ∃ F ns xs d, Ext F H ∧ (∀ p ps, F p ≠ some (.tbl ps)) ∧ LamX.Tabs T H ∧ Is X.K F (.ins C ns xs) x ∧ pre [.ins C ns xs] d ∧ ∀ v F1 H1, Nx T F H F1 H1 → Is X.K F1 d v → Q v H1) := by
  intro pins s σ H x v Q I rx ⟨F, ns, xs, d, e, nt, tbs, i, p, q⟩
  obtain ⟨a, dx, fs, rfl, e1, e2, e3⟩ := id i
  cases rx
  obtain ⟨mA, J, _⟩ := ins_get I.hok (e _ _ e1)
  obtain ⟨od, J, _⟩ := J.look
  obtain ⟨mm, hF⟩ := I.fr
  exact PySem.W.ksp_neg hF I.ok.mod.kin J M.at_ M.fn (M.run (P := X.prog) (w := X.w) (K := X.K) (mg := X.mg) (base := X.base) hr I (vs := [.ref a]) (.cons rfl .nil) e nt tbs (.cons i .nil) rfl p q)
/-- x op y, x of one's own class, y too -/
theorem bin_own {op : Operator} (M : OwnM T X.prog X.w X.K X.mg X.base C (PySem.dunder op.info.2) 2 k pre f) (hr : Room k X.A) (hc : PySem.W.selfFirst X.K C = true) :
    OpD T X (binaryOp op) (fun x y d => ∃ ns xs ms ys, x = .ins C ns xs ∧ y = .ins C ms ys ∧ pre [x, y] d) := by
  intro pins s σ H x y v u Q I rx ry ⟨F, dx, dy, d, e, nt, tbs, i1, i2, ⟨ns, xs, ms, ys, h1, h2, p⟩, q⟩
  subst h1; subst h2
  have lb := looks_ty I e i2 ry (t := .ref C) rfl
  obtain ⟨a, da, fs, rfl, e1, _⟩ := id i1
  cases rx
  obtain ⟨mA, J, _⟩ := ins_get I.hok (e _ _ e1)
  obtain ⟨od, J, _⟩ := J.look
  obtain ⟨mm, hF⟩ := I.fr
  exact PySem.W.binop_K hF I.ok.mod.kin J lb hc M.at_ M.fn (wpAny_mono (M.run (P := X.prog) (w := X.w) (K := X.K) (mg := X.mg) (base := X.base) hr I (vs := [.ref a, y]) (.cons rfl (.cons ry .nil)) e nt tbs (.cons i1 (.cons i2 .nil)) rfl p q) (fun v s' h => back_of h) fun _ _ z => z)
/-- x op i, x of one's own class, i an int -/
theorem bin_ownI {op : Operator} {fo ro : Option Value} (M : OwnM T X.prog X.w X.K X.mg X.base C (PySem.dunder op.info.2) 2 k pre f) (hr : Room k X.A) (hc : PySem.W.selfFirst X.K C = true) (hR : PySem.W.findIn X.K (.ref C) (dunderR op.info.2) = some (some (.ref f0)))
    (h1 : PySem.W.findIn X.K (.type "int") (PySem.dunder op.info.2) = some fo) (h2 : PySem.W.findIn X.K (.type "int") (dunderR op.info.2) = some ro) (hsub : PySem.W.subIn X.K (.type "int") (.ref C) = some false) :
    OpD T X (binaryOp op) (fun x y d => ∃ ns xs j, x = .ins C ns xs ∧ y = .int j ∧ pre [x, y] d) := by
  intro pins s σ H x y v u Q I rx ry ⟨F, dx, dy, d, e, nt, tbs, i1, i2, ⟨ns, xs, j, h1', h2', p⟩, q⟩
  subst h1'; subst h2'
  have ht : ∃ t, u = .int j t := by cases i2; exact ry
  obtain ⟨t, rfl⟩ := ht
  obtain ⟨a, da, fs, rfl, e1, _⟩ := id i1
  cases rx
  obtain ⟨mA, J, _⟩ := ins_get I.hok (e _ _ e1)
  obtain ⟨od, J, _⟩ := J.look
  obtain ⟨mm, hF⟩ := I.fr
  exact PySem.W.ksp_binT (T := "int") hF I.ok.mod.kin J rfl hc M.at_ M.fn hR (.inr ⟨_, rfl⟩) h1 h2 hsub (wpAny_mono (M.run (P := X.prog) (w := X.w) (K := X.K) (mg := X.mg) (base := X.base) hr I (vs := [.ref a, y]) (.cons rfl (.cons ry .nil)) e nt tbs (.cons i1 (.cons i2 .nil)) rfl p q) (fun v s' h => back_of h) fun _ _ z => z)
/-- i op x, i an int: the reflected method -/
theorem bin_Iown {op : Operator} {idn : String} {B : Builtin} (M : OwnM T X.prog X.w X.K X.mg X.base C (dunderR op.info.2) 2 k pre f) (hr : Room k X.A) (hc : PySem.W.selfFirst X.K C = true) (hs : PySem.W.findIn X.K (.ref C) (PySem.dunder op.info.2) = some (some (.ref f0)))
    (slot : Slot "int" (PySem.dunder op.info.2) idn) (entry : entryFor table idn = some B) (args : ∀ a b, argsOk idn ⟨[a, b], []⟩) (g : ∀ i t x C dx, Meets (B ⟨[.int i t, .ref x], []⟩) (FdS.Decl x C dx)) (fills : fillsNumberSlot (.type "int") op.info.2 = pure true)
    (hsub : PySem.W.subIn X.K (.ref C) (.type "int") = some false) : OpD T X (binaryOp op) (fun x y d => ∃ ns xs j, x = .int j ∧ y = .ins C ns xs ∧ pre [y, x] d) := by
  intro pins s σ H x y v u Q I rx ry ⟨F, dx, dy, d, e, nt, tbs, i1, i2, ⟨ns, xs, j, h1', h2', p⟩, q⟩
  subst h1'; subst h2'
  have ht : ∃ t, v = .int j t := by cases i1; exact rx
  obtain ⟨t, rfl⟩ := ht
  obtain ⟨a, da, fs, rfl, e1, _⟩ := id i2
  cases ry
  obtain ⟨mA, J, _⟩ := ins_get I.hok (e _ _ e1)
  obtain ⟨od, J, _⟩ := J.look
  exact FdS.bin_int I.kIn J slot entry (args _ _) (g _ _ _ _ _) fills hc hs M.at_ M.fn hsub (wpAny_mono (M.run (P := X.prog) (w := X.w) (K := X.K) (mg := X.mg) (base := X.base) hr I (vs := [.ref a, x]) (.cons rfl (.cons rx .nil)) e nt tbs (.cons i2 (.cons i1 .nil)) rfl p q) (fun v s' h => back_of h) fun _ _ z => z)
/-- the facts of == and != -/
structure EqM (T : List (Addr × Str)) (P : Program) (w : World) (K : PySem.W.Frag) (mg : Str → Option Value) (base : Heap) (C : Addr) (k : Nat) (pre : List D → D → Prop) (f : Addr) : Prop where
  m : OwnM T P w K mg base C "__eq__" 2 k pre f
  ne : PySem.W.findIn K (.ref C) "__ne__" = some (some (.builtin "object.__ne__"))
  ob : PySem.W.subIn K (.ref C) (.type "object") = some true
theorem eq_own (M : EqM T X.prog X.w X.K X.mg X.base C k pre f) (hr : Room k X.A) : OpD T X (compareOp .Eq) (fun x y d => ∃ ns xs tb r, x = .ins C ns xs ∧ y.ty? = some tb ∧ PySem.W.notFirst X.K C tb = true ∧ d = .bl r ∧ pre [x, y] d) := by
  intro pins s σ H x y v u Q I rx ry ⟨F, dx, dy, d, e, nt, tbs, i1, i2, ⟨ns, xs, tb, r, h1', h2', h3, h4, p⟩, q⟩
  subst h1'
  have lb := looks_ty I e i2 ry h2'
  obtain ⟨a, da, fs, rfl, e1, _⟩ := id i1
  cases rx
  obtain ⟨mA, J, _⟩ := ins_get I.hok (e _ _ e1)
  obtain ⟨od, J, _⟩ := J.look
  show wpAny _ _ (richCompare .Eq _ _) _ _ _
  exact FdS.cmp_left hr.units0 I.kIn J lb h3 (FdS.try_own I.kIn J M.m.at_ M.m.fn (wpAny_mono (M.m.run (P := X.prog) (w := X.w) (K := X.K) (mg := X.mg) (base := X.base) hr I (vs := [.ref a, y]) (.cons rfl (.cons ry .nil)) e nt tbs (.cons i1 (.cons i2 .nil)) rfl p q) (fun v s' h => back_of h) fun _ _ z => z))
theorem ne_run (M : EqM T X.prog X.w X.K X.mg X.base C k pre f) (hr : Room (k + 1) X.A) {a : Addr} {y : V} {u : Value} {r : Bool} {dx dy : D} {Q : VK} (I : Inv X pins σ H s) (ry : RelV y u) (e : Ext F H) (nt : ∀ p ps, F p ≠ some (.tbl ps)) (tbs : LamX.Tabs T H) (i1 : Is X.K F dx (.ref a)) (i2 : Is X.K F dy y) (p : pre [dx, dy] (.bl r))
    (q : ∀ v F1 H1, Nx T F H F1 H1 → Is X.K F1 (.bl (!r)) v → Q v H1) : wpAny (model X.prog X.w) X.A.in1 (call (.ref f) [.ref a, u]) (fun v s' => ∃ k, v = .bool k ∧ EP X pins σ Q (.bool (!k)) s') X.xe s := by
  refine wpAny_mono (OwnM.run (X := Cx.in1 X) (P := X.prog) (w := X.w) (K := X.K) (mg := X.mg) (base := X.base) (vs := [.ref a, y]) (Q := fun v H1 => v = .bl r ∧ Q (.bl (!r)) H1) M.m hr.in1 (Inv.in1 I) (.cons rfl (.cons ry .nil)) e nt tbs (.cons i1 (.cons i2 .nil)) rfl p fun v F1 H1 n1 iv => ⟨iv, q _ F1 H1 n1 rfl⟩) (fun v s' h => ?_) fun _ _ z => z
  obtain ⟨v', H', I', rv, ev, q'⟩ := h
  subst ev
  cases rv
  exact ⟨r, rfl, .bl (!r), H', Inv.out1 I', rfl, q'⟩
theorem ne_own (M : EqM T X.prog X.w X.K X.mg X.base C k pre f) (hr : Room (k + 1) X.A) : OpD T X (compareOp .NotEq) (fun x y d => ∃ ns xs tb r, x = .ins C ns xs ∧ y.ty? = some tb ∧ PySem.W.notFirst X.K C tb = true ∧ d = .bl (!r) ∧ pre [x, y] (.bl r)) := by
  intro pins s σ H x y v u Q I rx ry ⟨F, dx, dy, d, e, nt, tbs, i1, i2, ⟨ns, xs, tb, r, h1', h2', h3, h4, p⟩, q⟩
  subst h1'; subst h4
  have lb := looks_ty I e i2 ry h2'
  obtain ⟨a, da, fs, rfl, e1, _⟩ := id i1
  cases rx
  obtain ⟨mA, J, _⟩ := ins_get I.hok (e _ _ e1)
  obtain ⟨od, J, _⟩ := J.look
  show wpAny _ _ (richCompare .NotEq _ _) _ _ _
  exact FdS.cmp_left hr.units0 I.kIn J lb h3 (FdS.try_ne (by have := hr.units; omega) I.kIn J M.ne M.ob M.m.at_ M.m.fn (ne_run M hr I ry e nt tbs i1 i2 p q))
theorem eq_Iown (M : EqM T X.prog X.w X.K X.mg X.base C k pre f) (hr : Room k X.A) (hsub : PySem.W.subIn X.K (.ref C) (.type "int") = some false) : OpD T X (compareOp .Eq) (fun x y d => ∃ ns xs j r, x = .int j ∧ y = .ins C ns xs ∧ d = .bl r ∧ pre [y, x] d) := by
  intro pins s σ H x y v u Q I rx ry ⟨F, dx, dy, d, e, nt, tbs, i1, i2, ⟨ns, xs, j, r, h1', h2', h3, p⟩, q⟩
  subst h1'; subst h2'
  have ht : ∃ t, v = .int j t := by cases i1; exact rx
  obtain ⟨t, rfl⟩ := ht
  obtain ⟨a, da, fs, rfl, e1, _⟩ := id i2
  cases ry
  obtain ⟨mA, J, _⟩ := ins_get I.hok (e _ _ e1)
  obtain ⟨od, J, _⟩ := J.look
  show wpAny _ _ (richCompare .Eq _ _) _ _ _
  exact FdS.cmp_int hr.units0 I.kIn J PySem.F.slot_int_eq PySem.F.entry_int_eq (PySem.F.args_int_eq_2 _ _) (FdS.int_eq_inst _ _ _ _ _) hsub (FdS.try_own I.kIn J M.m.at_ M.m.fn (wpAny_mono (M.m.run (P := X.prog) (w := X.w) (K := X.K) (mg := X.mg) (base := X.base) hr I (vs := [.ref a, x]) (.cons rfl (.cons rx .nil)) e nt tbs (.cons i2 (.cons i1 .nil)) rfl p q) (fun v s' h => back_of h) fun _ _ z => z))
theorem ne_Iown (M : EqM T X.prog X.w X.K X.mg X.base C k pre f) (hr : Room (k + 1) X.A) (hsub : PySem.W.subIn X.K (.ref C) (.type "int") = some false) : OpD T X (compareOp .NotEq) (fun x y d => ∃ ns xs j r, x = .int j ∧ y = .ins C ns xs ∧ d = .bl (!r) ∧ pre [y, x] (.bl r)) := by
  intro pins s σ H x y v u Q I rx ry ⟨F, dx, dy, d, e, nt, tbs, i1, i2, ⟨ns, xs, j, r, h1', h2', h3, p⟩, q⟩
  subst h1'; subst h2'; subst h3
  have ht : ∃ t, v = .int j t := by cases i1; exact rx
  obtain ⟨t, rfl⟩ := ht
  obtain ⟨a, da, fs, rfl, e1, _⟩ := id i2
  cases ry
  obtain ⟨mA, J, _⟩ := ins_get I.hok (e _ _ e1)
  obtain ⟨od, J, _⟩ := J.look
  show wpAny _ _ (richCompare .NotEq _ _) _ _ _
  exact FdS.cmp_int hr.units0 I.kIn J PySem.F.slot_int_ne PySem.F.entry_int_ne (PySem.F.args_int_ne_2 _ _) (FdS.int_ne_inst _ _ _ _ _) hsub (FdS.try_ne (by have := hr.units; omega) I.kIn J M.ne M.ob M.m.at_ M.m.fn (ne_run M hr I rx e nt tbs i2 i1 p q))
end
end Fd

set_option Elab.async false
set_option linter.all false
set_option maxRecDepth 100000
set_option maxHeartbeats 4000000
/-! Fd7: lists joined, repeated, extended; all; count; == of data; exceptions as data. -/
namespace Fd
open PySem PySem.Spec PyProof.Rows L2
section
variable {T : List (Addr × Str)} {X : Cx} {ss : SS} {P : Post} {a b e : Expr} {es : List Expr} {xs ys : List D} {d : D} {x : Str} {p pos : Pos}
/-- xs + ys: a new list -/
theorem ev_cat (hl : xs.length + ys.length ≤ 100000) (ha : EV T X a ss (.lst xs)) (hb : EV T X b ss (.lst ys)) : EV T X (.BinOp a .Add b pos) ss (.lst (xs ++ ys)) :=
  ev_op op_cat ha hb fun B F H σ v u Q R i1 i2 q => by
    obtain ⟨l, vs, rfl, e1, e2⟩ := i1
    obtain ⟨m, us, rfl, f1, f2⟩ := i2
    refine ⟨l, m, vs, us, rfl, rfl, R.sub _ _ e1, R.sub _ _ f1, by rw [e2.length, f2.length]; exact small_len hl, fun p hp => ?_⟩
    have n := Nx.alloc (T := T) (o := .lst (vs ++ us)) R.sub hp
    exact q _ _ _ n (R.grow n) ⟨p, _, rfl, upd_same, IsL.mono n.f _ (e2.append f2)⟩
theorem isL_rep {K : PySem.W.Frag} {F : Hp} {xs : List D} {vs : List V} (h : IsL K F xs vs) : ∀ n : Nat, IsL K F (List.replicate n xs).flatten (List.replicate n vs).flatten
  | 0 => rfl
  | n + 1 => by
    rw [List.replicate_succ, List.replicate_succ, List.flatten_cons, List.flatten_cons]
    exact h.append (isL_rep h n)
/-- xs * k -/
theorem ev_rep {k : Int} (hk : 0 ≤ k ∧ k ≤ 1000) (hl : xs.length * k.toNat ≤ 100000) (ha : EV T X a ss (.lst xs)) (hb : EV T X b ss (.int k)) : EV T X (.BinOp a .Mult b pos) ss (.lst (List.replicate k.toNat xs).flatten) :=
  ev_op op_rep ha hb fun B F H σ v u Q R i1 i2 q => by
    obtain ⟨l, vs, rfl, e1, e2⟩ := i1
    refine ⟨l, k, vs, rfl, i2, R.sub _ _ e1, by omega, by omega, by rw [e2.length]; exact small_len hl, fun p hp => ?_⟩
    have n := Nx.alloc (T := T) (o := .lst (List.replicate k.toNat vs).flatten) R.sub hp
    exact q _ _ _ n (R.grow n) ⟨p, _, rfl, upd_same, IsL.mono n.f _ (isL_rep e2 _)⟩
/-- x.extend(ys) -/
theorem sv_extend (i : Nat) {x : Str} {px ap cp : Pos} (hx : ss[i]? = some (.own xs)) (he : EV T X e ss (.lst ys)) (k : P.nx (ss.set i (.own (xs ++ ys)))) (hl : xs.length + ys.length ≤ 100000)
    (hp : ∀ {te : TE}, PE X e te → PE X (.Call (.Attribute (.Name x px) "extend" ap) [e] [] cp) (tBM X.K "list" rExtend (tVar i) (tCons te tNil)) := by
      intro te h; exact pe_bm PySem.F.plainAttrs_list PySem.F.slot_list_extend PySem.F.type_list_extend mt_extend (pv _) (pa_cons h pa_nil))
    (hs : swapsWith (.Call (.Attribute (.Name x px) "extend" ap) [e] [] cp) none pos.line X.env = pure false := by rfl) :
    SV T X (.Expr (.Call (.Attribute (.Name x px) "extend" ap) [e] [] cp) pos) ss P := by
  refine SV.of (ps_expr (hp he) hs) fun B F H σ Dn R g => ?_
  have hi : i < ss.length := (List.getElem?_eq_some_iff.mp hx).1
  have hsl : i < σ.length := by rw [R.len]; exact hi
  obtain ⟨p, vs, e1, e2, e3, e4⟩ := R.slots i _ _ hx (List.getElem?_eq_getElem hsl)
  have hσ : σ[i]? = some (some (.ref p)) := by rw [List.getElem?_eq_getElem hsl, e1]
  refine ⟨.ref p, hσ, .inl ⟨rfl, vs, SqL.of e3⟩, ev_go R fun v F1 H1 n1 R1 i1 => ?_⟩
  obtain ⟨p', vs', q1, q2, q3, q4⟩ := R1.slots i _ _ hx (List.getElem?_eq_getElem hsl)
  rw [q1] at e1
  cases e1
  obtain ⟨m, us, rfl, f1, f2⟩ := i1
  refine ⟨p, m, _, us, rfl, rfl, q3, R1.sub _ _ f1, ?_, g.nx _ _ _ _ k (R1.chg hx rfl hσ rfl q2 ⟨p, _, rfl, q2, upd_same, q4.append f2⟩)⟩
  rw [q4.length, f2.length]
  exact small_len hl
theorem isL_bl {K : PySem.W.Frag} {F : Hp} : ∀ {bs : List Bool} {vs : List V}, IsL K F (bs.map D.bl) vs → vs = bs.map V.bl
  | [], _, h => h
  | b :: bs, _, h => by
    obtain ⟨v, r, rfl, h1, h2⟩ := h
    cases h1
    rw [isL_bl h2]
    rfl
/-- all(list of truth values) -/
theorem ev_all {bs : List Bool} (ha : EV T X e ss (.lst (bs.map D.bl))) (hm : X.mg "all" = none) (hc : X.calm = true := by rfl) (hg : Gl X "all" := by rfl) (he : starEach [e] X.env = [(false, eval e X.env)] := by rfl) : EV T X (.Call (.Name "all" p) [e] [] pos) ss (.bl (bs.all id)) :=
  ev_blt (cr_all hc) (evs_cons ha evs_nil he) hm (by decide +kernel) (fun B F H σ vs Q R i1 q => by
    obtain ⟨v, rfl, h⟩ := isL1 i1
    obtain ⟨l, us, rfl, e1, e2⟩ := h
    rw [isL_bl e2] at e1
    exact ⟨l, bs, rfl, SqL.of (R.sub _ _ e1), q _ F H R.nx R rfl⟩) hg (he := he)
theorem ev_any {bs : List Bool} (ha : EV T X e ss (.lst (bs.map D.bl))) (hm : X.mg "any" = none) (hc : X.calm = true := by rfl) (hg : Gl X "any" := by rfl) (he : starEach [e] X.env = [(false, eval e X.env)] := by rfl) : EV T X (.Call (.Name "any" p) [e] [] pos) ss (.bl (bs.any id)) :=
  ev_blt (cr_any hc) (evs_cons ha evs_nil he) hm (by decide +kernel) (fun B F H σ vs Q R i1 q => by
    obtain ⟨v, rfl, h⟩ := isL1 i1
    obtain ⟨l, us, rfl, e1, e2⟩ := h
    rw [isL_bl e2] at e1
    exact ⟨l, bs, rfl, SqL.of (R.sub _ _ e1), q _ F H R.nx R rfl⟩) hg (he := he)
/-! list.count(True) -/
def rCntB (K : PySem.W.Frag) : V → List V → Hp → VK → Prop := fun x xs H Q => ∃ (p : Addr) (bs : List Bool), x = .ref p ∧ xs = [.bl true] ∧ SqL K H p (bs.map V.bl) ∧ Q (.int ((bs.filter id).length : Nat)) H
def eqT : Value → Bool
  | .bool b => b
  | _ => false
theorem bool_vals : ∀ {bs : List Bool} {its : List Value}, Vals (bs.map V.bl) its → its = bs.map Value.bool
  | [], _, .nil => rfl
  | b :: bs, _, .cons r t => by
    cases r
    rw [bool_vals t]
    rfl
theorem count_bools : ∀ bs : List Bool, (bs.map Value.bool).countP eqT = (bs.filter id).length
  | [] => rfl
  | b :: bs => by
    rw [List.map_cons, List.countP_cons, count_bools bs, List.filter_cons]
    cases b
    · rfl
    · simp [eqT]
theorem mt_cntB : MtR X "list.count" (rCntB X.K) := by
  intro pins s σ H x xs v us Q I rx rxs h
  obtain ⟨p, bs, rfl, rfl, hs, q⟩ := h
  cases rx
  obtain ⟨u, rfl, ru⟩ := rxs.one
  obtain rfl : u = Value.bool true := ru
  obtain ⟨its, rv, ⟨⟨cls, dd, data, sl⟩, n, ho, hc, hdn, hd⟩, hlen⟩ := I.list hs
  simp only at hc hd
  subst hc hd
  have hi := bool_vals rv
  subst hi
  refine call_meets PySem.F.slot_list_count ⟨_, ho, rfl⟩ PySem.F.entry_list_count (PySem.F.args_list_count_2 _ _)
    (SeqAt.list_countAt p (bs.map Value.bool).toArray n dd sl (.bool true) eqT) ⟨ho, fun y hy => ?_, ?_⟩
  · have hy' : y ∈ bs.map Value.bool := by simpa using hy
    obtain ⟨b, _, rfl⟩ := List.mem_map.mp hy'
    have := eqAt_V (A := X.A.in1) (s := s) (y := .bl b) (x := .bl true) (u := .bool b) (v := .bool true) rfl rfl rfl rfl
    cases b <;> exact this
  · refine ⟨.int ((bs.filter id).length : Nat), H, I.tok _, ⟨s.toks, ?_⟩, q⟩
    show Value.int (((bs.map Value.bool).toArray.toList.countP eqT : Nat) : Int) s.toks = _
    rw [show (bs.map Value.bool).toArray.toList = bs.map Value.bool from rfl, count_bools]
theorem ev_countT {o : Expr} {bs : List Bool} {ap cp bp : Pos} {j} (ho : EV T X o ss (.lst (bs.map D.bl)))
    (hp : ∀ {to te : TE}, PE X o to → PE X (.Constant (.bool true) j bp) te → PE X (.Call (.Attribute o "count" ap) [.Constant (.bool true) j bp] [] cp) (tBM X.K "list" (rCntB X.K) to (tCons te tNil)) := by
      intro to te h h2; exact pe_bm PySem.F.plainAttrs_list PySem.F.slot_list_count PySem.F.type_list_count mt_cntB h (pa_cons h2 pa_nil)) :
    EV T X (.Call (.Attribute o "count" ap) [.Constant (.bool true) j bp] [] cp) ss (.int ((bs.filter id).length : Nat)) :=
  EV.of (hp ho (ev_bl (ss := ss))) fun B F H σ Q R q => ev_go R fun v F1 H1 n1 R1 i1 => by
    obtain ⟨l, us, rfl, e1, e2⟩ := i1
    rw [isL_bl e2] at e1
    refine ⟨.inl ⟨rfl, _, SqL.of (R1.sub _ _ e1)⟩, ev_go R1 fun w F2 H2 n2 R2 i2 => ?_⟩
    cases i2
    exact ⟨l, bs, rfl, rfl, SqL.of (R2.sub _ _ (n2.f _ _ e1)), q _ F2 H2 (n1.trans n2) R2 rfl⟩
end
/-! ### == of data -/
mutual
def D.py : D → Option PyData
  | .non => some .none | .bl b => some (.bool b) | .int i => some (.int i) | .str x => some (.str x)
  | .lst xs => (D.pys xs).map .list | .rdl xs => (D.pys xs).map .list | .tup xs => (D.pys xs).map .tuple
  | _ => none
def D.pys : List D → Option (List PyData)
  | [] => some []
  | x :: xs => match D.py x, D.pys xs with
    | some p, some ps => some (p :: ps)
    | _, _ => none
end
section
variable {K : PySem.W.Frag} {F H : Hp}
mutual
theorem py_dp (e : Ext F H) : ∀ (d : D) {v : V} {p : PyData}, Is K F d v → d.py = some p → Dp K H v p
  | .non, _, _, h, q => by cases h; cases q; exact .non
  | .bl b, _, _, h, q => by cases h; cases q; exact .bl b
  | .int i, _, _, h, q => by cases h; cases q; exact .int i
  | .str x, _, _, h, q => by cases h; cases q; exact .str x
  | .lst xs, _, _, h, q => by
    obtain ⟨a, vs, rfl, e1, e2⟩ := h
    obtain ⟨ps, hp, rfl⟩ := Option.map_eq_some_iff.mp q
    exact .lst (SqL.of (e _ _ e1)) (pys_dp e xs e2 hp)
  | .rdl xs, _, _, h, q => by
    obtain ⟨a, vs, rfl, e1, e2⟩ := h
    obtain ⟨ps, hp, rfl⟩ := Option.map_eq_some_iff.mp q
    exact .lst (ext_seqL e e1) (pys_dp e xs e2 hp)
  | .tup xs, _, _, h, q => by
    obtain ⟨a, vs, rfl, e1, e2⟩ := h
    obtain ⟨ps, hp, rfl⟩ := Option.map_eq_some_iff.mp q
    exact .tup (ext_seqT e e1) (pys_dp e xs e2 hp)
  | .ins _ _ _, _, _, _, q => by cases q
  | .dct _ _, _, _, _, q => by cases q
  | .exc _ _ _, _, _, _, q => by cases q
  | .adr _, _, _, _, q => by cases q
  | .ty _, _, _, _, q => by cases q
theorem pys_dp (e : Ext F H) : ∀ (ds : List D) {vs : List V} {ps : List PyData}, IsL K F ds vs → D.pys ds = some ps → DpAll K H vs ps
  | [], _, _, h, q => by cases (show _ = _ from h); cases q; exact .nil
  | x :: xs, _, _, h, q => by
    obtain ⟨v, r, rfl, h1, h2⟩ := h
    unfold D.pys at q
    cases e1 : D.py x with
    | none => rw [e1] at q; cases q
    | some p =>
      cases e2 : D.pys xs with
      | none => rw [e1, e2] at q; cases q
      | some ps =>
        rw [e1, e2] at q
        cases q
        exact .cons (py_dp e x h1 e1) (pys_dp e xs h2 e2)
end
end
section
variable {T : List (Addr × Str)} {X : Cx} {ss : SS} {a b : Expr} {pos : Pos} {x y : D} {p q : PyData} {k : Nat}
theorem opD_eq (hr : Room k X.A) : OpD T X (compareOp .Eq) (fun x y d => ∃ p q, x.py = some p ∧ y.py = some q ∧ SeqAt.shaped p = true ∧ SeqAt.shaped q = true ∧ d = .bl (PyData.eqv p q)) := fun pins s σ H x y v u Q I rx ry ⟨F, dx, dy, d, e, nt, tb, i1, i2, ⟨p, q, h1, h2, h3, h4, h5⟩, k⟩ => by
  subst h5
  exact op_eqD hr.units pins s σ H x y v u Q I rx ry ⟨p, q, py_dp e _ i1 h1, py_dp e _ i2 h2, h3, h4, k _ F H (Nx.refl e) rfl⟩
theorem opD_ne (hr : Room k X.A) : OpD T X (compareOp .NotEq) (fun x y d => ∃ p q, x.py = some p ∧ y.py = some q ∧ SeqAt.shaped p = true ∧ SeqAt.shaped q = true ∧ d = .bl (!PyData.eqv p q)) := fun pins s σ H x y v u Q I rx ry ⟨F, dx, dy, d, e, nt, tb, i1, i2, ⟨p, q, h1, h2, h3, h4, h5⟩, k⟩ => by
  subst h5
  exact op_neD hr.units pins s σ H x y v u Q I rx ry ⟨p, q, py_dp e _ i1 h1, py_dp e _ i2 h2, h3, h4, k _ F H (Nx.refl e) rfl⟩
theorem tv_neD (hr : Room k X.A) (ha : EV T X a ss x) (hb : EV T X b ss y) (h1 : x.py = some p) (h2 : y.py = some q) (h3 : SeqAt.shaped p = true) (h4 : SeqAt.shaped q = true) : TV T X (.Compare a [.NotEq] [b] pos) ss (!PyData.eqv p q) :=
  tv_cmpD (opD_ne hr) ha hb ⟨p, q, h1, h2, h3, h4, rfl⟩
theorem tv_eqD (hr : Room k X.A) (ha : EV T X a ss x) (hb : EV T X b ss y) (h1 : x.py = some p) (h2 : y.py = some q) (h3 : SeqAt.shaped p = true) (h4 : SeqAt.shaped q = true) : TV T X (.Compare a [.Eq] [b] pos) ss (PyData.eqv p q) :=
  tv_cmpD (opD_eq hr) ha hb ⟨p, q, h1, h2, h3, h4, rfl⟩
end
/-! ### exceptions that are held -/
section
open PySem.ExS
variable {T : List (Addr × Str)} {X : Cx} {ss : SS} {e c : Expr} {es : List Expr} {d : D} {x f y : Str} {p pos : Pos} {C fI cc cda : Addr} {k : Nat}
theorem ev_exc1 (EC : ExCls X.prog X.K X.mg C fI cc cda) (Fn : ExFn1 X.K C fI cc cda f y) (hr : Room k X.A) (hm : X.mg x = some (.ref C)) (he : EV T X e ss d) (hg : Gl X x := by rfl) (hdb : (x == ("__debug__" : Str)) = false := by decide)
    (hst : starEach [e] X.env = [(false, eval e X.env)] := by rfl) (hpl : (backTo pos (starEach [] X.env)).any (·.1) = false := by rfl) : EV T X (.Call (.Name x p) [e] [] pos) ss (.exc C [f] [d]) :=
  EV.of (pe_exv1 EC Fn hr (evs_cons he evs_nil hst) hm hg hdb hst hpl) fun B F H σ Q R q => evs_go R fun vs F1 H1 n1 R1 i1 => by
    obtain ⟨v, rfl, h⟩ := isL1 i1
    refine ⟨v, rfl, fun a dd ha hd ne => ?_⟩
    have m1 := Nx.alloc (T := T) (o := exd dd [(f, v)]) R1.sub hd
    have ha' : upd H1 dd (exd dd [(f, v)]) a = none := by rw [upd_ne (Ne.symm ne)]; exact ha
    have m2 := Nx.alloc (T := T) (o := exo a C (some dd)) (F := upd F1 dd (exd dd [(f, v)])) m1.s ha'
    have m := (n1.trans m1).trans m2
    refine q _ _ _ m (R.grow m) ⟨a, some dd, [(f, v)], rfl, upd_same, rfl, .cons (Is.mono (m1.f.trans m2.f) _ h) .nil, fun d' e' => ?_, fun z => nomatch z⟩
    cases e'
    rw [upd_ne ne, upd_same]
theorem ev_exc0 (EC : ExCls X.prog X.K X.mg C fI cc cda) (Fn : ExFn0 X.K fI cc cda) (hr : Room k X.A) (hm : X.mg x = some (.ref C)) (hg : Gl X x := by rfl) (hdb : (x == ("__debug__" : Str)) = false := by decide) : EV T X (.Call (.Name x p) [] [] pos) ss (.exc C [] []) :=
  EV.of (pe_exv0 EC Fn hr hm hg hdb) fun B F H σ Q R q => fun a ha => by
    have m := Nx.alloc (T := T) (o := exo a C none) R.sub ha
    exact q _ _ _ m (R.grow m) ⟨a, none, [], rfl, upd_same, rfl, rfl, (fun d' e' => nomatch e'), fun _ => rfl⟩
theorem ev_excF (EC : ExCls X.prog X.K X.mg C fI cc cda) (hno : PySem.W.findIn X.K (.ref C) f = some none) (he : EV T X e ss (.exc C [f] [d])) (hb : attributeBase e f X.env (eval e X.env) = eval e X.env := by rfl) : EV T X (.Attribute e f pos) ss d :=
  EV.of (pe_exf EC hno he hb) fun B F H σ Q R q => ev_go R fun v F1 H1 n1 R1 i1 => by
    obtain ⟨a, od, fs, rfl, e1, e2, e3, e4, e5⟩ := i1
    cases fs with
    | nil => cases e2
    | cons q0 r =>
      cases r with
      | cons _ _ => cases e2
      | nil =>
        obtain ⟨g, v⟩ := q0
        obtain rfl : g = f := by simpa using e2
        obtain ⟨v', hv, iv⟩ := isL1 e3
        have : v = v' := by simpa using hv
        subst this
        cases od with
        | none => cases e5 rfl
        | some dd => exact ⟨a, dd, _, v, rfl, R1.sub _ _ e1, R1.sub _ _ (e4 dd rfl), by simp [List.lookup], q v F1 H1 n1 R1 iv⟩
/-- what isinstance asks of a class of exceptions -/
structure ExIs (K : PySem.W.Frag) (C : Addr) : Prop where
  cl : (PySem.W.clsIn K C).isSome = true
  ga : PySem.W.findIn K (.ref C) "__getattribute__" = some (some (.builtin "BaseException.__getattribute__"))
  gg : PySem.W.findIn K (.ref C) "__getattr__" = some none
  be : PySem.W.subIn K (.ref C) (.type "BaseException") = some true
  ca : PySem.W.findIn K (.ref C) "__class__" = some (some (.builtin "object.__class__"))
  gd : PySem.W.specialIn K (.builtin "object.__class__") "__get__" = some (some (.builtin "getset_descriptor.__get__"))
  tk : PySem.W.takesIn K (.builtin "object.__class__") = some true
  ob : PySem.W.mroIn K C (.type "object") = some true
def rIsE (K : PySem.W.Frag) : List V → Hp → VK → Prop := fun xs H Q => ∃ (a C : Addr) (od : Option Addr) (c : V) (u : Value) (b : Bool), xs = [.ref a, c] ∧ H a = some (exo a C od) ∧ (∀ d, od = some d → ∃ fs, H d = some (exd d fs)) ∧ ClsV c u ∧ ExIs K C ∧ PySem.W.kitOne K (.ref C) u = some b ∧ Q (.bl b) H
theorem call_isE : CallR X (.builtin "isinstance") (rIsE X.K) := by
  intro pins s σ H xs us Q I r h
  obtain ⟨a, C, od, c, u, b, rfl, ea, ed, k, T, e, q⟩ := h
  obtain ⟨u1, u2, rfl, r1, r2⟩ := vals2 r
  have e2 := k.eq r2
  subst e2
  cases r1
  obtain ⟨t1, ha⟩ := exo_at I.hok ea
  have J : ∃ oo, PySem.W.InstAt s.heap a { cls := .ref C, dict := od, data := .fields #[.ref t1, .none, .none, .none, .bool false, .none] } C oo := by
    cases od with
    | none => exact ⟨none, ha, rfl, rfl, trivial⟩
    | some d =>
      obtain ⟨fs, hd⟩ := ed d rfl
      obtain ⟨mA, ⟨o, es, ep, ho, _⟩, _⟩ := exd_at I.hok hd
      exact ⟨some o, ha, rfl, rfl, ho⟩
  obtain ⟨oo, J⟩ := J
  exact PySem.W.kia_one (PySem.W.kitx_exc (ox := { cls := .ref C, dict := od, data := .fields #[.ref t1, .none, .none, .none, .bool false, .none] }) (od := oo) T.cl T.ga T.gg T.be T.ca T.gd T.tk T.ob) I.kIn J e (fun z => nomatch z) fun tk => ⟨.bl b, H, I.tok tk, rfl, q⟩
/-- isinstance(e, D) -/
theorem ev_isE {ns : List Str} {xs : List D} {D' : Addr} {b : Bool} {cn : Str} {pc : Pos} (EC : ExIs X.K C) (he : EV T X e ss (.exc C ns xs)) (hcm : X.mg cn = some (.ref D')) (hk : PySem.W.kitOne X.K (.ref C) (.ref D') = some b) (hm : X.mg "isinstance" = none)
    (hcg : Gl X cn := by rfl) (hcd : (cn == ("__debug__" : Str)) = false := by decide) (hg : Gl X "isinstance" := by rfl) (hst : starEach [e, .Name cn pc] X.env = (false, eval e X.env) :: starEach [.Name cn pc] X.env := by rfl) (hst2 : starEach [.Name cn pc] X.env = [(false, eval (.Name cn pc) X.env)] := by rfl)
    (hpl : (backTo pos (starEach [.Name cn pc] X.env)).any (·.1) = false := by rfl) : EV T X (.Call (.Name "isinstance" p) [e, .Name cn pc] [] pos) ss (.bl b) :=
  EV.of (pe_callB call_isE hg hm (by decide +kernel) (pa_cons he (pa_cons (pe_glob hcg hcm (show RelV (.ref D') (.ref D') from rfl) hcd) pa_nil hst2) hst) (by decide) (by decide) hst hpl) fun B F H σ Q R q => ev_go R fun v F1 H1 n1 R1 i1 => by
    obtain ⟨a, od, fs, rfl, e1, e2, e3, e4, e5⟩ := i1
    exact ⟨a, C, od, _, _, b, rfl, R1.sub _ _ e1, fun d z => ⟨fs, R1.sub _ _ (e4 d z)⟩, .own D', EC, hk, q _ F1 H1 n1 R1 rfl⟩
/-- isinstance(e, ValueError) -/
theorem ev_isB {ns : List Str} {xs : List D} {b : Bool} {cn : Str} {tn : String} {pc : Pos} (EC : ExIs X.K C) (he : EV T X e ss (.exc C ns xs)) (hcm : X.mg cn = none) (hcv : bootBuiltins cn = some (.type tn)) (hk : PySem.W.kitOne X.K (.ref C) (.type tn) = some b) (hm : X.mg "isinstance" = none)
    (hcg : Gl X cn := by rfl) (hcn : cn ≠ "__name__" := by decide) (hcd : (cn == ("__debug__" : Str)) = false := by decide) (hg : Gl X "isinstance" := by rfl) (hst : starEach [e, .Name cn pc] X.env = (false, eval e X.env) :: starEach [.Name cn pc] X.env := by rfl) (hst2 : starEach [.Name cn pc] X.env = [(false, eval (.Name cn pc) X.env)] := by rfl)
    (hpl : (backTo pos (starEach [.Name cn pc] X.env)).any (·.1) = false := by rfl) : EV T X (.Call (.Name "isinstance" p) [e, .Name cn pc] [] pos) ss (.bl b) :=
  EV.of (pe_callB call_isE hg hm (by decide +kernel) (pa_cons he (pa_cons (pe_bltn hcg hcm hcv (show RelV (.ty tn) (.type tn) from rfl) hcn hcd) pa_nil hst2) hst) (by decide) (by decide) hst hpl) fun B F H σ Q R q => ev_go R fun v F1 H1 n1 R1 i1 => by
    obtain ⟨a, od, fs, rfl, e1, e2, e3, e4, e5⟩ := i1
    exact ⟨a, C, od, _, _, b, rfl, R1.sub _ _ e1, fun d z => ⟨fs, R1.sub _ _ (e4 d z)⟩, .ty tn, EC, hk, q _ F1 H1 n1 R1 rfl⟩
end
end Fd

set_option Elab.async false
set_option linter.all false
set_option maxRecDepth 100000
set_option maxHeartbeats 4000000
/-! Fd8: a, b = x, y; objects that are made: self.f = x in __init__, and C(..). -/
namespace Fd
open PySem PySem.Spec PyProof.Rows L2
section
variable {T : List (Addr × Str)} {X : Cx} {ss : SS} {P : Post} {a b c e : Expr} {es : List Expr} {d d1 d2 d3 : D} {x y z : Str} {pos : Pos}
theorem isL3 {K : PySem.W.Frag} {F : Hp} {x y z : D} {vs : List V} (h : IsL K F [x, y, z] vs) : ∃ u v w, vs = [u, v, w] ∧ Is K F x u ∧ Is K F y v ∧ Is K F z w := by
  obtain ⟨v, r, rfl, h1, h2⟩ := h
  obtain ⟨u, w, rfl, h3, h4⟩ := isL2 h2
  exact ⟨v, u, w, rfl, h1, h3, h4⟩
/-- a, b = x, y -/
theorem sv_par (i j : Nat) {px py pt : Pos} {kt k2 pt2} (he : EVs T X [a, b] ss [d1, d2]) (k : P.nx ((ss.set i (.d d1)).set j (.d d2))) (hN : X.N.Nodup) (hij : i ≠ j := by decide) (hc : X.calm = true := by rfl) (hi : X.N[i]? = some x := by rfl) (hj : X.N[j]? = some y := by rfl)
    (hx : X.env.scope.names.lookup x = some .local := by rfl) (hy : X.env.scope.names.lookup y = some .local := by rfl)
    (hw : swappedStores [.Tuple [.Name x px, .Name y py] kt pt] (.Tuple [a, b] k2 pt2) X.env = pure (some [x, y]) := by rfl)
    (hs : swapsWithSole [.Tuple [.Name x px, .Name y py] kt pt] (.Tuple [a, b] k2 pt2) pos.line X.env = pure false := by rfl) : SV T X (.Assign [.Tuple [.Name x px, .Name y py] kt pt] (.Tuple [a, b] k2 pt2) pos) ss P :=
  SV.of (ps_par hc hN hi hj hij hx hy he hw hs) fun B F H σ Dn R g => evs_go R fun vs F1 H1 n1 R1 i1 => by
    obtain ⟨v, w, rfl, h1, h2⟩ := isL2 i1
    exact ⟨v, w, rfl, g.nx _ _ _ _ k ((R1.put h1).put h2)⟩
theorem sv_par3 (i j l : Nat) {px py pz pt : Pos} {kt k2 pt2} (he : EVs T X [a, b, c] ss [d1, d2, d3]) (k : P.nx (((ss.set i (.d d1)).set j (.d d2)).set l (.d d3))) (hN : X.N.Nodup) (hij : i ≠ j := by decide) (hil : i ≠ l := by decide) (hjl : j ≠ l := by decide) (hc : X.calm = true := by rfl)
    (hi : X.N[i]? = some x := by rfl) (hj : X.N[j]? = some y := by rfl) (hl : X.N[l]? = some z := by rfl)
    (hx : X.env.scope.names.lookup x = some .local := by rfl) (hy : X.env.scope.names.lookup y = some .local := by rfl) (hz : X.env.scope.names.lookup z = some .local := by rfl)
    (hw : swappedStores [.Tuple [.Name x px, .Name y py, .Name z pz] kt pt] (.Tuple [a, b, c] k2 pt2) X.env = pure (some [x, y, z]) := by rfl)
    (hs : swapsWithSole [.Tuple [.Name x px, .Name y py, .Name z pz] kt pt] (.Tuple [a, b, c] k2 pt2) pos.line X.env = pure false := by rfl) : SV T X (.Assign [.Tuple [.Name x px, .Name y py, .Name z pz] kt pt] (.Tuple [a, b, c] k2 pt2) pos) ss P :=
  SV.of (ps_par3 hc hN hi hj hl hij hil hjl hx hy hz he hw hs) fun B F H σ Dn R g => evs_go R fun vs F1 H1 n1 R1 i1 => by
    obtain ⟨u, v, w, rfl, h1, h2, h3⟩ := isL3 i1
    exact ⟨u, v, w, rfl, g.nx _ _ _ _ k (((R1.put h1).put h2).put h3)⟩
/-- // by a divisor of either sign, not too great -/
def CDivX (_ j : Int) : Prop := j ≠ 0 ∧ j.natAbs.log2 < 9000
theorem op_fdivX : OpR X (binaryOp .FloorDiv) (rI CDivX fun i j => .int (i.fdiv j)) := opI fun _ _ _ _ _ _ _ hc q => floordiv_int hc.1 q (.inl (PyProof.noPylong_of_log2 hc.2))
theorem ev_fdivX {i j : Int} (hc : CDivX i j) (ha : EV T X a ss (.int i)) (hb : EV T X b ss (.int j)) : EV T X (.BinOp a .FloorDiv b pos) ss (.int (i.fdiv j)) :=
  ev_op op_fdivX ha hb fun B F H σ v u Q R i1 i2 q => ⟨i, j, i1, i2, hc, q _ F H R.nx R rfl⟩
/-! ### objects -/
theorem putF_new {f : Str} {v : V} : ∀ {fs : List (Str × V)}, f ∉ fs.map (·.1) → putF f v fs = fs ++ [(f, v)]
  | [], _ => rfl
  | (g, u) :: r, h => by
    have ne : g ≠ f := fun z => h (by simp [z])
    show (if g = f then (g, v) :: r else (g, u) :: putF f v r) = _
    rw [if_neg ne, putF_new (fs := r) fun z => h (by simp at z ⊢; exact .inr z)]
    rfl
/-- self.f = e, a new field -/
theorem sv_fldO (i : Nat) {p C : Addr} {ns : List Str} {xs : List D} {f s : Str} {po pa : Pos} (hi : ss[i]? = some (.obj p C ns xs)) (he : EV T X e ss d) (k : P.nx (ss.set i (.obj p C (ns ++ [f]) (xs ++ [d])))) (cl : Cls X.K C) (na : NoAttr X.K C f) (nf : f ∉ ns) (hl : ns.length < 1000)
    (hN : X.N[i]? = some s := by rfl) (hv : Vis X.env.scope s := by first | exact Or.inl rfl | exact Or.inr (Or.inl rfl) | exact Or.inr (Or.inr rfl)) (hd : (s == ("__debug__" : Str)) = false := by decide) (hcd : (s == ("__classdict__" : Str)) = false := by decide)
    (hs : swapsWith e (some (.Attribute (.Name s po) f pa)) pos.line X.env = pure false := by rfl) : SV T X (.Assign [.Attribute (.Name s po) f pa] e pos) ss P :=
  SV.of (ps_fld (pe_var hN hv hd hcd) he hs) fun B F H σ Dn R g => ev_go R fun v F1 H1 n1 R1 i1 => by
    have hsl : i < σ.length := by rw [R1.len]; exact (List.getElem?_eq_some_iff.mp hi).1
    obtain ⟨dx, fs, e1, e2, e3, e4, e5⟩ := R1.slots i _ _ hi (List.getElem?_eq_getElem hsl)
    have hσ : σ[i]? = some (some (.ref p)) := by rw [List.getElem?_eq_getElem hsl, e1]
    subst e4
    have key := R1.chg (o := .ins C dx (putF f v fs)) (s' := .obj p C (fs.map (·.1) ++ [f]) (xs ++ [d])) hi rfl hσ rfl e2 ⟨dx, _, rfl, e2, upd_same, by rw [putF_new nf]; simp, by rw [putF_new nf, List.map_append]; exact e5.snoc i1⟩
    exact ⟨.ref p, hσ, p, C, dx, fs, rfl, e3, cl, na, by simpa using hl, g.nx _ _ F1 _ k key⟩
end
section
variable {T : List (Addr × Str)} {K : PySem.W.Frag} {B : Hp × Hp} {F H : Hp} {σ : L2.St} {ss : SS}
/-- an own object is never changed again: a datum -/
theorem StR.freezeO {i : Nat} {C : Addr} {ns : List Str} {xs : List D} {p : Addr} (R : StR T K B F H σ ss) (h : ss[i]? = some (.obj p C ns xs)) : ∃ F', Nx T B.1 B.2 F' H ∧ Is K F' (.ins C ns xs) (.ref p) := by
  have hi : i < ss.length := (List.getElem?_eq_some_iff.mp h).1
  have hsl : i < σ.length := by rw [R.len]; exact hi
  obtain ⟨dx, fs, e, e1, e2, e3, e4⟩ := R.slots i _ _ h (List.getElem?_eq_getElem hsl)
  have hσ : σ[i]? = some (some (.ref p)) := by rw [List.getElem?_eq_getElem hsl, e]
  have hB := R.own i _ p h rfl hσ
  have xF : Ext F (upd F p (.ins C dx fs)) := Ext.upd e1
  refine ⟨upd F p (.ins C dx fs), ⟨R.bF.trans xF, R.bH, fun q u z => ?_, fun q ps z => ?_, fun q u z => ?_⟩, p, dx, fs, rfl, upd_same, e3, IsL.mono xF _ e4⟩
  · by_cases hq : q = p
    · subst hq; rw [upd_same] at z; rw [e2]; exact z
    · rw [upd_ne hq] at z; exact R.sub q u z
  · by_cases hq : q = p
    · subst hq; rw [upd_same] at z; cases z
    · rw [upd_ne hq] at z; exact absurd z (R.nt q ps)
  · by_cases hq : q = p
    · subst hq; exact .inr hB
    · rw [upd_ne hq] at z; exact R.new q u z
end
/-- an __init__ that makes of the data ds the object d of the class C -/
def spM (T : List (Addr × Str)) (K : PySem.W.Frag) (C : Addr) (n : Nat) (pre : List D → List Str → List D → Prop) : Sp := fun vs H Q _ => ∃ H0 F p dx us ds ns xs, vs = .ref p :: us ∧ H0 p = none ∧ H0 dx = none ∧ dx ≠ p ∧ H = upd (upd H0 dx (.own p)) p (.ins C dx []) ∧ Ext F H0 ∧ (∀ p ps, F p ≠ some (.tbl ps)) ∧ LamX.Tabs T H0 ∧ IsL K F ds us ∧ ds.length = n ∧ pre ds ns xs ∧
  ∀ F1 H1, Nx T F H0 F1 H1 → Is K F1 (.ins C ns xs) (.ref p) → Q .non H1
def startO (p C : Addr) (N : List Str) (ds : List D) : SS := S.obj p C [] [] :: (ds.map S.d ++ List.replicate (N.length - (ds.length + 1)) S.no)
section
variable {T : List (Addr × Str)} {P : Program} {w : World} {K : PySem.W.Frag} {mg : Str → Option Value} {base : Heap} {C : Addr}
theorem start_strO {N : List Str} {F H : Hp} {ds : List D} {us : List V} {p dx : Addr} (hp : H p = none) (hd : H dx = none) (ne : dx ≠ p) (x : Ext F H) (nt : ∀ p ps, F p ≠ some (.tbl ps)) (tb : LamX.Tabs T H) (h : IsL K F ds us) :
    StR T K (F, H) F (upd (upd H dx (.own p)) p (.ins C dx [])) (L2.start N (.ref p :: us)) (startO p C N ds) := by
  have hF : ∀ q, H q = none → F q = none := fun q e => by
    cases z : F q with
    | none => rfl
    | some u => rw [x q u z] at e; cases e
  have hH : Ext H (upd (upd H dx (.own p)) p (.ins C dx [])) := (Ext.upd hd).trans (Ext.upd (by rw [upd_ne (Ne.symm ne)]; exact hp))
  have m0 : ∀ (i : Nat) (s : S), (startO p C N ds)[i]? = some s → s.mine = true → i = 0 := fun i s e m => by
    cases i with
    | zero => rfl
    | succ i =>
      have := start_mine (i := i) (m := N.length - (ds.length + 1)) (ds := ds) (s := s) (by simpa [startO] using e)
      rw [this] at m; cases m
  refine ⟨?_, fun _ _ h => h, .of hH, x.trans hH, nt, tb.ext hH, fun q o e => .inl (by show F q ≠ none; rw [e]; exact fun z => nomatch z), fun i s o e1 e2 => ?_, fun i s q e1 m e2 => ?_, fun i j s t q e1 e2 m1 m2 _ _ => (m0 i s e1 m1).trans (m0 j t e2 m2).symm⟩
  · unfold L2.start startO; simp [h.length]
  · cases i with
    | zero =>
      simp [startO] at e1
      subst e1
      simp [L2.start] at e2
      subst e2
      exact ⟨dx, [], rfl, hF p hp, upd_same, rfl, rfl⟩
    | succ i =>
      have e1' : (ds.map S.d ++ List.replicate (N.length - (ds.length + 1)) S.no)[i]? = some s := by simpa [startO] using e1
      have e2' : (us.map some ++ List.replicate (N.length - (ds.length + 1)) none)[i]? = some o := by
        simpa [L2.start, h.length] using e2
      have q := start_slots (N := N) (F := F) (H := H) _ i s o h e1' e2'
      have mm := start_mine e1'
      cases s with
      | no => exact True.intro
      | d x => exact q
      | own _ => cases mm
      | obj _ _ _ _ => cases mm
      | dic _ _ => cases mm
  · have z := m0 i s e1 m
    subst z
    simp [L2.start] at e2
    subst e2
    exact .of hp
/-- a def of the text as it stands behind the top, its code object cdv; defaults let -/
structure FunZ (K : PySem.W.Frag) (x qual : Str) (st : Stmt) (f : Addr) (fd : FuncData) (cdv : Value) : Prop where
  ex : ∃ (oc : Value) (od : Option Addr) (dV kV doc pm : Value) (an : Option Addr) (ct : Value) (osl : Array (Option Value)),
    fd = PySem.W.fnOf x qual (defArgs st) (defBody st) (defScope st) dV kV doc pm an cdv ct ∧ K.lookup f = some ⟨oc, od, .func fd, osl⟩ ∧ PySem.W.codeIn K cdv qual = true
  kp : PySem.W.keepIn K (.ref f) = true
theorem FunZ.ok {CX : CXT} {x qual : Str} {st : Stmt} {f : Addr} {fd : FuncData} {cdv : Value} {N ps : List Str} {k : Nat} {sp : Sp} (F : FunZ K x qual st f fd cdv) (S : FnScope N ps (defScope st)) (len : ∀ vs H Q E, sp vs H Q E → vs.length = ps.length)
    (h : ∀ (A : Around) (outer : List Env) (s : Shared) (H : Hp) (vs : List V) (Q : VK) (E : XK), Room k (A.deeper (envOfC qual (defScope st) s.heap.objs.size f cdv)) → sp vs H Q E →
      ∃ t, PSs (cxOf CX P w K mg base N qual (defScope st) f cdv A outer s H E) (defBody st) t ∧ t { nx := fun _ H' => Q .non H', rt := Q } (L2.start N vs) H) : FnOk P w K mg base CX (k + 1) f fd ps sp := by
  obtain ⟨oc, od, dV, kV, doc, pm, an, ct, osl, rfl, lk, hcd⟩ := F.ex
  exact fn_of lk hcd S len h
theorem Fun.z {x qual : Str} {st : Stmt} {f : Addr} {fd : FuncData} (F : Fun K x qual st f fd) : ∃ cdv, FunZ K x qual st f fd cdv := by
  obtain ⟨oc, od, kV, doc, pm, an, cdv, ct, osl, e, lk, hcd⟩ := F.ex
  exact ⟨cdv, ⟨oc, od, .none, kV, doc, pm, an, ct, osl, e, lk, hcd⟩, F.kp⟩
/-- THE RULE for an __init__ -/
theorem init_ok {x qual : Str} {st : Stmt} {f : Addr} {fd : FuncData} {N ps : List Str} {k n : Nat} {pre : List D → List Str → List D → Prop} {cdv : Value} (F : FunZ K x qual st f fd cdv) (S' : FnScope N ps (defScope st)) (hn : ps.length = n + 1)
    (h : ∀ (A : Around) (outer : List Env) (s : Shared) (H : Hp) (E : XK) (p : Addr) (ds : List D) (ns : List Str) (xs : List D), Room k (A.deeper (envOfC qual (defScope st) s.heap.objs.size f cdv)) → ds.length = n → pre ds ns xs →
      SVs T (bodyX CX0 P w K mg base N qual st f cdv A outer s H E) (defBody st) (startO p C N ds) { nx := fun ss => ss[0]? = some (.obj p C ns xs), rt := fun _ => False }) : FnOk P w K mg base CX0 (k + 1) f fd ps (spM T K C n pre) := by
  refine F.ok S' (fun vs H Q E ⟨H0, F, p, dx, us, ds, ns, xs, e, _, _, _, _, _, _, _, i, l, _⟩ => by rw [e, hn, List.length_cons, i.length, l]) (fun A outer s H vs Q E hr hsp => ?_)
  obtain ⟨H0, F0, p, dx, us, ds, ns, xs, e, hp, hd, ne, rfl, xF, nt, tb, i, l, pr, q⟩ := hsp
  subst e
  refine ⟨_, (h A outer s _ E p ds ns xs hr l pr).nox, (F0, H0), F0, _, _, ⟨rfl, rfl⟩, start_strO hp hd ne xF nt tb i, fun ss' σ' F1 H1 e R1 => ?_, fun _ _ _ _ _ _ z => z.elim, fun _ _ _ _ z => z.elim, fun _ _ _ _ z => z.elim⟩
  obtain ⟨F2, n2, i2⟩ := R1.freezeO e
  exact q F2 H1 n2 i2
end
section
variable {T : List (Addr × Str)} {X : Cx} {ss : SS} {e : Expr} {es : List Expr} {d : D} {ds : List D} {x : Str} {p pos : Pos} {n k : Nat} {C : Addr} {ns : List Str} {xs : List D} {pre : List D → List Str → List D → Prop}
/-- the class under the module's name x, made of n data (level k), its defaults dvs -/
def MD (T : List (Addr × Str)) (P : Program) (w : World) (K : PySem.W.Frag) (mg : Str → Option Value) (base : Heap) (x : Str) (C : Addr) (n k : Nat) (pre : List D → List Str → List D → Prop) : Prop :=
  ∃ f fd ps, mg x = some (.ref C) ∧ Mk K C f ∧ ps.length = n + 1 ∧ FnOk P w K mg base CX0 k f fd ps (spM T K C n pre) ∧ Binds K fd ps []
/-- C(..) -/
theorem ev_make (G : MD T X.prog X.w X.K X.mg X.base x C n k pre) (hr : Room (k + 1) X.A) (ha : EVs T X (e :: es) ss ds) (hp : pre ds ns xs) (hn : ds.length = n := by rfl) (hg : Gl X x := by rfl) (hdb : (x == ("__debug__" : Str)) = false := by decide)
    (he : starEach (e :: es) X.env = (false, eval e X.env) :: starEach es X.env := by rfl) (hpl : (backTo pos (starEach es X.env)).any (·.1) = false := by rfl) : EV T X (.Call (.Name x p) (e :: es) [] pos) ss (.ins C ns xs) := by
  obtain ⟨f, fd, ps, h1, h2, h3, h4, h5⟩ := G
  refine EV.of (pe_make (E := E0) h2 h4 hr hg h1 h5 .nil pass0 ha hdb he hpl) fun B F H σ Q R q => evs_go R fun vs F1 H1 n1 R1 i1 => fun y dx hy hdx ne => ?_
  rw [List.append_nil]
  exact ⟨H1, F1, y, dx, vs, ds, ns, xs, rfl, hy, hdx, ne, rfl, R1.sub, R1.nt, R1.tb, i1, hn, hp, fun F2 H2 n2 i2 => ⟨rfl, q _ F2 H2 (n1.trans n2) (R1.grow n2) i2⟩⟩
end
end Fd

set_option Elab.async false
set_option linter.all false
set_option maxRecDepth 100000
set_option maxHeartbeats 4000000
/-! Fd9: isinstance of data. -/
namespace Fd
open PySem PySem.Spec PyProof.Rows L2
/-- what isinstance asks of the class of an own object -/
structure InK (K : PySem.W.Frag) (C : Addr) : Prop where
  cl : Cls K C
  ca : PySem.W.findIn K (.ref C) "__class__" = some (some (.builtin "object.__class__"))
  gd : PySem.W.specialIn K (.builtin "object.__class__") "__get__" = some (some (.builtin "getset_descriptor.__get__"))
  tk : PySem.W.takesIn K (.builtin "object.__class__") = some true
  ob : PySem.W.mroIn K C (.type "object") = some true
def D.cls (K : PySem.W.Frag) : D → Prop
  | .ins C _ _ => InK K C
  | .rdl _ => False
  | _ => True
theorem is_tyx {K : PySem.W.Frag} {F H : Hp} {d : D} {v : V} {t : Value} (h : d.ty? = some t) (c : d.cls K) (i : Is K F d v) (e : Ext F H) : TyX K H v t := by
  cases d with
  | non => cases i; cases h; exact .base .non
  | bl b => cases i; cases h; exact .base (.bl b)
  | int z => cases i; cases h; exact .base (.int z)
  | str z => cases i; cases h; exact .base (.str z)
  | lst xs => obtain ⟨a, vs, rfl, e1, _⟩ := i; cases h; exact .base (.lst (e _ _ e1))
  | ins C ns xs => obtain ⟨a, dx, fs, rfl, e1, _⟩ := i; cases h; exact .base (.ins (e _ _ e1) c.cl c.ca c.gd c.tk c.ob)
  | dct ks xs => obtain ⟨a, kvs, rfl, e1, _⟩ := i; cases h; exact .base (.dK (e _ _ e1))
  | tup xs =>
    obtain ⟨a, vs, rfl, e1, _⟩ := i
    cases h
    rcases ext_seqT e e1 with q | ⟨o, its, n, q1, q2, _⟩
    · rcases q with q | ⟨o, q⟩
      · exact .base (.tup q)
      · exact .fTuple q
    · exact .kTuple q1 q2
  | rdl _ => exact c.elim
  | _ => cases h
section
variable {T : List (Addr × Str)} {X : Cx} {ss : SS} {e : Expr} {d : D} {t : Value} {b : Bool} {cn : Str} {tn : String} {C : Addr} {p pc pos : Pos}
/-- isinstance(e, T), T a built-in type -/
theorem ev_isT (he : EV T X e ss d) (ht : d.ty? = some t) (hd : d.cls X.K) (hk : PySem.W.kitOne X.K t (.type tn) = some b) (hcm : X.mg cn = none) (hcv : bootBuiltins cn = some (.type tn)) (hm : X.mg "isinstance" = none)
    (hcg : Gl X cn := by rfl) (hcn : cn ≠ "__name__" := by decide) (hcd : (cn == ("__debug__" : Str)) = false := by decide) (hg : Gl X "isinstance" := by rfl) (hst : starEach [e, .Name cn pc] X.env = (false, eval e X.env) :: starEach [.Name cn pc] X.env := by rfl) (hst2 : starEach [.Name cn pc] X.env = [(false, eval (.Name cn pc) X.env)] := by rfl)
    (hpl : (backTo pos (starEach [.Name cn pc] X.env)).any (·.1) = false := by rfl) : EV T X (.Call (.Name "isinstance" p) [e, .Name cn pc] [] pos) ss (.bl b) :=
  EV.of (pe_callB call_isi hg hm (by decide +kernel) (pa_cons he (pa_cons (pe_bltn hcg hcm hcv (show RelV (.ty tn) (.type tn) from rfl) hcn hcd) pa_nil hst2) hst) (by decide) (by decide) hst hpl) fun B F H σ Q R q => ev_go R fun v F1 H1 n1 R1 i1 =>
    ⟨v, .ty tn, t, .type tn, b, rfl, .ty tn, is_tyx ht hd i1 R1.sub, hk, q _ F1 H1 n1 R1 rfl⟩
/-- isinstance(e, C), C an own class -/
theorem ev_isO (he : EV T X e ss d) (ht : d.ty? = some t) (hd : d.cls X.K) (hk : PySem.W.kitOne X.K t (.ref C) = some b) (hcm : X.mg cn = some (.ref C)) (hm : X.mg "isinstance" = none)
    (hcg : Gl X cn := by rfl) (hcd : (cn == ("__debug__" : Str)) = false := by decide) (hg : Gl X "isinstance" := by rfl) (hst : starEach [e, .Name cn pc] X.env = (false, eval e X.env) :: starEach [.Name cn pc] X.env := by rfl) (hst2 : starEach [.Name cn pc] X.env = [(false, eval (.Name cn pc) X.env)] := by rfl)
    (hpl : (backTo pos (starEach [.Name cn pc] X.env)).any (·.1) = false := by rfl) : EV T X (.Call (.Name "isinstance" p) [e, .Name cn pc] [] pos) ss (.bl b) :=
  EV.of (pe_callB call_isi hg hm (by decide +kernel) (pa_cons he (pa_cons (pe_glob hcg hcm (show RelV (.ref C) (.ref C) from rfl) hcd) pa_nil hst2) hst) (by decide) (by decide) hst hpl) fun B F H σ Q R q => ev_go R fun v F1 H1 n1 R1 i1 =>
    ⟨v, .ref C, t, .ref C, b, rfl, .own C, is_tyx ht hd i1 R1.sub, hk, q _ F1 H1 n1 R1 rfl⟩
end
end Fd

set_option Elab.async false
set_option linter.all false
set_option maxRecDepth 100000
set_option maxHeartbeats 4000000
/-! Fd10: the end of a law's proof: the script among the data. -/
namespace Fd
open PySem PySem.Spec PyProof.Rows L2
/-- the heap without its tables of code objects -/
def noTbl (H : Hp) : Hp := fun p => match H p with
  | some (.tbl _) => none
  | o => o
theorem noTbl_ext (H : Hp) : Ext (noTbl H) H := fun p o e => by
  unfold noTbl at e
  split at e
  · cases e
  · exact e
theorem noTbl_nt (H : Hp) : ∀ p ps, noTbl H p ≠ some (.tbl ps) := fun p ps e => by
  unfold noTbl at e
  split at e
  · cases e
  · rename_i h; exact h ps e
theorem noTbl_at {H : Hp} {p : Addr} {o : HO} (h : H p = some o) (n : ∀ ps, o ≠ .tbl ps) : noTbl H p = some o := by
  unfold noTbl
  rw [h]
  split
  · rename_i ps e; cases e; exact absurd rfl (n ps)
  · rfl
theorem noTbl_seq {K : PySem.W.Frag} {H : Hp} {a : Addr} {vs : List V} (h : SqL K H a vs) : SqL K (noTbl H) a vs := by
  rcases h with q | q
  · rcases q with q | ⟨o, q⟩
    · exact .inl (.inl (noTbl_at q fun _ z => nomatch z))
    · exact .inl (.inr ⟨o, noTbl_at q fun _ z => nomatch z⟩)
  · exact .inr q
theorem ints_is {K : PySem.W.Frag} {H : Hp} : ∀ ns : List Int, IsL K H (ns.map D.int) (ns.map V.int)
  | [] => rfl
  | n :: r => ⟨_, _, rfl, rfl, ints_is r⟩
/-- what the law's def is asked of -/
def pLaw (ds : List D) (d : D) : Prop := ∃ ns : List Int, ds = [.rdl (ns.map D.int)] ∧ ns.length ≤ 63 ∧ d = .bl true
/-- THE END: the goal that k_head and k_fill leave, from the contract of the law's def (level k, parameter x) -/
theorem walk {l : PySem.W.OpenLaw} {q : Program} {loose : List Str} {XP : (Str → Option Value) → Heap → Prop} {YP : World → Heap → Prop} {d : DefRec} {K : Params → PySem.W.Frag} {x : Str} (k : Nat) (hk : Room k callerA) (hn : l.most = some 63) (hdf : d.params.defaults = [])
    (hY : ∀ (w : World) (h : Heap), YP w h → (K w.params).In h)
    (F : ∀ (w : World) (mg : Str → Option Value) (fa : Addr) (h : Heap), (K w.params).In h → h.Ns mainGlobals mg → mg d.name = some (.ref fa) →
      ∃ fd : FuncData, (∀ (s : Shared) (u : Value), BindsTo s fd ⟨[u], []⟩ [(x, u)]) ∧ ∀ base : Heap, (K w.params).In base → base.Ns mainGlobals mg → FnOk l.prog w (K w.params) mg base CX0 k fa fd [x] (spD [] (K w.params) 1 pLaw)) :
    PySem.W.WalkO q loose XP YP l.row.toRowW d [] (fun f vs => PySem.call f vs) :=
  L2.walk_of (n := 63) (k := k) (x := x) (CX := fun _ => CX0) (sp := fun w => spD [] (K w.params) 1 pLaw) hn (by decide) hdf hk hY F
    (fun w H a ns hl _ hS => ⟨noTbl H, [.rdl (ns.map D.int)], .bl true, noTbl_ext H, noTbl_nt H, (fun p hp => nomatch hp), ⟨_, _, rfl, ⟨a, ns.map V.int, rfl, noTbl_seq hS, ints_is ns⟩, rfl⟩, rfl, ⟨ns, rfl, hl, rfl⟩, fun v F1 H1 _ e => e⟩) fun _ _ _ _ _ z => z
end Fd

set_option Elab.async false
set_option linter.all false
set_option maxRecDepth 100000
set_option maxHeartbeats 4000000
/-! Fd11: zip and enumerate. -/
namespace Fd
open PySem PySem.Spec PyProof.Rows L2
def zips (xs ys : List D) : List D := (xs.zip ys).map fun p => .tup [p.1, p.2]
theorem zips_get {xs ys : List D} {i : Nat} {x y : D} (h1 : xs[i]? = some x) (h2 : ys[i]? = some y) : (zips xs ys)[i]? = some (.tup [x, y]) := by
  unfold zips
  rw [List.getElem?_map, List.getElem?_zip_eq_some (z := (x, y)) |>.mpr ⟨h1, h2⟩]
  rfl
theorem pair_new {T : List (Addr × Str)} {K : PySem.W.Frag} {F H : Hp} {q : Addr} {x y : D} {v u : V} (s : Ext F H) (h : H q = none) (ix : Is K F x v) (iy : Is K F y u) : Nx T F H (upd F q (.tup [v, u])) (upd H q (.tup [v, u])) ∧ Is K (upd F q (.tup [v, u])) (.tup [x, y]) (.ref q) := by
  have n := Nx.alloc (T := T) (o := .tup [v, u]) s h
  exact ⟨n, q, [v, u], rfl, SqT.of upd_same, .cons (Is.mono n.f _ ix) (.cons (Is.mono n.f _ iy) .nil)⟩
section
variable {T : List (Addr × Str)} {X : Cx} {ss : SS} {e e2 : Expr} {xs ys : List D} {p pos tpos : Pos} {elts : List Expr} {kk : Nat}
theorem iv_zip (ha : EV T X e ss (.lst xs)) (hb : EV T X e2 ss (.lst ys)) (hm : X.mg "zip" = none) (hg : Gl X "zip" := by rfl) (hs : starEach [e, e2] X.env = (false, eval e X.env) :: starEach [e2] X.env := by rfl) (hs2 : starEach [e2] X.env = [(false, eval e2 X.env)] := by rfl)
    (hpl : (backTo pos (starEach [e2] X.env)).any (·.1) = false := by rfl) : IV T X (.Tuple elts kk tpos) (.Call (.Name "zip" p) [e, e2] [] pos) ss (zips xs ys) :=
  IV.of (pi_zip hg hm (evs_cons ha (evs_cons hb evs_nil hs2) hs) hs hpl) fun B F H σ R R0 q => evs_go R0 fun vs F1 H1 n1 R1 i1 => by
    obtain ⟨v, w, rfl, h1, h2⟩ := isL2 i1
    obtain ⟨a, us, rfl, a1, a2⟩ := h1
    obtain ⟨b, ws, rfl, b1, b2⟩ := h2
    refine ⟨a, b, us, ws, rfl, SqL.of (R1.sub _ _ a1), SqL.of (R1.sub _ _ b1), q _ F1 H1 n1 R1 ⟨fun i F H x1 x2 hi => ?_, fun F H x1 x2 => ?_⟩⟩
    · have hl : i < xs.length ∧ i < ys.length := by
        simp [zips] at hi; exact ⟨by omega, by omega⟩
      have sa : SqL X.K H a us := SqL.of (x2 _ _ (x1 _ _ a1))
      have sb : SqL X.K H b ws := SqL.of (x2 _ _ (x1 _ _ b1))
      obtain ⟨v, hv, iv⟩ := IsL.get' a2 (List.getElem?_eq_getElem hl.1)
      obtain ⟨u, hu, iu⟩ := IsL.get' b2 (List.getElem?_eq_getElem hl.2)
      refine ⟨⟨us, ws, v, u, sa, sb, hv, hu⟩, fun x H' y => ?_⟩
      obtain ⟨T, v', u', rfl, hT, rfl, g1, g2⟩ := y
      have e1 := g1 us sa
      have e2 := g2 ws sb
      rw [hv] at e1; rw [hu] at e2
      cases e1; cases e2
      obtain ⟨n, it⟩ := pair_new x2 hT (Is.mono x1 _ iv) (Is.mono x1 _ iu)
      exact ⟨_, _, n, zips_get (List.getElem?_eq_getElem hl.1) (List.getElem?_eq_getElem hl.2), it⟩
    · refine ⟨us, ws, SqL.of (x2 _ _ (x1 _ _ a1)), SqL.of (x2 _ _ (x1 _ _ b1)), ?_⟩
      rw [a2.length, b2.length]
      simp [zips]; omega
/-- (0, x), (1, y), .. -/
def nums : Nat → List D → List D
  | _, [] => []
  | k, x :: xs => .tup [.int (k : Nat), x] :: nums (k + 1) xs
theorem nums_len : ∀ (xs : List D) (k : Nat), (nums k xs).length = xs.length
  | [], _ => rfl
  | x :: xs, k => by simp [nums, nums_len xs]
theorem nums_get : ∀ (xs : List D) (k i : Nat) (x : D), xs[i]? = some x → (nums k xs)[i]? = some (.tup [.int ((k + i : Nat) : Int), x])
  | [], _, _, _, h => by simp at h
  | y :: ys, k, 0, x, h => by simp at h; subst h; rfl
  | y :: ys, k, i + 1, x, h => by
    simp at h
    have := nums_get ys (k + 1) i x h
    rw [show k + 1 + i = k + (i + 1) by omega] at this
    simpa [nums] using this
theorem iv_enum (ha : EV T X e ss (.lst xs)) (hm : X.mg "enumerate" = none) (hg : Gl X "enumerate" := by rfl) (hs : starEach [e] X.env = [(false, eval e X.env)] := by rfl) : IV T X (.Tuple elts kk tpos) (.Call (.Name "enumerate" p) [e] [] pos) ss (nums 0 xs) :=
  IV.of (pi_enum hg hm (evs_cons ha evs_nil hs) hs) fun B F H σ R R0 q => evs_go R0 fun vs F1 H1 n1 R1 i1 => by
    obtain ⟨v, rfl, h1⟩ := isL1 i1
    obtain ⟨a, us, rfl, a1, a2⟩ := h1
    refine ⟨a, us, rfl, SqL.of (R1.sub _ _ a1), q _ F1 H1 n1 R1 ⟨fun i F H x1 x2 hi => ?_, fun F H x1 x2 => ?_⟩⟩
    · have hl : i < xs.length := by rw [nums_len] at hi; exact hi
      have sa : SqL X.K H a us := SqL.of (x2 _ _ (x1 _ _ a1))
      obtain ⟨v, hv, iv⟩ := IsL.get' a2 (List.getElem?_eq_getElem hl)
      refine ⟨⟨us, v, sa, hv⟩, fun x H' y => ?_⟩
      obtain ⟨T, v', rfl, hT, rfl, g1⟩ := y
      have e1 := g1 us sa
      rw [hv] at e1
      cases e1
      obtain ⟨n, it⟩ := pair_new (K := X.K) (x := .int (i : Nat)) (v := .int (i : Nat)) x2 hT rfl (Is.mono x1 _ iv)
      refine ⟨_, _, n, nums_get xs 0 i _ (List.getElem?_eq_getElem hl), ?_⟩
      rw [Nat.zero_add]
      exact it
    · refine ⟨us, SqL.of (x2 _ _ (x1 _ _ a1)), ?_⟩
      rw [a2.length, nums_len]
      exact Nat.le_refl _
end
end Fd

set_option Elab.async false
set_option linter.all false
set_option maxRecDepth 100000
set_option maxHeartbeats 4000000
/-! Fd12: C(..) with default values; a target among cells. -/
namespace Fd
open PySem PySem.Spec PyProof.Rows L2
section
variable {T : List (Addr × Str)} {X : Cx} {ss : SS} {P : Post} {e a b c : Expr} {es : List Expr} {ds dd : List D} {d1 d2 d3 : D} {x y z : Str} {p pos : Pos} {n k : Nat} {C : Addr} {ns : List Str} {xs : List D} {pre : List D → List Str → List D → Prop} {dvs : List V} {dds : List Value}
/-- the class under the module's name x, made of n data, the last of them by default dds -/
def MDd (T : List (Addr × Str)) (P : Program) (w : World) (K : PySem.W.Frag) (mg : Str → Option Value) (base : Heap) (x : Str) (C : Addr) (n k : Nat) (pre : List D → List Str → List D → Prop) (dds : List Value) : Prop :=
  ∃ f fd ps, mg x = some (.ref C) ∧ Mk K C f ∧ ps.length = n + 1 ∧ FnOk P w K mg base CX0 k f fd ps (spM T K C n pre) ∧ Binds K fd ps dds
theorem ev_makeD (G : MDd T X.prog X.w X.K X.mg X.base x C n k pre dds) (hd : Vals dvs dds) (hI : ∀ F : Hp, IsL X.K F dd dvs) (hr : Room (k + 1) X.A) (ha : EVs T X (e :: es) ss ds) (hp : pre (ds ++ dd) ns xs) (hn : (ds ++ dd).length = n := by rfl) (hg : Gl X x := by rfl) (hdb : (x == ("__debug__" : Str)) = false := by decide)
    (he : starEach (e :: es) X.env = (false, eval e X.env) :: starEach es X.env := by rfl) (hpl : (backTo pos (starEach es X.env)).any (·.1) = false := by rfl) : EV T X (.Call (.Name x p) (e :: es) [] pos) ss (.ins C ns xs) := by
  obtain ⟨f, fd, ps, h1, h2, h3, h4, h5⟩ := G
  refine EV.of (pe_make (E := E0) h2 h4 hr hg h1 h5 hd pass0 ha hdb he hpl) fun B F H σ Q R q => evs_go R fun vs F1 H1 n1 R1 i1 => fun y dx hy hdx ne => ?_
  exact ⟨H1, F1, y, dx, vs ++ dvs, ds ++ dd, ns, xs, rfl, hy, hdx, ne, rfl, R1.sub, R1.nt, R1.tb, i1.append (hI F1), hn, hp, fun F2 H2 n2 i2 => ⟨rfl, q _ F2 H2 (n1.trans n2) (R1.grow n2) i2⟩⟩
/-- a, b, c = x, y, z by a tuple (targets that are cells, too) -/
theorem sv_tup3 (i j l : Nat) {px py pz pt : Pos} {kt : Nat} (he : EV T X e ss (.tup [d1, d2, d3])) (k : P.nx (((ss.set i (.d d1)).set j (.d d2)).set l (.d d3))) (hN : X.N.Nodup) (hc : X.calm = true := by rfl)
    (hi : X.N[i]? = some x := by rfl) (hj : X.N[j]? = some y := by rfl) (hl : X.N[l]? = some z := by rfl)
    (hx : Loc X.env.scope x := by first | exact Or.inl rfl | exact Or.inr rfl) (hy : Loc X.env.scope y := by first | exact Or.inl rfl | exact Or.inr rfl) (hz : Loc X.env.scope z := by first | exact Or.inl rfl | exact Or.inr rfl)
    (fx : X.fn x = true ∨ X.env.scope.names.lookup x = some .local := by first | exact .inl rfl | exact .inr rfl) (fy : X.fn y = true ∨ X.env.scope.names.lookup y = some .local := by first | exact .inl rfl | exact .inr rfl) (fz : X.fn z = true ∨ X.env.scope.names.lookup z = some .local := by first | exact .inl rfl | exact .inr rfl)
    (hs : swapsWithSole [.Tuple [.Name x px, .Name y py, .Name z pz] kt pt] e pos.line X.env = pure false := by rfl) (hw : swappedStores [.Tuple [.Name x px, .Name y py, .Name z pz] kt pt] e X.env = pure none := by rfl)
    (h1 : (assignEach [.Tuple [.Name x px, .Name y py, .Name z pz] kt pt] X.env).map (·.2) = [assign (.Tuple [.Name x px, .Name y py, .Name z pz] kt pt) X.env] := by rfl) :
    SV T X (.Assign [.Tuple [.Name x px, .Name y py, .Name z pz] kt pt] e pos) ss P :=
  SV.of (ps_asg he (pg_tup hc (pgs_cons (pg_name hN hi hx fx) (pgs_cons (pg_name hN hj hy fy) (pgs_cons (pg_name hN hl hz fz) pgs_nil)))) hs hw h1) fun B F H σ Dn R g => ev_go R fun v F1 H1 n1 R1 i1 => by
    exact tg_go (t := .many [i, j, l]) (ws := []) R1 i1 rfl (fun _ _ => .inr rfl) fun σ' R2 _ => g.nx _ _ _ _ k R2
end
end Fd

set_option Elab.async false
set_option linter.all false
set_option maxRecDepth 100000
set_option maxHeartbeats 4000000
/-! Fd13: what raises, and a lambda that is asked for it. -/
namespace Fd
open PySem PySem.Spec PyProof.Rows L2
/-- a def that raises c of the data ds, wherever pre ds -/
def spX (T : List (Addr × Str)) (K : PySem.W.Frag) (n : Nat) (pre : List D → Prop) (c : Value) : Sp := fun vs H _ E => ∃ F ds, Ext F H ∧ (∀ p ps, F p ≠ some (.tbl ps)) ∧ LamX.Tabs T H ∧ IsL K F ds vs ∧ ds.length = n ∧ pre ds ∧ ∀ d H1, Gr T H H1 → E c d H1
/-- an __init__ that raises -/
def spMX (T : List (Addr × Str)) (K : PySem.W.Frag) (C : Addr) (n : Nat) (pre : List D → Prop) (c : Value) : Sp := fun vs H _ E => ∃ H0 F p dx us ds, vs = .ref p :: us ∧ H0 p = none ∧ H0 dx = none ∧ dx ≠ p ∧ H = upd (upd H0 dx (.own p)) p (.ins C dx []) ∧ Ext F H0 ∧ (∀ p ps, F p ≠ some (.tbl ps)) ∧ LamX.Tabs T H0 ∧ IsL K F ds us ∧ ds.length = n ∧ pre ds ∧ ∀ d H1, Gr T H0 H1 → E c d H1
/-- e raises c: E is what is told of the exception -/
def RX (T : List (Addr × Str)) (X : Cx) (e : Expr) (ss : SS) (c : Value) (E : XK) : Prop := PE X e (fun σ H _ => ∃ B F, StR T X.K B F H σ ss ∧ ∀ d H1, Gr T H H1 → E c d H1)
def RS (T : List (Addr × Str)) (X : Cx) (sts : List Stmt) (ss : SS) (c : Value) (E : XK) : Prop := PSs X sts (fun _ σ H => ∃ B F, StR T X.K B F H σ ss ∧ ∀ d H1, Gr T H H1 → E c d H1)
abbrev xX (P : Program) (w : World) (K : PySem.W.Frag) (mg : Str → Option Value) (base : Heap) (N : List Str) (qual : Str) (st : Stmt) (f : Addr) (cdv : Value) (A : Around) (outer : List Env) (s : Shared) (H : Hp) (E : XK) : Cx :=
  cxOf (L2.CX P w) P w K mg base N qual (defScope st) f cdv A outer s H E
section
variable {T : List (Addr × Str)} {P : Program} {w : World} {K : PySem.W.Frag} {mg : Str → Option Value} {base : Heap} {C : Addr} {x qual : Str} {st : Stmt} {f : Addr} {fd : FuncData} {cdv c : Value} {N ps : List Str} {k n : Nat} {pre : List D → Prop}
theorem fx_ok (F : FunZ K x qual st f fd cdv) (S : FnScope N ps (defScope st)) (hn : ps.length = n)
    (h : ∀ (A : Around) (outer : List Env) (s : Shared) (H : Hp) (E : XK) (ds : List D), Room k (A.deeper (envOfC qual (defScope st) s.heap.objs.size f cdv)) → ds.length = n → pre ds →
      Takes (xX P w K mg base N qual st f cdv A outer s H E) (fun cls d _ H => E cls d H) → RS T (xX P w K mg base N qual st f cdv A outer s H E) (defBody st) (startS N ds) c E) : FnOk P w K mg base (L2.CX P w) (k + 1) f fd ps (spX T K n pre c) :=
  F.ok S (fun vs H Q E ⟨F, ds, _, _, _, i, l, _⟩ => by rw [i.length, l, hn]) fun A outer s H vs Q E hr ⟨F0, ds, x, nt, tb, i, l, p, q⟩ =>
    ⟨_, h A outer s H E ds hr l p (takes_of rfl rfl rfl rfl), (F0, H), F0, start_str x nt tb i, q⟩
theorem initx_ok (F : FunZ K x qual st f fd cdv) (S : FnScope N ps (defScope st)) (hn : ps.length = n + 1)
    (h : ∀ (A : Around) (outer : List Env) (s : Shared) (H : Hp) (E : XK) (p : Addr) (ds : List D), Room k (A.deeper (envOfC qual (defScope st) s.heap.objs.size f cdv)) → ds.length = n → pre ds →
      Takes (xX P w K mg base N qual st f cdv A outer s H E) (fun cls d _ H => E cls d H) → RS T (xX P w K mg base N qual st f cdv A outer s H E) (defBody st) (startO p C N ds) c E) : FnOk P w K mg base (L2.CX P w) (k + 1) f fd ps (spMX T K C n pre c) := by
  refine F.ok S (fun vs H Q E ⟨H0, F, p, dx, us, ds, e, _, _, _, _, _, _, _, i, l, _⟩ => by rw [e, hn, List.length_cons, i.length, l]) fun A outer s H vs Q E hr ⟨H0, F0, p, dx, us, ds, e, hp, hd, ne, eH, xF, nt, tb, i, l, pr, q⟩ => ?_
  subst e; subst eH
  have hH : Ext H0 (upd (upd H0 dx (.own p)) p (.ins C dx [])) := (Ext.upd hd).trans (Ext.upd (by rw [upd_ne (Ne.symm ne)]; exact hp))
  exact ⟨_, h A outer s _ E p ds hr l pr (takes_of rfl rfl rfl rfl), (F0, H0), F0, start_strO hp hd ne xF nt tb i, fun d H1 g => q d H1 ((Gr.of hH).trans g)⟩
end
section
variable {T : List (Addr × Str)} {X : Cx} {ss : SS} {e o a : Expr} {es : List Expr} {d : D} {ds : List D} {x m : Str} {p pos apos : Pos} {n k : Nat} {C : Addr} {ns : List Str} {xs : List D} {c : Value} {E : XK} {cnd : Expr} {A B rest : List Stmt}
theorem rs_ret (h : RX T X e ss c E) : RS T X (.Return (some e) pos :: rest) ss c E :=
  PSs.imp (pss_cons (ps_ret h) (pss_all (T := T))) fun D σ H q => q
theorem rs_ifT (hc : TV T X cnd ss true) (h : RS T X A ss c E) : RS T X (.If cnd A B pos :: rest) ss c E :=
  PSs.imp (pss_cons (ps_if hc h (pss_all (T := T) (sts := B))) (pss_all (T := T))) fun D σ H ⟨B0, F, R, q⟩ => tv_go R fun F1 H1 n1 R1 => ⟨B0, F1, R1, fun d H2 g => q d H2 (n1.h.trans g)⟩
theorem rs_raise {tn N I : String} {msg : Str} {j : Nat} {p2 pos' : Pos} (tk : Takes X (fun cls d _ H => E cls d H)) (F : ExcB tn N I) (hm : X.mg x = none) (hv : bootBuiltins x = some (.type tn)) (hg : Gl X x := by rfl) (hc : X.calm = true := by rfl) (hn : x ≠ "__name__" := by decide) (hdb : (x == ("__debug__" : Str)) = false := by decide) :
    RS T X (.Raise (some (.Call (.Name x p) [.Constant (.str msg) j p2] [] pos)) none pos' :: rest) ss (.type tn) E :=
  PSs.imp (pss_cons (ps_raiseB hc tk F hg hm hv hn hdb) (pss_all (T := T))) fun D σ H ⟨B0, F, R, q⟩ => q none H (.refl H)
/-- the class, whose making raises c -/
def MDX (T : List (Addr × Str)) (P : Program) (w : World) (K : PySem.W.Frag) (mg : Str → Option Value) (base : Heap) (x : Str) (C : Addr) (n k : Nat) (pre : List D → Prop) (c : Value) : Prop :=
  ∃ f fd ps, mg x = some (.ref C) ∧ Mk K C f ∧ ps.length = n + 1 ∧ FnOk P w K mg base (L2.CX P w) k f fd ps (spMX T K C n pre c) ∧ Binds K fd ps []
theorem rx_make {pre : List D → Prop} (G : MDX T X.prog X.w X.K X.mg X.base x C n k pre c) (hx : Passes (L2.CX X.prog X.w) X E) (hr : Room (k + 1) X.A) (ha : EVs T X (e :: es) ss ds) (hp : pre ds) (hn : ds.length = n := by rfl) (hg : Gl X x := by rfl) (hdb : (x == ("__debug__" : Str)) = false := by decide)
    (he : starEach (e :: es) X.env = (false, eval e X.env) :: starEach es X.env := by rfl) (hpl : (backTo pos (starEach es X.env)).any (·.1) = false := by rfl) : RX T X (.Call (.Name x p) (e :: es) [] pos) ss c E := by
  obtain ⟨f, fd, ps, h1, h2, h3, h4, h5⟩ := G
  refine PE.imp (pe_make (E := E) h2 h4 hr hg h1 h5 .nil hx ha hdb he hpl) fun σ H Q ⟨B, F, R, q⟩ => evs_go R fun vs F1 H1 n1 R1 i1 => fun y dx hy hdx ne => ?_
  rw [List.append_nil]
  exact ⟨H1, F1, y, dx, vs, ds, rfl, hy, hdx, ne, rfl, R1.sub, R1.nt, R1.tb, i1, hn, hp, fun d H2 g => q d H2 (n1.h.trans g)⟩
theorem no_lookup {m : Str} : ∀ {fs : List (Str × V)}, m ∉ fs.map (·.1) → fs.lookup m = none
  | [], _ => rfl
  | (g, u) :: r, h => by
    have ne : (m == g) = false := by
      rw [beq_eq_false_iff_ne]; rintro rfl; exact h List.mem_cons_self
    rw [List.lookup_cons, ne]
    exact no_lookup fun z => h (List.mem_cons_of_mem _ z)
/-- o.m(..), m an own method that raises -/
theorem rx_meth {pl : Sem Bool} {pre : List D → Prop} {f : Addr} {fd : FuncData} {ps : List Str} (he : EV T X o ss (.ins C ns xs)) (cl : Cls X.K C) (hm : Meth X.K C m f) (G : FnOk X.prog X.w X.K X.mg X.base (L2.CX X.prog X.w) k f fd ps (spX T X.K n pre c)) (hb : Binds X.K fd ps []) (hx : Passes (L2.CX X.prog X.w) X E) (hr : Room k X.A)
    (ha : EVs T X (e :: es) ss ds) (hp : pre (.ins C ns xs :: ds)) (hmn : m ∉ ns) (hn : (D.ins C ns xs :: ds).length = n := by rfl)
    (hst : starEach (e :: es) X.env = (false, eval e X.env) :: starEach es X.env := by rfl) (hpl : (backTo pos (starEach es X.env)).any (·.1) = false := by rfl)
    (ht : eval (.Call (.Attribute o m apos) (e :: es) [] pos) X.env = (do
      let ov ← eval o X.env; standAt apos.atName; let (f, first) ← holding [ov] (getMethod ov m pl); callWith pos f first (backTo pos (starEach (e :: es) X.env)) (backToKw pos (keywordEach [] X.env))) := by rfl) :
    RX T X (.Call (.Attribute o m apos) (e :: es) [] pos) ss c E := by
  refine PE.imp (pe_meth he cl hm G hr hb .nil hx ha hst hpl ht) fun σ H Q ⟨B, F, R, q⟩ => ev_go R fun v F1 H1 n1 R1 i1 => ?_
  obtain ⟨y, dx, fs, rfl, e1, e2, e3⟩ := id i1
  refine ⟨y, dx, fs, rfl, R1.sub _ _ e1, no_lookup (by rw [e2]; exact hmn), evs_go R1 fun us F2 H2 n2 R2 i2 => ?_⟩
  rw [List.append_nil]
  exact ⟨F2, _, R2.sub, R2.nt, R2.tb, IsL.cons (Is.mono n2.f _ i1) i2, hn, hp, fun d H3 g => q d H3 ((n1.h.trans n2.h).trans g)⟩
/-- o.m(..), m an own method -/
theorem ev_meth {pl : Sem Bool} {pre : List D → D → Prop} {f : Addr} (he : EV T X o ss (.ins C ns xs)) (cl : Cls X.K C) (M : OwnM T X.prog X.w X.K X.mg X.base C m n k pre f) (hr : Room k X.A)
    (ha : EVs T X (e :: es) ss ds) (hp : pre (.ins C ns xs :: ds) d) (hmn : m ∉ ns) (hn : (D.ins C ns xs :: ds).length = n := by rfl)
    (hst : starEach (e :: es) X.env = (false, eval e X.env) :: starEach es X.env := by rfl) (hpl : (backTo pos (starEach es X.env)).any (·.1) = false := by rfl)
    (ht : eval (.Call (.Attribute o m apos) (e :: es) [] pos) X.env = (do
      let ov ← eval o X.env; standAt apos.atName; let (f, first) ← holding [ov] (getMethod ov m pl); callWith pos f first (backTo pos (starEach (e :: es) X.env)) (backToKw pos (keywordEach [] X.env))) := by rfl) :
    EV T X (.Call (.Attribute o m apos) (e :: es) [] pos) ss d := by
  obtain ⟨fd, ps, hb, hps, G⟩ := M.ok
  refine EV.of (pe_meth (E := E0) he cl ⟨M.at_, M.fn, M.kp⟩ G hr hb .nil pass0 ha hst hpl ht) fun B F H σ Q R q => ev_go R fun v F1 H1 n1 R1 i1 => ?_
  obtain ⟨y, dx, fs, rfl, e1, e2, e3⟩ := id i1
  refine ⟨y, dx, fs, rfl, R1.sub _ _ e1, no_lookup (by rw [e2]; exact hmn), evs_go R1 fun us F2 H2 n2 R2 i2 => ?_⟩
  rw [List.append_nil]
  exact ⟨F2, _, d, R2.sub, R2.nt, R2.tb, IsL.cons (Is.mono n2.f _ i1) i2, hn, hp, fun v F3 H3 n3 i3 => q v F3 H3 ((n1.trans n2).trans n3) (R2.grow n3) i3⟩
end
end Fd

set_option Elab.async false
set_option linter.all false
set_option maxRecDepth 100000
set_option maxHeartbeats 4000000
/-! Fd14: a def that is handed a lambda and tells whether it raises. -/
namespace Fd
open PySem PySem.Spec PyProof.Rows L2
/-- what such a def makes of the lambda's reading: True where c comes, False else -/
def TTR (c : Value) : (XK → Hp → VK → Prop) → Hp → VK → Prop := fun tl H Q => tl (fun cls _ H' => cls = c ∧ Q (.bl true) H') H (fun _ H' => Q (.bl false) H')
theorem raises_gives {X : Cx} {Ng : List Str} {x a e q : Str} {sg : Scope} {g : Addr} {cdg c : Value} {j j' : Nat} {p1 p2 p3 p4 p5 p6 p7 p8 p9 p10 : Pos} (hge : sg.names.lookup e = some .globalImplicit) (hme : X.mg e = none) (hbe : bootBuiltins e = some c) (hne : e ≠ "__name__") (hde : (e == ("__debug__" : Str)) = false)
    (hex : PySem.W.exmOne X.K c c = some true) (h0 : ∀ f : Addr, (L2.start Ng [V.ref f])[0]? = some (some (V.ref f))) :
    LamX.GivesTo X Ng x sg g cdg [.Try [.Expr (.Call (.Name a p1) [] [] p2) p3] [.ExceptHandler (some (.Name e p4)) none [.Return (some (.Constant (.bool true) j p5)) p6] p7] [] [] p8, .Return (some (.Constant (.bool false) j' p9)) p10] a q (TTR c) := by
  intro f cc s H Q tl act hc h
  refine ⟨_, pss_cons (ps_try_only (c := c) (Wout := fun _ _ _ _ => False)
    (tb := fun W D σ HZ => ∃ Ech : XK, (∀ cls d σ' H', Ech cls d H' → W cls d σ' H') ∧ σ[0]? = some (some (.ref f)) ∧ HZ cc = some (LamX.CodeO cc q) ∧ tl Ech HZ fun _ H1 => D.nx σ H1)
    rfl rfl ⟨hge, hde, .inr ⟨hme, hbe, hne⟩⟩ LamX.takes0 (fun W pn xe tk _ => ?_) (fun b oe cls d pn _ _ => pss_one (ps_ret pe_bl))) (pss_one (ps_ret pe_bl)), ?_⟩
  · refine ⟨fun pins s' σ HZ D I hq => ?_⟩
    obtain ⟨Ech, hW, h1, h2, h3⟩ := hq
    exact (pss_one (ps_expr (pos := p3) (act W pn xe Ech p1 p2 tk hW))).run pins s' σ HZ D I ⟨h1, h2, h3⟩
  · refine ⟨fun cls _ H' => cls = c ∧ Q (.bl true) H', fun cls d σ' H' ⟨e1, e2⟩ => ?_, h0 f, hc, h⟩
    subst e1
    exact ⟨true, hex, fun _ b _ => e2, fun z => nomatch z⟩
section
variable {T : List (Addr × Str)} {X : Cx} {ss : SS} {p pos lpos : Pos} {k : Nat} {c : Value} {x a : Str} {st : Stmt} {g cA P : Addr} {fdg : FuncData} {cdg : Value} {Ng : List Str} {params : Arguments} {body : Expr} {scope : Scope}
theorem exN_gr {H H1 : Hp} (e : LamX.ExtN H H1) (t : LamX.Tabs T H1) : Gr T H H1 := ⟨fun p o h n => e p o h n, fun _ => t⟩
theorem StR.gr {B : Hp × Hp} {F H H1 : Hp} {σ : L2.St} {K : PySem.W.Frag} (R : StR T K B F H σ ss) (g : Gr T H H1) : Nx T F H F H1 :=
  ⟨fun _ _ h => h, g, fun q o h => g.k q o (R.sub q o h) (fun ps z => R.nt q ps (by rw [h, z])), fun _ _ h => h, fun q o h => .inl (by rw [h]; exact fun z => nomatch z)⟩
/-- x(lambda: body), x a def that tells whether it raises c; it does -/
theorem ev_lamR (FG : FunZ X.K x x st g fdg cdg) (hm : X.mg x = some (.ref g)) (hb : Binds X.K fdg [a] []) (Sg : FnScope Ng [a] (defScope st)) (hNg : Ng[0]? = some a) (hva : Vis (defScope st) a)
    (hG : LamX.GivesTo X Ng x (defScope st) g cdg (defBody st) a (X.env.qual ++ "<lambda>") (TTR c)) (TB : LamX.TabB X.base X.mg cA P) (hcode : X.env.code = .ref cA) (hmT : (P, X.env.qual ++ "<lambda>") ∈ T) (hu : ∀ p ∈ T, p.1 = P → p.2 = X.env.qual ++ "<lambda>")
    (hr : Room (k + 2) X.A) (L : LamX.LamS X.env.scope scope) (hdef : defaultsOf params X.env = ([], [])) (hbind : ∀ (q : Str) (cl : List (Str × Addr)) (pm cv ctv : Value), bindArgs (PySem.W.kla_fn "<lambda>" q params body scope cl pm cv ctv) ⟨[], []⟩ = pure [])
    (hbody : ∀ (A : Around) (outer : List Env) (s : Shared) (H : Hp) (E : XK) (f cc : Addr), Room k (A.deeper (LamX.lamEnv X scope s.heap.objs.size f cc)) → Takes (LamX.lamCx X A outer s H E scope f cc) (fun cls d _ H => E cls d H) → Passes (L2.CX X.prog X.w) (LamX.lamCx X A outer s H E scope f cc) E → RX T (LamX.lamCx X A outer s H E scope f cc) body ss c E)
    (hg : Gl X x := by rfl) (hdb : (x == ("__debug__" : Str)) = false := by decide) (hd : (a == ("__debug__" : Str)) = false := by decide) (hcd : (a == ("__classdict__" : Str)) = false := by decide) : EV T X (.Call (.Name x p) [.Lambda params body scope lpos] [] pos) ss (.bl true) := by
  obtain ⟨oc, od, dV, kV, doc, pm, an, ct, osl, rfl, lk, hcg⟩ := FG.ex
  refine EV.of (LamX.pe_lamcall (T := T) (TT := TTR c) (t := fun E σ H _ => ∃ B F, StR T X.K B F H σ ss ∧ ∀ d H1, Gr T H H1 → E c d H1) hg hm FG.kp lk hcg hb Sg hNg hva hG TB hcode hmT hu hr L hdef hbind (fun A outer s H E f cc hr2 => ?_) hdb hd hcd) fun B F H σ Q R q => ⟨R.tb, fun H1 e t => ?_⟩
  · have tk : Takes (LamX.lamCx X A outer s H E scope f cc) (fun cls d _ H => E cls d H) := takes_of rfl rfl rfl rfl
    exact hbody A outer s H E f cc hr2 tk (passes_call tk fun _ _ _ _ h => h)
  · have n1 := R.gr (exN_gr e t)
    have R1 := R.grow n1
    refine ⟨B, F, R1, fun d H2 g2 => ⟨rfl, ?_⟩⟩
    have n2 := n1.trans (R1.gr g2)
    exact q _ F H2 n2 (R.grow n2) rfl
end
section
variable {T : List (Addr × Str)} {P : Program} {w : World} {K : PySem.W.Frag} {mg : Str → Option Value} {base : Heap}
/-- fd_ok, the code object known -/
theorem fdz_ok {x qual : Str} {st : Stmt} {f : Addr} {fd : FuncData} {cdv : Value} {N ps : List Str} {k n : Nat} {pre : List D → D → Prop} (F : FunZ K x qual st f fd cdv) (S : FnScope N ps (defScope st)) (hn : ps.length = n)
    (h : ∀ (A : Around) (outer : List Env) (s : Shared) (H : Hp) (E : XK) (ds : List D) (d : D), Room k (A.deeper (envOfC qual (defScope st) s.heap.objs.size f cdv)) → ds.length = n → pre ds d →
      SVs T (bodyX CX0 P w K mg base N qual st f cdv A outer s H E) (defBody st) (startS N ds) { nx := fun _ => d = .non, rt := fun d' => d' = d }) : FnOk P w K mg base CX0 (k + 1) f fd ps (spD T K n pre) := by
  refine F.ok S (fun vs H Q E ⟨F, ds, d, _, _, _, i, l, _⟩ => by rw [i.length, l, hn]) fun A outer s H vs Q E hr ⟨F0, ds, d, x, nt, tb, i, l, p, q⟩ => ?_
  refine ⟨_, (h A outer s H E ds d hr l p).nox, (F0, H), F0, _, _, ⟨rfl, rfl⟩, start_str x nt tb i, fun ss' σ' F1 H1 e R1 => ?_, fun d' v ss' σ' F1 H1 e R1 i1 => ?_, fun _ _ _ _ z => z.elim, fun _ _ _ _ z => z.elim⟩
  · subst e
    exact q .non F1 H1 R1.back rfl
  · subst e
    exact q v F1 H1 R1.back i1
end
end Fd

set_option Elab.async false
set_option linter.all false
set_option maxRecDepth 100000
set_option maxHeartbeats 4000000
/-! Fd15: C(k = .., m = ..) by two keywords; False in a list of True. -/
namespace Fd
open PySem PySem.Spec PyProof.Rows L2
section
variable {X : Cx} {CX : CXT} {k : Nat} {f C : Addr} {fd : FuncData} {ps ks : List Str} {sp : Sp} {E : XK} {x : Str} {p pos : Pos} {kws : List Keyword} {tk : TA} {g : List Value → List Value → List Value} {gV : List V → List V → List V}
/-- C(k = v, ..): no value by its place -/
theorem pe_makeK0 (M : Mk X.K C f) (G : FnOk X.prog X.w X.K X.mg X.base CX k f fd ps sp) (hr : Room (k + 1) X.A) (hm : X.mg x = some (.ref C)) (hb : KBn X.K fd ps 1 ks g gV) (hx : Passes CX X E) (hkw : PK X kws tk) (hg : Gl X x := by rfl)
    (hall : (backToKw pos (keywordEach kws X.env)).all (·.1.isSome) = true := by rfl) (hks : (backToKw pos (keywordEach kws X.env)).filterMap (·.1) = ks := by rfl) (hdb : (x == ("__debug__" : Str)) = false := by decide)
    (hpl : ((backTo pos (starEach [] X.env)).any (·.1) || (backToKw pos (keywordEach kws X.env)).any (·.1.isNone)) = false := by rfl) :
    PE X (.Call (.Name x p) [] kws pos) (fun σ H Q => tk σ H fun zs H2 => zs.length = ks.length ∧ ∀ y dx, H2 y = none → H2 dx = none → dx ≠ y → sp (gV [.ref y] zs) (upd (upd H2 dx (.own y)) y (.ins C dx [])) (fun v H3 => v = .non ∧ Q (.ref y) H3) E) := by
  refine ⟨fun pins s σ H Q I h => wpAny_Call_Name_kw (ld_glob I hg hm ?_ hdb)⟩
  refine PySem.W.callWith_KW0 (h₀ := X.base) I.ok.mod.kin M.kp hall ?_ hpl
  refine thn (hkw.run pos pins s σ H _ I h) fun ws s2 ⟨zs, H2, I2, rz, l2, q2⟩ => ⟨I2.kIn, ?_⟩
  rw [hks]
  exact run_makeN (n := 0) M G hr hb hx I2 .nil rz rfl l2 q2
end
section
variable {T : List (Addr × Str)} {X : Cx} {ss : SS} {e a : Expr} {d1 d2 : D} {x k1 k2 : Str} {p pos p1 p2 : Pos} {n k : Nat} {C : Addr} {ns : List Str} {xs : List D} {pre : List D → List Str → List D → Prop}
/-- the class, made by its two parameters' names, the second one first -/
def MDk (T : List (Addr × Str)) (P : Program) (w : World) (K : PySem.W.Frag) (mg : Str → Option Value) (base : Heap) (x : Str) (C : Addr) (k : Nat) (pre : List D → List Str → List D → Prop) (k1 k2 : Str) : Prop :=
  ∃ f fd ps g gV, mg x = some (.ref C) ∧ Mk K C f ∧ FnOk P w K mg base CX0 k f fd ps (spM T K C 2 pre) ∧ KBn K fd ps 1 [k1, k2] g gV ∧ ∀ (y u v : V), gV [y] [u, v] = [y, v, u]
theorem ev_makeK (G : MDk T X.prog X.w X.K X.mg X.base x C k pre k1 k2) (hr : Room (k + 1) X.A) (h1 : EV T X e ss d1) (h2 : EV T X a ss d2) (hp : pre [d2, d1] ns xs) (hg : Gl X x := by rfl)
    (hall : (backToKw pos (keywordEach [⟨some k1, e, p1⟩, ⟨some k2, a, p2⟩] X.env)).all (·.1.isSome) = true := by rfl) (hks : (backToKw pos (keywordEach [⟨some k1, e, p1⟩, ⟨some k2, a, p2⟩] X.env)).filterMap (·.1) = [k1, k2] := by rfl) (hdb : (x == ("__debug__" : Str)) = false := by decide)
    (hpl : ((backTo pos (starEach [] X.env)).any (·.1) || (backToKw pos (keywordEach [⟨some k1, e, p1⟩, ⟨some k2, a, p2⟩] X.env)).any (·.1.isNone)) = false := by rfl) : EV T X (.Call (.Name x p) [] [⟨some k1, e, p1⟩, ⟨some k2, a, p2⟩] pos) ss (.ins C ns xs) := by
  obtain ⟨f, fd, ps, g, gV, e1, e2, e3, e4, e5⟩ := G
  refine EV.of (pe_makeK0 (E := E0) e2 e3 hr e1 e4 pass0 (pk_cons h1 (pk_cons h2 pk_nil)) hg hall hks hdb hpl) fun B F H σ Q R q => ev_go R fun v F1 H1 n1 R1 i1 => ev_go R1 fun u F2 H2 n2 R2 i2 => ⟨rfl, fun y dx hy hdx ne => ?_⟩
  rw [e5]
  exact ⟨H2, F2, y, dx, [u, v], [d2, d1], ns, xs, rfl, hy, hdx, ne, rfl, R2.sub, R2.nt, R2.tb, IsL.cons i2 (IsL.cons (Is.mono n2.f _ i1) IsL.nil), rfl, hp, fun F3 H3 n3 i3 => ⟨rfl, q _ F3 H3 ((n1.trans n2).trans n3) (R2.grow n3) i3⟩⟩
/-- False in a list of three True -/
theorem tv_inT {j : Nat} (he : EV T X e ss (.lst (List.replicate 3 (.bl true)))) (h1 : behindInMarks .In e = false := by rfl) : TV T X (.Compare (.Constant (.bool false) j p) [.In] [e] pos) ss false :=
  tv_cmp op_in_seq ev_bl he (fun B F H σ v u Q R i1 i2 q => by
    obtain ⟨a, vs, rfl, e1, e2⟩ := i2
    obtain rfl : v = .bl false := i1
    have ev : vs = [.bl true, .bl true, .bl true] := isL_bl (bs := [true, true, true]) e2
    subst ev
    exact ⟨a, _, rfl, .inl (SqL.of (R.sub _ _ e1)), rfl, rfl, q F H R.nx R⟩) h1
theorem pt_ifE {c a b : Expr} {tc ta tb : TT} (hc : PT X c tc) (ha : PT X a ta) (hb : PT X b tb) : PT X (.IfExp c a b pos) (fun σ H Q => tc σ H fun d H1 => if d = true then ta σ H1 Q else tb σ H1 Q) := by
  refine ⟨fun pins s σ H Q I h => isTrue_IfExp (thn (hc.run pins s σ H _ I h) fun d s1 ⟨H1, I1, q1⟩ => ?_)⟩
  cases d with
  | true => exact ha.run pins s1 σ H1 Q I1 q1
  | false => exact hb.run pins s1 σ H1 Q I1 q1
/-- a if c else b, as a test -/
theorem tv_ifE {c a b : Expr} {t u : Bool} (hc : TV T X c ss t) (h1 : t = true → TV T X a ss u) (h2 : t = false → TV T X b ss u) : TV T X (.IfExp c a b pos) ss u := by
  have p1 : PT X a (tTv T X.K fun ss' d' => TV T X a ss' d') := pt_fam fun _ _ h => h
  have p2 : PT X b (tTv T X.K fun ss' d' => TV T X b ss' d') := pt_fam fun _ _ h => h
  refine TV.of (pt_ifE hc p1 p2) fun B F H σ Q R q => tv_go R fun F1 H1 n1 R1 => ?_
  cases t with
  | true => exact iteT ⟨B, F1, ss, u, h1 rfl, R1, fun F2 H2 n2 R2 => q F2 H2 (n1.trans n2) R2⟩
  | false => exact iteF ⟨B, F1, ss, u, h2 rfl, R1, fun F2 H2 n2 R2 => q F2 H2 (n1.trans n2) R2⟩
end
end Fd

set_option Elab.async false
set_option linter.all false
set_option maxRecDepth 100000
set_option maxHeartbeats 4000000
/-! Fd16: the end of a law's proof with tables of code objects; raw facts to defs and methods. -/
namespace Fd
open PySem PySem.Spec PyProof.Rows L2
/-- THE END with tables: cs the makers' code objects and their tables, T the tables' names -/
theorem walkT {l : PySem.W.OpenLaw} {q : Program} {loose : List Str} {XP : (Str → Option Value) → Heap → Prop} {YP : World → Heap → Prop} {d : DefRec} {K : Params → PySem.W.Frag} {x : Str} (k : Nat) (hk : Room k callerA) (hn : l.most = some 63) (hdf : d.params.defaults = [])
    (hY : ∀ (w : World) (h : Heap), YP w h → (K w.params).In h)
    (F : ∀ (w : World) (mg : Str → Option Value) (fa : Addr) (h : Heap), YP w h → (K w.params).In h → h.Ns mainGlobals mg → mg d.name = some (.ref fa) →
      ∃ (fd : FuncData) (cs : List (Addr × Addr)) (T : List (Addr × Str)), (∀ p ∈ cs, h.get? p.2 = some { cls := .none, data := .fields #[] }) ∧ (∀ p ∈ cs, (K w.params).lookup p.2 = none) ∧ (∀ p ∈ cs, PySem.W.CodeHd h p.1 p.2) ∧ (∀ p ∈ T, p.1 ∈ cs.map (·.2)) ∧
        (∀ (s : Shared) (u : Value), BindsTo s fd ⟨[u], []⟩ [(x, u)]) ∧ ∀ base : Heap, (K w.params).In base → base.Ns mainGlobals mg → (∀ p ∈ cs, LamX.TabB base mg p.1 p.2) → FnOk l.prog w (K w.params) mg base CX0 k fa fd [x] (spD T (K w.params) 1 pLaw)) :
    PySem.W.WalkO q loose XP YP l.row.toRowW d [] (fun f vs => PySem.call f vs) := by
  refine LamX.walk_ofTs (n := 63) (k := k) (x := x) (CX := fun _ => CX0) hn (by decide) hdf hk hY (fun w mg fa h Y KX G hm => ?_) fun _ _ _ _ _ z => z
  obtain ⟨fd, cs, T, h1, h2, h3, h4, h5, h6⟩ := F w mg fa h Y KX G hm
  refine ⟨fd, cs, spD T (K w.params) 1 pLaw, h1, h2, h3, h5, fun H a ns hl _ hH hS => ?_, h6⟩
  refine ⟨noTbl H, [.rdl (ns.map D.int)], .bl true, noTbl_ext H, noTbl_nt H, fun p hp => ?_, ⟨_, _, rfl, ⟨a, ns.map V.int, rfl, noTbl_seq hS, ints_is ns⟩, rfl⟩, rfl, ⟨ns, rfl, hl, rfl⟩, fun v F1 H1 _ e => e⟩
  obtain ⟨c, hc, e⟩ := List.mem_map.mp (h4 p hp)
  exact LamX.TabS.nil (by rw [← e]; exact hH c hc)
section
variable {K : PySem.W.Frag} {mg : Str → Option Value} {h : Heap}
/-- a def of the top: its function object at f, its code object cdv -/
structure Dz (K : PySem.W.Frag) (mg : Str → Option Value) (x : Str) (st : Stmt) (f : Addr) (cdv : Value) : Prop where
  at_ : mg x = some (.ref f)
  fn : ∃ fd, Fun K x x st f fd ∧ FunZ K x x st f fd cdv
theorem dz_mk (X : K.In h) (G : h.Ns mainGlobals mg) {x : Str} {st : Stmt} {f : Addr} {oc : Value} {od an : Option Addr} {osl : Array (Option Value)} {kV doc pm cdv ct : Value} (a : PySem.W.nsIn K mainGlobals x = some (some (.ref f)))
    (l : K.lookup f = some ⟨oc, od, .func (PySem.W.fnOf x x (defArgs st) (defBody st) (defScope st) .none kV doc pm an cdv ct), osl⟩) (c : PySem.W.codeIn K cdv x = true) (k : PySem.W.keepIn K (.ref f) = true) : Dz K mg x st f cdv :=
  ⟨PySem.W.mg_of X G a, _, fun_mk l c k, ⟨oc, od, .none, kV, doc, pm, an, ct, osl, rfl, l, c⟩, k⟩
/-- a method m of the class C -/
structure Mz (K : PySem.W.Frag) (C : Addr) (m qual : Str) (st : Stmt) (f : Addr) (cdv : Value) : Prop where
  me : Meth K C m f
  fn : ∃ fd, Fun K m qual st f fd ∧ FunZ K m qual st f fd cdv
theorem mz_mk {C : Addr} {m qual : Str} {st : Stmt} {f : Addr} {oc : Value} {od an : Option Addr} {osl : Array (Option Value)} {kV doc pm cdv ct : Value} (a : PySem.W.findIn K (.ref C) m = some (some (.ref f))) (b : PySem.W.isFn K (.ref f) = true)
    (l : K.lookup f = some ⟨oc, od, .func (PySem.W.fnOf m qual (defArgs st) (defBody st) (defScope st) .none kV doc pm an cdv ct), osl⟩) (c : PySem.W.codeIn K cdv qual = true) (k : PySem.W.keepIn K (.ref f) = true) : Mz K C m qual st f cdv :=
  ⟨⟨a, b, k⟩, _, fun_mk l c k, ⟨oc, od, .none, kV, doc, pm, an, ct, osl, rfl, l, c⟩, k⟩
/-- an __init__ whose last parameter has the default value 1 -/
structure Iz (K : PySem.W.Frag) (C : Addr) (qual : Str) (st : Stmt) (f : Addr) (fd : FuncData) (cdv : Value) : Prop where
  mk' : Mk K C f
  z : FunZ K "__init__" qual st f fd cdv
  d : FunD K "__init__" qual (defArgs st) (defBody st) (defScope st) [.int 1] [] f fd
theorem iz_mk {C Td : Addr} {qual : Str} {st : Stmt} {f : Addr} {oc oc2 : Value} {od od2 an : Option Addr} {osl osl2 : Array (Option Value)} {kV doc pm cdv ct : Value} {arr : Array Value} {n2 : Nat} (m1 : PySem.W.makesIn K C = true) (a : PySem.W.findIn K (.ref C) "__init__" = some (some (.ref f))) (b : PySem.W.isFn K (.ref f) = true) (kC : PySem.W.keepIn K (.ref C) = true)
    (l : K.lookup f = some ⟨oc, od, .func (PySem.W.fnOf "__init__" qual (defArgs st) (defBody st) (defScope st) (.ref Td) kV doc pm an cdv ct), osl⟩) (c : PySem.W.codeIn K cdv qual = true) (k : PySem.W.keepIn K (.ref f) = true)
    (t : K.lookup Td = some ⟨oc2, od2, .seq arr n2, osl2⟩) (e : ∃ tk, arr.toList = [Value.int 1 tk]) : Iz K C qual st f (PySem.W.fnOf "__init__" qual (defArgs st) (defBody st) (defScope st) (.ref Td) kV doc pm an cdv ct) cdv := by
  obtain ⟨tk, e⟩ := e
  refine ⟨⟨m1, a, b, kC⟩, ⟨⟨oc, od, .ref Td, kV, doc, pm, an, ct, osl, rfl, l, c⟩, k⟩, ⟨oc, od, .ref Td, kV, doc, pm, an, cdv, ct, osl, rfl, l, c, .inr ⟨by simp, Td, _, arr.toList, n2, rfl, t, by simp, ?_⟩, .inl rfl⟩, k⟩
  rw [e]
  exact .cons ⟨_, rfl⟩ .nil
end
end Fd

set_option Elab.async false
set_option linter.all false
set_option maxRecDepth 100000
set_option maxHeartbeats 4000000
/-! K02a: the Ratio's own defs, the numbers' helpers. -/
namespace K02
open PySem PySem.Spec PyProof.Rows L2 Fd
def pT : Pos := ⟨0, 0, 0, 0⟩
def top (i : Nat) : Stmt := PySem.Challenge.pw_everylist_k02_ratios.main.body.getD i (.Pass pT)
def inCls (st : Stmt) (j : Nat) : Stmt := match st with
  | .ClassDef _ _ _ body _ _ _ _ _ _ _ => body.getD j (.Pass pT)
  | s => s
def sIsInt : Stmt := top 2
def sInit : Stmt := inCls (top 4) 0
def sIsNum : Stmt := top 5
def sTopOf : Stmt := top 6
def sBotOf : Stmt := top 7
def sLess : Stmt := top 8
def sPlain : Stmt := top 9
/-- the divisor that __init__ divides by -/
def dv (t b : Int) : Int := if b < 0 then -((Nat.gcd t.natAbs b.natAbs : Nat) : Int) else ((Nat.gcd t.natAbs b.natAbs : Nat) : Int)
def rF (t b : Int) : List D := [.int (t.fdiv (dv t b)), .int (b.fdiv (dv t b))]
def rN : List Str := ["top", "bottom"]
def pInit (ds : List D) (ns : List Str) (xs : List D) : Prop := ∃ t b : Int, ds = [.int t, .int b] ∧ b ≠ 0 ∧ b.natAbs.log2 < 9000 ∧ ns = rN ∧ xs = rF t b
theorem scInit : FnScope ["self", "top", "bottom", "divisor"] ["self", "top", "bottom"] (defScope sInit) := ⟨rfl, rfl, rfl, by decide +kernel, rfl, by decide +kernel, by decide +kernel⟩
theorem dv_ok {t b : Int} (hb : b ≠ 0) (hl : b.natAbs.log2 < 9000) : dv t b ≠ 0 ∧ (dv t b).natAbs.log2 < 9000 := by
  have g0 : Nat.gcd t.natAbs b.natAbs ≠ 0 := fun z => hb (by have := Nat.eq_zero_of_gcd_eq_zero_right z; omega)
  have gl : Nat.gcd t.natAbs b.natAbs ≤ b.natAbs := Nat.le_of_dvd (by omega) (Nat.gcd_dvd_right _ _)
  have e : (dv t b).natAbs = Nat.gcd t.natAbs b.natAbs := by unfold dv; split <;> omega
  refine ⟨fun z => g0 (by rw [← e, z]; rfl), ?_⟩
  rw [e]
  refine Nat.lt_of_le_of_lt ?_ hl
  rw [Nat.le_log2 (by omega)]
  exact Nat.le_trans ((Nat.le_log2 g0).mp (Nat.le_refl _)) gl
section
variable {T : List (Addr × Str)} {P : Program} {w : World} {K : PySem.W.Frag} {mg : Str → Option Value} {base : Heap} {C f : Addr} {fd : FuncData}
theorem ok_init {cdv : Value} (F : FunZ K "__init__" "Ratio.__init__" sInit f fd cdv) (cl : Cls K C) (nt : NoAttr K C "top") (nb : NoAttr K C "bottom") (hg : mg "gcd" = some (.builtin "math.gcd")) : FnOk P w K mg base CX0 1 f fd ["self", "top", "bottom"] (spM T K C 2 pInit) := by
  refine init_ok F scInit rfl fun A outer s H E p ds ns xs hr _ ⟨t, b, e1, hb, hl, e2, e3⟩ => ?_
  subst e1; subst e2; subst e3
  obtain ⟨h1, h2⟩ := dv_ok (t := t) hb hl
  refine svs_cons (sv_if (TV.cast (tv_eqI (ev_var 2 rfl) ev_int) (decide_eq_false hb)) (fun z => nomatch z) (fun _ => svs_nil ?_))
  refine svs_cons (sv_set 3 (ev_gcd (ev_var 1 rfl) (ev_var 2 rfl) hg) ?_ scInit.nd)
  refine svs_cons (sv_if (tv_lt (ev_var 2 rfl) ev_int) (fun z => ?_) (fun z => ?_))
  · have hneg : b < 0 := by simpa using z
    have ed : dv t b = -((Nat.gcd t.natAbs b.natAbs : Nat) : Int) := if_pos hneg
    refine svs_one (sv_set 3 (d := .int (dv t b)) (EV.cast (ev_neg (ev_var 3 rfl)) (by rw [ed])) ?_ scInit.nd)
    refine svs_cons (sv_fldO 0 rfl (ev_fdivX ⟨h1, h2⟩ (ev_var 1 rfl) (ev_var 3 rfl)) ?_ cl nt (by decide) (by decide))
    exact svs_one (sv_fldO 0 rfl (ev_fdivX ⟨h1, h2⟩ (ev_var 2 rfl) (ev_var 3 rfl)) rfl cl nb (by decide) (by decide))
  · have hpos : ¬ b < 0 := by simpa using z
    have ed : dv t b = ((Nat.gcd t.natAbs b.natAbs : Nat) : Int) := if_neg hpos
    refine svs_nil ?_
    rw [← ed]
    refine svs_cons (sv_fldO 0 rfl (ev_fdivX ⟨h1, h2⟩ (ev_var 1 rfl) (ev_var 3 rfl)) ?_ cl nt (by decide) (by decide))
    exact svs_one (sv_fldO 0 rfl (ev_fdivX ⟨h1, h2⟩ (ev_var 2 rfl) (ev_var 3 rfl)) rfl cl nb (by decide) (by decide))
end
end K02

set_option Elab.async false
set_option linter.all false
set_option maxRecDepth 100000
set_option maxHeartbeats 4000000
/-! K02b: is_int, is_number, top_of, bottom_of, less, plain. -/
namespace K02
open PySem PySem.Spec PyProof.Rows L2 Fd
def tys : List String := ["int", "bool", "str", "NoneType", "list", "tuple"]
/-- what the top has made of Ratio -/
structure Rt (K : PySem.W.Frag) (mg : Str → Option Value) (C : Addr) : Prop where
  mgR : mg "Ratio" = some (.ref C)
  ik : InK K C
  nt : NoAttr K C "top"
  nb : NoAttr K C "bottom"
  kI : PySem.W.kitOne K (.ref C) (.type "int") = some false
  kB : PySem.W.kitOne K (.ref C) (.type "bool") = some false
  kO : ∀ T, T ∈ tys → PySem.W.kitOne K (.type T) (.ref C) = some false
  kR : PySem.W.kitOne K (.ref C) (.ref C) = some true
  bIs : mg "isinstance" = none
  bInt : mg "int" = none
  bBool : mg "bool" = none
/-- a Ratio as it stands -/
def rat (C : Addr) (t b : Int) : D := .ins C rN [.int t, .int b]
/-- a thing that the numbers' helpers are asked of -/
def Th (C : Addr) (x : D) : Prop := (∃ t b, x = rat C t b) ∨ (∃ T, T ∈ tys ∧ x.ty? = some (.type T) ∧ (match x with | .rdl _ => False | .ins _ _ _ => False | _ => True))
def isI : D → Bool
  | .int _ => true
  | _ => false
def isN (C : Addr) : D → Bool
  | .int _ => true
  | .ins D' _ _ => D' == C
  | _ => false
theorem Th.cls {K : PySem.W.Frag} {mg : Str → Option Value} {C : Addr} {x : D} (h : Th C x) (R : Rt K mg C) : x.cls K := by
  rcases h with ⟨t, b, rfl⟩ | ⟨T, _, h1, h2⟩
  · exact R.ik
  · cases x <;> first | trivial | exact h2.elim
theorem kit_int : ∀ T, T ∈ tys → kitB T "int" = some (T == "int" || T == "bool") ∧ kitB T "bool" = some (T == "bool") := by decide +kernel
theorem Th.ty {K : PySem.W.Frag} {mg : Str → Option Value} {C : Addr} {x : D} (h : Th C x) (R : Rt K mg C) : ∃ t b1 b2 b3, x.ty? = some t ∧ PySem.W.kitOne K t (.type "int") = some b1 ∧ PySem.W.kitOne K t (.type "bool") = some b2 ∧ PySem.W.kitOne K t (.ref C) = some b3 ∧ (b1 && !b2) = isI x ∧ (isI x || b3) = isN C x ∧ (b3 = true ↔ ∃ t b, x = rat C t b) := by
  rcases h with ⟨t, b, rfl⟩ | ⟨T, hT, h1, h2⟩
  · exact ⟨_, _, _, _, rfl, R.kI, R.kB, R.kR, rfl, by simp [isN, isI, rat], ⟨fun _ => ⟨t, b, rfl⟩, fun _ => rfl⟩⟩
  · obtain ⟨k1, k2⟩ := kit_int T hT
    refine ⟨_, _, _, _, h1, kit_ty k1, kit_ty k2, R.kO T hT, ?_⟩
    cases x <;> simp [D.ty?] at h1 <;> first | exact h2.elim | (subst h1; simp [isI, isN, rat])
def pIsInt (C : Addr) (ds : List D) (d : D) : Prop := ∃ x, ds = [x] ∧ Th C x ∧ d = .bl (isI x)
def pIsNum (C : Addr) (ds : List D) (d : D) : Prop := ∃ x, ds = [x] ∧ Th C x ∧ d = .bl (isN C x)
/-- a number -/
def Nu (C : Addr) (x : D) (t b : Int) : Prop := (x = .int t ∧ b = 1) ∨ x = rat C t b
theorem Nu.th {C : Addr} {x : D} {t b : Int} (h : Nu C x t b) : Th C x := by
  rcases h with ⟨rfl, rfl⟩ | rfl
  · exact .inr ⟨"int", by decide, rfl, trivial⟩
  · exact .inl ⟨t, b, rfl⟩
def pTop (C : Addr) (ds : List D) (d : D) : Prop := ∃ x t b, ds = [x] ∧ Nu C x t b ∧ d = .int t
def pBot (C : Addr) (ds : List D) (d : D) : Prop := ∃ x t b, ds = [x] ∧ Nu C x t b ∧ d = .int b
def pLess (C : Addr) (ds : List D) (d : D) : Prop := ∃ x y t b u c, ds = [x, y] ∧ Nu C x t b ∧ Nu C y u c ∧ CMulW t c ∧ CMulW u b ∧ d = .bl (decide (t * c < u * b))
def plainD (C : Addr) (x : D) (t b : Int) : D := if b = 1 then .int t else x
def pPlain (C : Addr) (ds : List D) (d : D) : Prop := ∃ x t b, ds = [x] ∧ Nu C x t b ∧ d = plainD C x t b
theorem scIsInt : FnScope ["thing"] ["thing"] (defScope sIsInt) := ⟨rfl, rfl, rfl, by decide +kernel, rfl, by decide +kernel, by decide +kernel⟩
theorem scIsNum : FnScope ["thing"] ["thing"] (defScope sIsNum) := ⟨rfl, rfl, rfl, by decide +kernel, rfl, by decide +kernel, by decide +kernel⟩
theorem scTop : FnScope ["number"] ["number"] (defScope sTopOf) := ⟨rfl, rfl, rfl, by decide +kernel, rfl, by decide +kernel, by decide +kernel⟩
theorem scBot : FnScope ["number"] ["number"] (defScope sBotOf) := ⟨rfl, rfl, rfl, by decide +kernel, rfl, by decide +kernel, by decide +kernel⟩
theorem scLess : FnScope ["one", "two"] ["one", "two"] (defScope sLess) := ⟨rfl, rfl, rfl, by decide +kernel, rfl, by decide +kernel, by decide +kernel⟩
theorem scPlain : FnScope ["number"] ["number"] (defScope sPlain) := ⟨rfl, rfl, rfl, by decide +kernel, rfl, by decide +kernel, by decide +kernel⟩
section
variable {T : List (Addr × Str)} {P : Program} {w : World} {K : PySem.W.Frag} {mg : Str → Option Value} {base : Heap} {C f : Addr} {fd : FuncData}
theorem ok_isInt (F : Fun K "is_int" "is_int" sIsInt f fd) (R : Rt K mg C) : FnOk P w K mg base CX0 1 f fd ["thing"] (spD T K 1 (pIsInt C)) := by
  refine fd_ok F scIsInt rfl fun cdv A outer s H E ds d hr _ ⟨x, e1, hx, e2⟩ => ?_
  subst e1; subst e2
  obtain ⟨t, b1, b2, b3, k1, k2, k3, k4, k5, k6, k7⟩ := hx.ty R
  exact svs_one (sv_ret (EV.cast (ev_andB (ev_isT (ev_var 0 rfl) k1 (hx.cls R) k2 R.bInt (by decide +kernel) R.bIs) fun _ => ev_one (ev_not (ev_isT (ev_var 0 rfl) k1 (hx.cls R) k3 R.bBool (by decide +kernel) R.bIs))) (by rw [k5])) rfl)
theorem ok_isNum (F : Fun K "is_number" "is_number" sIsNum f fd) (R : Rt K mg C) (G : FD T P w K mg base "is_int" 1 1 (pIsInt C)) : FnOk P w K mg base CX0 2 f fd ["thing"] (spD T K 1 (pIsNum C)) := by
  refine fd_ok F scIsNum rfl fun cdv A outer s H E ds d hr _ ⟨x, e1, hx, e2⟩ => ?_
  subst e1; subst e2
  obtain ⟨t, b1, b2, b3, k1, k2, k3, k4, k5, k6, k7⟩ := hx.ty R
  exact svs_one (sv_ret (EV.cast (ev_orB (ev_call G hr (evs_cons (ev_var 0 rfl) evs_nil) ⟨x, rfl, hx, rfl⟩) fun _ => ev_one (ev_isO (ev_var 0 rfl) k1 (hx.cls R) k4 R.mgR R.bIs)) (by rw [k6])) rfl)
theorem nu_isO {C : Addr} {x : D} {t b : Int} (h : Nu C x t b) (R : Rt K mg C) : (∃ ty, x.ty? = some ty ∧ PySem.W.kitOne K ty (.ref C) = some false ∧ x = .int t ∧ b = 1) ∨ (x.ty? = some (.ref C) ∧ PySem.W.kitOne K (.ref C) (.ref C) = some true ∧ x = rat C t b) := by
  rcases h with ⟨rfl, rfl⟩ | rfl
  · exact .inl ⟨_, rfl, R.kO "int" (by decide), rfl, rfl⟩
  · exact .inr ⟨rfl, R.kR, rfl⟩
theorem ok_top (F : Fun K "top_of" "top_of" sTopOf f fd) (R : Rt K mg C) : FnOk P w K mg base CX0 1 f fd ["number"] (spD T K 1 (pTop C)) := by
  refine fd_ok F scTop rfl fun cdv A outer s H E ds d hr _ ⟨x, t, b, e1, hx, e2⟩ => ?_
  subst e1; subst e2
  have hc := hx.th.cls R
  rcases nu_isO hx R with ⟨ty, k1, k2, e, e'⟩ | ⟨k1, k2, e⟩
  · subst e
    exact svs_one (sv_ret (ev_if (t := false) (tv_of (ev_isO (ev_var 0 rfl) k1 hc k2 R.mgR R.bIs)) (fun z => nomatch z) fun _ => ev_var 0 rfl) rfl)
  · subst e
    exact svs_one (sv_ret (ev_if (t := true) (tv_of (ev_isO (ev_var 0 rfl) k1 hc k2 R.mgR R.bIs)) (fun _ => ev_fld (ev_var 0 rfl) R.ik.cl R.nt 0 rfl rfl (by decide)) fun z => nomatch z) rfl)
theorem ok_bot (F : Fun K "bottom_of" "bottom_of" sBotOf f fd) (R : Rt K mg C) : FnOk P w K mg base CX0 1 f fd ["number"] (spD T K 1 (pBot C)) := by
  refine fd_ok F scBot rfl fun cdv A outer s H E ds d hr _ ⟨x, t, b, e1, hx, e2⟩ => ?_
  subst e1; subst e2
  have hc := hx.th.cls R
  rcases nu_isO hx R with ⟨ty, k1, k2, e, e'⟩ | ⟨k1, k2, e⟩
  · subst e; subst e'
    exact svs_one (sv_ret (ev_if (t := false) (tv_of (ev_isO (ev_var 0 rfl) k1 hc k2 R.mgR R.bIs)) (fun z => nomatch z) fun _ => ev_int) rfl)
  · subst e
    exact svs_one (sv_ret (ev_if (t := true) (tv_of (ev_isO (ev_var 0 rfl) k1 hc k2 R.mgR R.bIs)) (fun _ => ev_fld (ev_var 0 rfl) R.ik.cl R.nb 1 rfl rfl (by decide)) fun z => nomatch z) rfl)
theorem ok_less (F : Fun K "less" "less" sLess f fd) (GT : FD T P w K mg base "top_of" 1 1 (pTop C)) (GB : FD T P w K mg base "bottom_of" 1 1 (pBot C)) : FnOk P w K mg base CX0 2 f fd ["one", "two"] (spD T K 2 (pLess C)) := by
  refine fd_ok F scLess rfl fun cdv A outer s H E ds d hr _ ⟨x, y, t, b, u, c, e1, hx, hy, c1, c2, e2⟩ => ?_
  subst e1; subst e2
  exact svs_one (sv_ret (ev_lt (ev_mulW c1 (ev_call GT hr (evs_cons (ev_var 0 rfl) evs_nil) ⟨x, t, b, rfl, hx, rfl⟩) (ev_call GB hr (evs_cons (ev_var 1 rfl) evs_nil) ⟨y, u, c, rfl, hy, rfl⟩)) (ev_mulW c2 (ev_call GT hr (evs_cons (ev_var 1 rfl) evs_nil) ⟨y, u, c, rfl, hy, rfl⟩) (ev_call GB hr (evs_cons (ev_var 0 rfl) evs_nil) ⟨x, t, b, rfl, hx, rfl⟩))) rfl)
theorem ok_plain (F : Fun K "plain" "plain" sPlain f fd) (R : Rt K mg C) : FnOk P w K mg base CX0 1 f fd ["number"] (spD T K 1 (pPlain C)) := by
  refine fd_ok F scPlain rfl fun cdv A outer s H E ds d hr _ ⟨x, t, b, e1, hx, e2⟩ => ?_
  subst e1; subst e2
  have hc := hx.th.cls R
  rcases nu_isO hx R with ⟨ty, k1, k2, e, e'⟩ | ⟨k1, k2, e⟩
  · subst e; subst e'
    refine svs_cons (sv_if (t := false) (TW.tv (tw_andB (t := false) (u := false) (tv_of (ev_isO (ev_var 0 rfl) k1 hc k2 R.mgR R.bIs)) (fun z => nomatch z))) (fun z => nomatch z) (fun _ => svs_nil (svs_one (sv_ret (ev_var 0 rfl) rfl))))
  · subst e
    refine svs_cons (sv_if (t := decide (b = 1)) (TV.cast (TW.tv (tw_andB (tv_of (ev_isO (ev_var 0 rfl) k1 hc k2 R.mgR R.bIs)) fun _ => tw_and1 (tv_eqI (ev_fld (ev_var 0 rfl) R.ik.cl R.nb 1 rfl rfl (by decide)) ev_int))) (by simp)) (fun z => ?_) (fun z => ?_))
    · refine svs_one (sv_ret (ev_fld (ev_var 0 rfl) R.ik.cl R.nt 0 rfl rfl (by decide)) ?_)
      show D.int t = plainD C _ t b
      rw [plainD, if_pos (of_decide_eq_true z)]
    · refine svs_nil (svs_one (sv_ret (ev_var 0 rfl) ?_))
      show rat C t b = plainD C _ t b
      rw [plainD, if_neg (of_decide_eq_false z)]
end
end K02

set_option Elab.async false
set_option linter.all false
set_option maxRecDepth 100000
set_option maxHeartbeats 4000000
/-! K02c: the operators' methods of Ratio. -/
namespace K02
open PySem PySem.Spec PyProof.Rows L2 Fd
def Sm (t : Int) : Prop := t.natAbs < 2 ^ 400
theorem sm_mul {a b : Int} (ha : Sm a) (hb : Sm b) : CMulW a b := wide_mul ha hb (by decide) (by decide) (by decide)
theorem sm_log {a : Int} (ha : a.natAbs < 2 ^ 8000) : a.natAbs.log2 < 9000 := Nat.lt_of_lt_of_le (PySem.Flt.log2_lt_of (by decide) ha) (by decide)
theorem sm_log1 {a : Int} (ha : Sm a) : a.natAbs.log2 < 9000 := sm_log (Nat.lt_of_lt_of_le ha (Nat.pow_le_pow_right (by decide) (by decide)))
theorem sm_log2 {a b : Int} (ha : Sm a) (hb : Sm b) : (a * b).natAbs.log2 < 9000 := sm_log (Nat.lt_of_lt_of_le (wide_lt ha hb) (Nat.pow_le_pow_right (by decide) (by decide)))
/-- the Ratio t / b as it is made -/
def ratL (C : Addr) (t b : Int) : D := .ins C rN (rF t b)
def sAdd : Stmt := inCls (top 4) 1
def sRadd : Stmt := inCls (top 4) 2
def sSub : Stmt := inCls (top 4) 3
def sRsub : Stmt := inCls (top 4) 4
def sMul : Stmt := inCls (top 4) 5
def sRmul : Stmt := inCls (top 4) 6
def sNeg : Stmt := inCls (top 4) 7
def sOver : Stmt := inCls (top 4) 8
def sEq : Stmt := inCls (top 4) 9
/-- of a Ratio and a number: g, h the top and the bottom that are made -/
def pBin (C : Addr) (g h : Int → Int → Int → Int → Int) (ds : List D) (d : D) : Prop := ∃ t b y u c, ds = [rat C t b, y] ∧ Nu C y u c ∧ Sm t ∧ Sm b ∧ Sm u ∧ Sm c ∧ h t b u c ≠ 0 ∧ d = ratL C (g t b u c) (h t b u c)
def pRef (C : Addr) (g h : Int → Int → Int → Int) (ds : List D) (d : D) : Prop := ∃ t b j, ds = [rat C t b, .int j] ∧ Sm t ∧ Sm b ∧ Sm j ∧ h t b j ≠ 0 ∧ d = ratL C (g t b j) (h t b j)
def pNeg (C : Addr) (ds : List D) (d : D) : Prop := ∃ t b, ds = [rat C t b] ∧ Sm b ∧ b ≠ 0 ∧ d = ratL C (-t) b
def pEq (C : Addr) (ds : List D) (d : D) : Prop := ∃ t b y, ds = [rat C t b, y] ∧ Th C y ∧ ((isN C y = false ∧ d = .bl false) ∨ ∃ u c, Nu C y u c ∧ d = .bl (decide (t = u) && decide (b = c)))
theorem Nu.isN {C : Addr} {x : D} {t b : Int} (h : Nu C x t b) : isN C x = true := by
  rcases h with ⟨rfl, rfl⟩ | rfl
  · rfl
  · simp [K02.isN, rat]
section
variable {T : List (Addr × Str)} {P : Program} {w : World} {K : PySem.W.Frag} {mg : Str → Option Value} {base : Heap} {C f : Addr} {fd : FuncData}
/-- what the methods call -/
structure Env0 (T : List (Addr × Str)) (P : Program) (w : World) (K : PySem.W.Frag) (mg : Str → Option Value) (base : Heap) (C : Addr) : Prop where
  R : Rt K mg C
  M : MD T P w K mg base "Ratio" C 2 1 pInit
  N : FD T P w K mg base "is_number" 1 2 (pIsNum C)
  Tp : FD T P w K mg base "top_of" 1 1 (pTop C)
  B : FD T P w K mg base "bottom_of" 1 1 (pBot C)
section
variable {T : List (Addr × Str)} {X : Cx} {ss : SS} {e : Expr} {es : List Expr} {a : Expr} {x : D} {t b u c : Int} {p pos pos2 : Pos}
theorem e_top (V : Env0 T X.prog X.w X.K X.mg X.base C) (he : EV T X e ss (rat C t b)) (hb : attributeBase e "top" X.env (eval e X.env) = eval e X.env := by rfl) : EV T X (.Attribute e "top" pos) ss (.int t) := ev_fld he V.R.ik.cl V.R.nt 0 rfl rfl (by decide) hb
theorem e_bot (V : Env0 T X.prog X.w X.K X.mg X.base C) (he : EV T X e ss (rat C t b)) (hb : attributeBase e "bottom" X.env (eval e X.env) = eval e X.env := by rfl) : EV T X (.Attribute e "bottom" pos) ss (.int b) := ev_fld he V.R.ik.cl V.R.nb 1 rfl rfl (by decide) hb
theorem e_topOf (V : Env0 T X.prog X.w X.K X.mg X.base C) (hr : Room 1 X.A) (h : Nu C x u c) (he : EV T X e ss x) (hg : Gl X "top_of" := by rfl) (hs : starEach [e] X.env = [(false, eval e X.env)] := by rfl) : EV T X (.Call (.Name "top_of" p) [e] [] pos) ss (.int u) := ev_call V.Tp hr (evs_cons he evs_nil hs) ⟨x, u, c, rfl, h, rfl⟩ rfl hg (by decide) hs
theorem e_botOf (V : Env0 T X.prog X.w X.K X.mg X.base C) (hr : Room 1 X.A) (h : Nu C x u c) (he : EV T X e ss x) (hg : Gl X "bottom_of" := by rfl) (hs : starEach [e] X.env = [(false, eval e X.env)] := by rfl) : EV T X (.Call (.Name "bottom_of" p) [e] [] pos) ss (.int c) := ev_call V.B hr (evs_cons he evs_nil hs) ⟨x, u, c, rfl, h, rfl⟩ rfl hg (by decide) hs
theorem e_ratio (V : Env0 T X.prog X.w X.K X.mg X.base C) (hr : Room 2 X.A) (h0 : b ≠ 0) (hl : b.natAbs.log2 < 9000) (he : EV T X e ss (.int t)) (ha : EV T X a ss (.int b)) (hg : Gl X "Ratio" := by rfl) (hs : starEach [e, a] X.env = (false, eval e X.env) :: starEach [a] X.env := by rfl) (hs2 : starEach [a] X.env = [(false, eval a X.env)] := by rfl)
    (hpl : (backTo pos (starEach [a] X.env)).any (·.1) = false := by rfl) : EV T X (.Call (.Name "Ratio" p) [e, a] [] pos) ss (ratL C t b) := ev_make V.M hr (evs_cons he (evs_cons ha evs_nil hs2) hs) ⟨t, b, rfl, h0, hl, rfl, rfl⟩ rfl hg (by decide) hs hpl
theorem t_num (V : Env0 T X.prog X.w X.K X.mg X.base C) (hr : Room 2 X.A) (h : Nu C x u c) (he : EV T X e ss x) (hg : Gl X "is_number" := by rfl) (hs : starEach [e] X.env = [(false, eval e X.env)] := by rfl) : TV T X (.UnaryOp .Not (.Call (.Name "is_number" p) [e] [] pos) pos2) ss false :=
  TV.cast (tv_not (tv_of (b := true) (ev_call V.N hr (evs_cons he evs_nil hs) ⟨x, rfl, h.th, by rw [h.isN]⟩ rfl hg (by decide) hs))) rfl
end
theorem scS2 {st : Stmt} (h : (defScope st).kind = .function ∧ (defScope st).isCoroutine = false ∧ (defScope st).isGenerator = false ∧ (∀ x ∈ (["self", "other"] : List Str), (defScope st).names.lookup x = some .local ∨ (defScope st).names.lookup x = some .cell) ∧ (∀ y ∈ (defScope st).names, y.2 ≠ .free)) : FnScope ["self", "other"] ["self", "other"] (defScope st) :=
  ⟨h.1, h.2.1, h.2.2.1, by decide +kernel, rfl, h.2.2.2.1, h.2.2.2.2⟩
theorem scAdd : FnScope ["self", "other"] ["self", "other"] (defScope sAdd) := ⟨rfl, rfl, rfl, by decide +kernel, rfl, by decide +kernel, by decide +kernel⟩
theorem scRadd : FnScope ["self", "other"] ["self", "other"] (defScope sRadd) := ⟨rfl, rfl, rfl, by decide +kernel, rfl, by decide +kernel, by decide +kernel⟩
theorem scSub : FnScope ["self", "other"] ["self", "other"] (defScope sSub) := ⟨rfl, rfl, rfl, by decide +kernel, rfl, by decide +kernel, by decide +kernel⟩
theorem scRsub : FnScope ["self", "other"] ["self", "other"] (defScope sRsub) := ⟨rfl, rfl, rfl, by decide +kernel, rfl, by decide +kernel, by decide +kernel⟩
theorem scMul : FnScope ["self", "other"] ["self", "other"] (defScope sMul) := ⟨rfl, rfl, rfl, by decide +kernel, rfl, by decide +kernel, by decide +kernel⟩
theorem scRmul : FnScope ["self", "other"] ["self", "other"] (defScope sRmul) := ⟨rfl, rfl, rfl, by decide +kernel, rfl, by decide +kernel, by decide +kernel⟩
theorem scOver : FnScope ["self", "other"] ["self", "other"] (defScope sOver) := ⟨rfl, rfl, rfl, by decide +kernel, rfl, by decide +kernel, by decide +kernel⟩
theorem scEq : FnScope ["self", "other"] ["self", "other"] (defScope sEq) := ⟨rfl, rfl, rfl, by decide +kernel, rfl, by decide +kernel, by decide +kernel⟩
theorem scNeg : FnScope ["self"] ["self"] (defScope sNeg) := ⟨rfl, rfl, rfl, by decide +kernel, rfl, by decide +kernel, by decide +kernel⟩
theorem ok_add (F : Fun K "__add__" "Ratio.__add__" sAdd f fd) (V : Env0 T P w K mg base C) : FnOk P w K mg base CX0 3 f fd ["self", "other"] (spD T K 2 (pBin C (fun t b u c => t * c + u * b) fun t b u c => b * c)) := by
  refine fd_ok F scAdd rfl fun cdv A outer s H E ds d hr _ ⟨t, b, y, u, c, e1, hy, s1, s2, s3, s4, h0, e2⟩ => ?_
  subst e1; subst e2
  have hr1 := hr.mono (show 1 ≤ 2 by decide)
  refine svs_cons (sv_if (t := false) (t_num V hr hy (ev_var 1 rfl)) (fun z => nomatch z) fun _ => svs_nil ?_)
  exact svs_one (sv_ret (e_ratio V hr h0 (sm_log2 s2 s4) (ev_add (ev_mulW (sm_mul s1 s4) (e_top V (ev_var 0 rfl)) (e_botOf V hr1 hy (ev_var 1 rfl))) (ev_mulW (sm_mul s3 s2) (e_topOf V hr1 hy (ev_var 1 rfl)) (e_bot V (ev_var 0 rfl)))) (ev_mulW (sm_mul s2 s4) (e_bot V (ev_var 0 rfl)) (e_botOf V hr1 hy (ev_var 1 rfl)))) rfl)
theorem ok_sub (F : Fun K "__sub__" "Ratio.__sub__" sSub f fd) (V : Env0 T P w K mg base C) : FnOk P w K mg base CX0 3 f fd ["self", "other"] (spD T K 2 (pBin C (fun t b u c => t * c - u * b) fun t b u c => b * c)) := by
  refine fd_ok F scSub rfl fun cdv A outer s H E ds d hr _ ⟨t, b, y, u, c, e1, hy, s1, s2, s3, s4, h0, e2⟩ => ?_
  subst e1; subst e2
  have hr1 := hr.mono (show 1 ≤ 2 by decide)
  refine svs_cons (sv_if (t := false) (t_num V hr hy (ev_var 1 rfl)) (fun z => nomatch z) fun _ => svs_nil ?_)
  exact svs_one (sv_ret (e_ratio V hr h0 (sm_log2 s2 s4) (ev_sub (ev_mulW (sm_mul s1 s4) (e_top V (ev_var 0 rfl)) (e_botOf V hr1 hy (ev_var 1 rfl))) (ev_mulW (sm_mul s3 s2) (e_topOf V hr1 hy (ev_var 1 rfl)) (e_bot V (ev_var 0 rfl)))) (ev_mulW (sm_mul s2 s4) (e_bot V (ev_var 0 rfl)) (e_botOf V hr1 hy (ev_var 1 rfl)))) rfl)
theorem ok_mul (F : Fun K "__mul__" "Ratio.__mul__" sMul f fd) (V : Env0 T P w K mg base C) : FnOk P w K mg base CX0 3 f fd ["self", "other"] (spD T K 2 (pBin C (fun t b u c => t * u) fun t b u c => b * c)) := by
  refine fd_ok F scMul rfl fun cdv A outer s H E ds d hr _ ⟨t, b, y, u, c, e1, hy, s1, s2, s3, s4, h0, e2⟩ => ?_
  subst e1; subst e2
  have hr1 := hr.mono (show 1 ≤ 2 by decide)
  refine svs_cons (sv_if (t := false) (t_num V hr hy (ev_var 1 rfl)) (fun z => nomatch z) fun _ => svs_nil ?_)
  exact svs_one (sv_ret (e_ratio V hr h0 (sm_log2 s2 s4) (ev_mulW (sm_mul s1 s3) (e_top V (ev_var 0 rfl)) (e_topOf V hr1 hy (ev_var 1 rfl))) (ev_mulW (sm_mul s2 s4) (e_bot V (ev_var 0 rfl)) (e_botOf V hr1 hy (ev_var 1 rfl)))) rfl)
theorem ok_over (F : Fun K "over" "Ratio.over" sOver f fd) (V : Env0 T P w K mg base C) : FnOk P w K mg base CX0 3 f fd ["self", "other"] (spD T K 2 (pBin C (fun t b u c => t * c) fun t b u c => b * u)) := by
  refine fd_ok F scOver rfl fun cdv A outer s H E ds d hr _ ⟨t, b, y, u, c, e1, hy, s1, s2, s3, s4, h0, e2⟩ => ?_
  subst e1; subst e2
  have hr1 := hr.mono (show 1 ≤ 2 by decide)
  exact svs_one (sv_ret (e_ratio V hr h0 (sm_log2 s2 s3) (ev_mulW (sm_mul s1 s4) (e_top V (ev_var 0 rfl)) (e_botOf V hr1 hy (ev_var 1 rfl))) (ev_mulW (sm_mul s2 s3) (e_bot V (ev_var 0 rfl)) (e_topOf V hr1 hy (ev_var 1 rfl)))) rfl)
theorem ok_radd (F : Fun K "__radd__" "Ratio.__radd__" sRadd f fd) (V : Env0 T P w K mg base C) : FnOk P w K mg base CX0 3 f fd ["self", "other"] (spD T K 2 (pRef C (fun t b j => j * b + t) fun t b j => b)) := by
  refine fd_ok F scRadd rfl fun cdv A outer s H E ds d hr _ ⟨t, b, j, e1, s1, s2, s3, h0, e2⟩ => ?_
  subst e1; subst e2
  refine svs_cons (sv_if (t := false) (t_num V hr (.inl ⟨rfl, rfl⟩) (ev_var 1 rfl)) (fun z => nomatch z) fun _ => svs_nil ?_)
  exact svs_one (sv_ret (e_ratio V hr h0 (sm_log1 s2) (ev_add (ev_mulW (sm_mul s3 s2) (ev_var 1 rfl) (e_bot V (ev_var 0 rfl))) (e_top V (ev_var 0 rfl))) (e_bot V (ev_var 0 rfl))) rfl)
theorem ok_rsub (F : Fun K "__rsub__" "Ratio.__rsub__" sRsub f fd) (V : Env0 T P w K mg base C) : FnOk P w K mg base CX0 3 f fd ["self", "other"] (spD T K 2 (pRef C (fun t b j => j * b - t) fun t b j => b)) := by
  refine fd_ok F scRsub rfl fun cdv A outer s H E ds d hr _ ⟨t, b, j, e1, s1, s2, s3, h0, e2⟩ => ?_
  subst e1; subst e2
  refine svs_cons (sv_if (t := false) (t_num V hr (.inl ⟨rfl, rfl⟩) (ev_var 1 rfl)) (fun z => nomatch z) fun _ => svs_nil ?_)
  exact svs_one (sv_ret (e_ratio V hr h0 (sm_log1 s2) (ev_sub (ev_mulW (sm_mul s3 s2) (ev_var 1 rfl) (e_bot V (ev_var 0 rfl))) (e_top V (ev_var 0 rfl))) (e_bot V (ev_var 0 rfl))) rfl)
theorem ok_rmul (F : Fun K "__rmul__" "Ratio.__rmul__" sRmul f fd) (V : Env0 T P w K mg base C) : FnOk P w K mg base CX0 3 f fd ["self", "other"] (spD T K 2 (pRef C (fun t b j => j * t) fun t b j => b)) := by
  refine fd_ok F scRmul rfl fun cdv A outer s H E ds d hr _ ⟨t, b, j, e1, s1, s2, s3, h0, e2⟩ => ?_
  subst e1; subst e2
  refine svs_cons (sv_if (t := false) (t_num V hr (.inl ⟨rfl, rfl⟩) (ev_var 1 rfl)) (fun z => nomatch z) fun _ => svs_nil ?_)
  exact svs_one (sv_ret (e_ratio V hr h0 (sm_log1 s2) (ev_mulW (sm_mul s3 s1) (ev_var 1 rfl) (e_top V (ev_var 0 rfl))) (e_bot V (ev_var 0 rfl))) rfl)
theorem ok_neg (F : Fun K "__neg__" "Ratio.__neg__" sNeg f fd) (V : Env0 T P w K mg base C) : FnOk P w K mg base CX0 3 f fd ["self"] (spD T K 1 (pNeg C)) := by
  refine fd_ok F scNeg rfl fun cdv A outer s H E ds d hr _ ⟨t, b, e1, s2, h0, e2⟩ => ?_
  subst e1; subst e2
  exact svs_one (sv_ret (e_ratio V hr h0 (sm_log1 s2) (ev_neg (e_top V (ev_var 0 rfl))) (e_bot V (ev_var 0 rfl))) rfl)
theorem ok_eq (F : Fun K "__eq__" "Ratio.__eq__" sEq f fd) (V : Env0 T P w K mg base C) : FnOk P w K mg base CX0 3 f fd ["self", "other"] (spD T K 2 (pEq C)) := by
  refine fd_ok F scEq rfl fun cdv A outer s H E ds d hr _ ⟨t, b, y, e1, hy, e2⟩ => ?_
  subst e1
  have hr1 := hr.mono (show 1 ≤ 2 by decide)
  rcases e2 with ⟨h1, rfl⟩ | ⟨u, c, hu, rfl⟩
  · exact svs_one (sv_ret (EV.cast (ev_andB (t := false) (u := false) (EV.cast (ev_call V.N hr (evs_cons (ev_var 1 rfl) evs_nil) ⟨y, rfl, hy, rfl⟩) (by rw [h1])) (fun z => nomatch z)) rfl) rfl)
  · exact svs_one (sv_ret (EV.cast (ev_andB (t := true) (EV.cast (ev_call V.N hr (evs_cons (ev_var 1 rfl) evs_nil) ⟨y, rfl, hy, rfl⟩) (by rw [hu.isN])) fun _ => ev_andB (ev_eqI (e_top V (ev_var 0 rfl)) (e_topOf V hr1 hu (ev_var 1 rfl))) fun _ => ev_one (ev_eqI (e_bot V (ev_var 0 rfl)) (e_botOf V hr1 hu (ev_var 1 rfl)))) (by simp)) rfl)
end
end K02

set_option Elab.async false
set_option linter.all false
set_option maxRecDepth 100000
set_option maxHeartbeats 4000000
/-! K02d: the law's own helpers. -/
namespace K02
open PySem PySem.Spec PyProof.Rows L2 Fd
def sCell : Stmt := top 11
def sRow : Stmt := top 12
def sShare : Stmt := top 13
def sLow : Stmt := top 14
def sLadd : Stmt := top 15
def sLmul : Stmt := top 16
def sDrawn : Stmt := top 17
def sRight : Stmt := top 18
def pCell (ds : List D) (d : D) : Prop := ∃ (ns : List Int) (i : Nat), ds = [.rdl (ns.map D.int), .int (i : Nat)] ∧ ns.length ≤ 63 ∧ d = .int (ns.getD i 0)
def pShare (ds : List D) (d : D) : Prop := ∃ a b : Int, ds = [.int a, .int b] ∧ d = .int ((Nat.gcd a.natAbs b.natAbs : Nat) : Int)
def pLow (ds : List D) (d : D) : Prop := ∃ t b : Int, ds = [.int t, .int b] ∧ b ≠ 0 ∧ b.natAbs.log2 < 9000 ∧ d = .tup (rF t b)
def pr (a b : Int) : D := .tup [.int a, .int b]
def pLadd (ds : List D) (d : D) : Prop := ∃ a b c e, ds = [pr a b, pr c e] ∧ Sm a ∧ Sm b ∧ Sm c ∧ Sm e ∧ b * e ≠ 0 ∧ d = .tup (rF (a * e + c * b) (b * e))
def pLmul (ds : List D) (d : D) : Prop := ∃ a b c e, ds = [pr a b, pr c e] ∧ Sm a ∧ Sm b ∧ Sm c ∧ Sm e ∧ b * e ≠ 0 ∧ d = .tup (rF (a * c) (b * e))
theorem scCell : FnScope ["_law_script", "_law_k"] ["_law_script", "_law_k"] (defScope sCell) := ⟨rfl, rfl, rfl, by decide +kernel, rfl, by decide +kernel, by decide +kernel⟩
theorem scShare : FnScope ["_law_one", "_law_two"] ["_law_one", "_law_two"] (defScope sShare) := ⟨rfl, rfl, rfl, by decide +kernel, rfl, by decide +kernel, by decide +kernel⟩
theorem scLow : FnScope ["_law_upper", "_law_lower", "_law_part"] ["_law_upper", "_law_lower"] (defScope sLow) := ⟨rfl, rfl, rfl, by decide +kernel, rfl, by decide +kernel, by decide +kernel⟩
theorem scLadd : FnScope ["_law_x", "_law_y"] ["_law_x", "_law_y"] (defScope sLadd) := ⟨rfl, rfl, rfl, by decide +kernel, rfl, by decide +kernel, by decide +kernel⟩
theorem scLmul : FnScope ["_law_x", "_law_y"] ["_law_x", "_law_y"] (defScope sLmul) := ⟨rfl, rfl, rfl, by decide +kernel, rfl, by decide +kernel, by decide +kernel⟩
section
variable {T : List (Addr × Str)} {P : Program} {w : World} {K : PySem.W.Frag} {mg : Str → Option Value} {base : Heap} {C f : Addr} {fd : FuncData}
theorem ok_cell (F : Fun K "_law_cell" "_law_cell" sCell f fd) (hL : mg "len" = none) : FnOk P w K mg base CX0 1 f fd ["_law_script", "_law_k"] (spD T K 2 pCell) := by
  refine fd_ok F scCell rfl fun cdv A outer s H E ds d hr _ ⟨ns, i, e1, e3, e2⟩ => ?_
  subst e1; subst e2
  refine svs_cons (sv_if (tv_lt (ev_var 1 rfl) (ev_len (n := ns.length) (by simp [D.len]) (ev_var 0 rfl) hL)) (fun h => ?_) (fun h => ?_))
  · have hlt : i < ns.length := by simpa using h
    refine svs_one (sv_ret (ev_ixR ⟨i, rfl, ?_⟩ (ev_var 0 rfl) (ev_var 1 rfl)) rfl)
    rw [List.getElem?_map, List.getElem?_eq_getElem hlt, List.getD_eq_getElem?_getD, List.getElem?_eq_getElem hlt]
    rfl
  · have hlt : ns.length ≤ i := by simpa using h
    refine svs_nil (svs_one (sv_ret ev_int ?_))
    show D.int 0 = D.int (ns.getD i 0)
    rw [List.getD_eq_getElem?_getD, List.getElem?_eq_none hlt]
    rfl
theorem ok_share (F : Fun K "_law_share" "_law_share" sShare f fd) (hA : mg "abs" = none) (hI : mg "int" = none) : FnOk P w K mg base CX0 1 f fd ["_law_one", "_law_two"] (spD T K 2 pShare) := by
  refine fd_ok F scShare rfl fun cdv A outer s H E ds d hr _ ⟨a, b, e1, e2⟩ => ?_
  subst e1; subst e2
  have ha : ∀ z : Int, (if z < 0 then -z else z) = (z.natAbs : Int) := fun z => by split <;> omega
  refine svs_cons (sv_par 0 1 (evs_cons (ev_abs (ev_var 0 rfl) hA) (evs_cons (ev_abs (ev_var 1 rfl) hA) evs_nil)) ?_ scShare.nd)
  rw [ha, ha]
  refine svs_cons (sv_while (fun ss => ∃ m n : Nat, ss = [.d (.int m), .d (.int n)] ∧ Nat.gcd m n = Nat.gcd a.natAbs b.natAbs) (fun ss => match ss with | [_, .d (.int n)] => n.toNat | _ => 0) ⟨_, _, rfl, rfl⟩ ?_)
  rintro ss' ⟨m, n, rfl, hg⟩
  refine ⟨_, tv_gt (ev_var 1 rfl) ev_int, fun h => ?_, fun h => ?_⟩
  · have hn : 0 < n := by simpa using h
    refine svs_one (sv_par 0 1 (evs_cons (ev_var 1 rfl) (evs_cons (ev_mod (by omega) (ev_int1 (ev_var 0 rfl) hI) (ev_var 1 rfl)) evs_nil)) ?_ scShare.nd)
    refine ⟨⟨n, m % n, rfl, ?_⟩, ?_⟩
    · rw [← hg, Nat.gcd_comm m n, Nat.gcd_rec n m, Nat.gcd_comm]
    · show ((m : Int) % (n : Int)).toNat < (n : Int).toNat
      have := Nat.mod_lt m hn
      omega
  · have hn : n = 0 := by simpa using h
    subst hn
    refine svs_one (sv_ret (ev_var 0 rfl) ?_)
    show D.int (m : Int) = D.int _
    rw [← hg, Nat.gcd_zero_right]
theorem ok_low (F : Fun K "_law_low" "_law_low" sLow f fd) (G : FD T P w K mg base "_law_share" 2 1 pShare) : FnOk P w K mg base CX0 2 f fd ["_law_upper", "_law_lower"] (spD T K 2 pLow) := by
  refine fd_ok F scLow rfl fun cdv A outer s H E ds d hr _ ⟨t, b, e1, hb, hl, e2⟩ => ?_
  subst e1; subst e2
  obtain ⟨h1, h2⟩ := dv_ok (t := t) hb hl
  refine svs_cons (sv_set 2 (ev_call G hr (evs_cons (ev_var 0 rfl) (evs_cons (ev_var 1 rfl) evs_nil)) ⟨t, b, rfl, rfl⟩) ?_ scLow.nd)
  refine svs_cons (sv_if (tv_lt (ev_var 1 rfl) ev_int) (fun z => ?_) (fun z => ?_))
  · have hneg : b < 0 := by simpa using z
    have ed : dv t b = -((Nat.gcd t.natAbs b.natAbs : Nat) : Int) := if_pos hneg
    refine svs_one (sv_set 2 (d := .int (dv t b)) (EV.cast (ev_neg (ev_var 2 rfl)) (by rw [ed])) ?_ scLow.nd)
    exact svs_one (sv_ret (ev_tup (evs_cons (ev_fdivX ⟨h1, h2⟩ (ev_var 0 rfl) (ev_var 2 rfl)) (evs_cons (ev_fdivX ⟨h1, h2⟩ (ev_var 1 rfl) (ev_var 2 rfl)) evs_nil))) rfl)
  · have hpos : ¬ b < 0 := by simpa using z
    have ed : dv t b = ((Nat.gcd t.natAbs b.natAbs : Nat) : Int) := if_neg hpos
    refine svs_nil ?_
    rw [← ed]
    exact svs_one (sv_ret (ev_tup (evs_cons (ev_fdivX ⟨h1, h2⟩ (ev_var 0 rfl) (ev_var 2 rfl)) (evs_cons (ev_fdivX ⟨h1, h2⟩ (ev_var 1 rfl) (ev_var 2 rfl)) evs_nil))) rfl)
theorem ok_ladd (F : Fun K "_law_add" "_law_add" sLadd f fd) (G : FD T P w K mg base "_law_low" 2 2 pLow) : FnOk P w K mg base CX0 3 f fd ["_law_x", "_law_y"] (spD T K 2 pLadd) := by
  refine fd_ok F scLadd rfl fun cdv A outer s H E ds d hr _ ⟨a, b, c, e, e1, s1, s2, s3, s4, h0, e2⟩ => ?_
  subst e1; subst e2
  exact svs_one (sv_ret (ev_call G hr (evs_cons (ev_add (ev_mulW (sm_mul s1 s4) (ev_ixT ⟨0, rfl, rfl⟩ (ev_var 0 rfl) ev_int) (ev_ixT ⟨1, rfl, rfl⟩ (ev_var 1 rfl) ev_int)) (ev_mulW (sm_mul s3 s2) (ev_ixT ⟨0, rfl, rfl⟩ (ev_var 1 rfl) ev_int) (ev_ixT ⟨1, rfl, rfl⟩ (ev_var 0 rfl) ev_int)))
    (evs_cons (ev_mulW (sm_mul s2 s4) (ev_ixT ⟨1, rfl, rfl⟩ (ev_var 0 rfl) ev_int) (ev_ixT ⟨1, rfl, rfl⟩ (ev_var 1 rfl) ev_int)) evs_nil)) ⟨_, _, rfl, h0, sm_log2 s2 s4, rfl⟩) rfl)
theorem ok_lmul (F : Fun K "_law_mul" "_law_mul" sLmul f fd) (G : FD T P w K mg base "_law_low" 2 2 pLow) : FnOk P w K mg base CX0 3 f fd ["_law_x", "_law_y"] (spD T K 2 pLmul) := by
  refine fd_ok F scLmul rfl fun cdv A outer s H E ds d hr _ ⟨a, b, c, e, e1, s1, s2, s3, s4, h0, e2⟩ => ?_
  subst e1; subst e2
  exact svs_one (sv_ret (ev_call G hr (evs_cons (ev_mulW (sm_mul s1 s3) (ev_ixT ⟨0, rfl, rfl⟩ (ev_var 0 rfl) ev_int) (ev_ixT ⟨0, rfl, rfl⟩ (ev_var 1 rfl) ev_int))
    (evs_cons (ev_mulW (sm_mul s2 s4) (ev_ixT ⟨1, rfl, rfl⟩ (ev_var 0 rfl) ev_int) (ev_ixT ⟨1, rfl, rfl⟩ (ev_var 1 rfl) ev_int)) evs_nil)) ⟨_, _, rfl, h0, sm_log2 s2 s4, rfl⟩) rfl)
end
end K02

set_option Elab.async false
set_option linter.all false
set_option maxRecDepth 100000
set_option maxHeartbeats 4000000
/-! K02e: the row of draws, the drawn pair, the right Ratio. -/
namespace K02
open PySem PySem.Spec PyProof.Rows L2 Fd
/-- the great cell by mixed radix -/
def rowBig (c : Int) : List Int → List Int
  | [] => []
  | z :: zs => c % z :: rowBig (c / z) zs
def mix (s : Int) (k : Nat) (z : Int) : Int := ((s + 7919 * (k : Int) + 104729) ^ 5 % 2147483647 + (k : Int)) * 40692 % 2147483629 % z
def rowSm (s : Int) : Nat → List Int → List Int
  | _, [] => []
  | k, z :: zs => mix s k z :: rowSm s (k + 1) zs
def rowL (c : Int) (zs : List Int) : List Int := if 10 ^ 18 ≤ c then rowBig c zs else rowSm (c % 2147483647) 0 zs
def pRow (ds : List D) (d : D) : Prop := ∃ (c : Int) (zs : List Int), ds = [.int c, .lst (zs.map D.int)] ∧ zs.length ≤ 1000 ∧ (∀ z ∈ zs, 0 < z ∧ z ≤ 10 ^ 30) ∧ d = .lst ((rowL c zs).map D.int)
theorem scRow : FnScope ["_law_cell_here", "_law_sizes", "_law_out", "_law_size", "_law_seed", "_law_k", "_law_mixed"] ["_law_cell_here", "_law_sizes"] (defScope sRow) := ⟨rfl, rfl, rfl, by decide +kernel, rfl, by decide +kernel, by decide +kernel⟩
def cAt (c : Int) (zs : List Int) (i : Nat) : Int := (zs.take i).foldl (· / ·) c
theorem rowBig_get : ∀ (zs : List Int) (c : Int) (i : Nat) (z : Int), zs[i]? = some z → (rowBig c zs)[i]? = some (cAt c zs i % z)
  | [], _, _, _, h => by simp at h
  | y :: ys, c, 0, z, h => by
    simp at h; subst h; rfl
  | y :: ys, c, i + 1, z, h => by
    simp at h
    have := rowBig_get ys (c / y) i z h
    simpa [rowBig, cAt] using this
theorem rowBig_len : ∀ (zs : List Int) (c : Int), (rowBig c zs).length = zs.length
  | [], _ => rfl
  | y :: ys, c => by simp [rowBig, rowBig_len ys]
theorem cAt_succ {c : Int} {zs : List Int} {i : Nat} {z : Int} (h : zs[i]? = some z) : cAt c zs (i + 1) = cAt c zs i / z := by
  unfold cAt
  rw [List.take_add_one, h, List.foldl_append]
  rfl
theorem rowSm_get (s : Int) : ∀ (zs : List Int) (k i : Nat) (z : Int), zs[i]? = some z → (rowSm s k zs)[i]? = some (mix s (k + i) z)
  | [], _, _, _, h => by simp at h
  | y :: ys, k, 0, z, h => by
    simp at h; subst h; rfl
  | y :: ys, k, i + 1, z, h => by
    simp at h
    have := rowSm_get s ys (k + 1) i z h
    have e : k + 1 + i = k + (i + 1) := by omega
    rw [e] at this
    simpa [rowSm] using this
theorem rowSm_len (s : Int) : ∀ (zs : List Int) (k : Nat), (rowSm s k zs).length = zs.length
  | [], _ => rfl
  | y :: ys, k => by simp [rowSm, rowSm_len s ys]
theorem take_snoc {α : Type} {l : List α} {i : Nat} {x : α} (h : l[i]? = some x) : l.take i ++ [x] = l.take (i + 1) := by
  rw [List.take_add_one, h]; rfl
section
variable {T : List (Addr × Str)} {P : Program} {w : World} {K : PySem.W.Frag} {mg : Str → Option Value} {base : Heap} {C f : Addr} {fd : FuncData}
theorem ok_row (F : Fun K "_law_row" "_law_row" sRow f fd) (hI : mg "int" = none) (hR : mg "range" = none) (hL : mg "len" = none) : FnOk P w K mg base CX0 1 f fd ["_law_cell_here", "_law_sizes"] (spD T K 2 pRow) := by
  refine fd_ok F scRow rfl fun cdv A outer s H E ds d hr _ ⟨c, zs, e1, hlen, hz, e2⟩ => ?_
  subst e1; subst e2
  have hm : ∀ {l : List Int} {i : Nat} {z : Int}, l[i]? = some z → (l.map D.int)[i]? = some (.int z) := fun h => by rw [List.getElem?_map, h]; rfl
  refine svs_cons (sv_setOwn 2 evs_nil ?_ scRow.nd)
  refine svs_cons (sv_if (tv_ge (ev_var 0 rfl) (ev_pow ⟨by decide, by decide, by decide⟩ ev_int ev_int)) (fun h => ?_) (fun h => ?_))
  · have hc : 10 ^ 18 ≤ c := by simpa using h
    have er : rowL c zs = rowBig c zs := if_pos hc
    refine svs_cons (sv_for (.one 3) (fun i ss => i ≤ zs.length ∧ ∃ s3, ss = [.d (.int (cAt c zs i)), .d (.lst (zs.map D.int)), .own (((rowBig c zs).take i).map D.int), s3, .no, .no, .no]) (iv_list (ev_var 1 rfl)) (pg_name (i := 3) scRow.nd rfl (Or.inl rfl)) ⟨Nat.zero_le _, _, rfl⟩ ?_ ?_)
    · rintro i x ss' hx ⟨hi, s3, rfl⟩
      obtain ⟨z, hz1, rfl⟩ : ∃ z, zs[i]? = some z ∧ D.int z = x := by
        rw [List.getElem?_map] at hx
        exact Option.map_eq_some_iff.mp hx
      have hlt : i < zs.length := (List.getElem?_eq_some_iff.mp hz1).1
      obtain ⟨p1, p2⟩ := hz z (List.mem_of_getElem? hz1)
      refine ⟨rfl, svs_cons (sv_append 2 rfl (ev_mod p1 (ev_int1 (ev_var 0 rfl) hI) (ev_var 3 rfl)) ?_ (by simp [rowBig_len]; omega))⟩
      refine svs_one (sv_set 0 (ev_fdivW ⟨p1, sm_log (Nat.lt_of_le_of_lt (show z.natAbs ≤ 10 ^ 30 by omega) (by decide +kernel))⟩ (ev_var 0 rfl) (ev_var 3 rfl)) ⟨hlt, .d (.int z), ?_⟩ scRow.nd)
      rw [cAt_succ hz1, ← take_snoc (rowBig_get zs c i z hz1), List.map_append]
      rfl
    rintro ss' ⟨_, s3, rfl⟩
    refine svs_freeze 2 rfl (svs_one (sv_ret (ev_var 2 rfl) ?_))
    show D.lst _ = D.lst _
    rw [er, List.length_map, List.take_of_length_le (by rw [rowBig_len]; exact Nat.le_refl _)]
  · have hc : ¬ 10 ^ 18 ≤ c := by simpa using h
    have er : rowL c zs = rowSm (c % 2147483647) 0 zs := if_neg hc
    refine svs_nil (svs_cons (sv_set 4 (ev_mod (by decide) (ev_int1 (ev_var 0 rfl) hI) ev_int) ?_ scRow.nd))
    generalize hs : c % 2147483647 = sd
    have hsd : 0 ≤ sd ∧ sd < 2147483647 := by omega
    rw [hs] at er
    refine svs_cons (sv_for (.one 5) (fun i ss => i ≤ zs.length ∧ ∃ s5 s6, ss = [.d (.int c), .d (.lst (zs.map D.int)), .own (((rowSm sd 0 zs).take i).map D.int), .no, .d (.int sd), s5, s6]) (iv_range1 (n := zs.length) (ev_len (n := zs.length) (by simp [D.len]) (ev_var 1 rfl) hL) (by omega) hR) (pg_name (i := 5) scRow.nd rfl (Or.inl rfl)) ⟨Nat.zero_le _, _, _, rfl⟩ ?_ ?_)
    · rintro i x ss' hx ⟨hi, s5, s6, rfl⟩
      have hlt : i < zs.length := by
        have := (List.getElem?_eq_some_iff.mp hx).1
        simpa [rng_len] using this
      have hx : (rng 0 zs.length)[i]? = some x := hx
      rw [rng_get hlt, Int.zero_add] at hx
      obtain rfl : D.int (i : Int) = x := Option.some.inj hx
      have hz1 : zs[i]? = some zs[i] := List.getElem?_eq_getElem hlt
      generalize zs[i] = z at hz1
      obtain ⟨p1, p2⟩ := hz z (List.mem_of_getElem? hz1)
      have hb : (sd + 7919 * (i : Int) + 104729).natAbs < 2 ^ 64 := by omega
      refine ⟨rfl, svs_cons (sv_set 6 (ev_add (ev_mod (by decide) (ev_int1 (ev_pow ⟨by decide, by decide, hb⟩ (ev_add (ev_add (ev_var 4 rfl) (ev_mul (.inl (by decide)) ev_int (ev_var 5 rfl))) ev_int) ev_int) hI) ev_int) (ev_var 5 rfl)) ?_ scRow.nd)⟩
      refine svs_one (sv_append 2 rfl (ev_mod p1 (ev_int1 (ev_mod (by decide) (ev_int1 (ev_mul (.inr (by decide)) (ev_var 6 rfl) ev_int) hI) ev_int) hI) (ev_ixL ⟨i, rfl, hm hz1⟩ (ev_var 1 rfl) (ev_var 5 rfl))) ⟨hlt, .d (.int (i : Nat)), .d (.int ((sd + 7919 * (i : Int) + 104729) ^ (5 : Int).toNat % 2147483647 + (i : Int))), ?_⟩ (by simp [rowSm_len]; omega))
      have := rowSm_get sd zs 0 i z hz1
      rw [Nat.zero_add] at this
      rw [← take_snoc this, List.map_append]
      rfl
    rintro ss' ⟨_, s5, s6, rfl⟩
    refine svs_freeze 2 rfl (svs_one (sv_ret (ev_var 2 rfl) ?_))
    show D.lst _ = D.lst _
    rw [er, rng_len, List.take_of_length_le (by rw [rowSm_len]; exact Nat.le_refl _)]
end
end K02

set_option Elab.async false
set_option linter.all false
set_option maxRecDepth 100000
set_option maxHeartbeats 4000000
/-! K02f: the drawn pair, the right Ratio. -/
namespace K02
open PySem PySem.Spec PyProof.Rows L2 Fd
theorem row3 (o : Int) : ∃ r0 r1 r2 : Int, rowL o [5, 3, 10 ^ 9] = [r0, r1, r2] ∧ (0 ≤ r0 ∧ r0 < 5) ∧ (0 ≤ r1 ∧ r1 < 3) ∧ (0 ≤ r2 ∧ r2 < 10 ^ 9) := by
  unfold rowL
  split
  · exact ⟨_, _, _, rfl, by omega, by omega, by omega⟩
  · refine ⟨_, _, _, rfl, ?_, ?_, ?_⟩ <;> (unfold mix; omega)
def sgn (r : Int) : Int := if r % 2 = 0 then 1 else -1
def drT (c : Int) (r : List Int) : Int := ([c, c % 7 - 3, 0, c, c * r.getD 2 0].getD (r.getD 0 0).toNat 0) % 10 ^ 30 * sgn (r.getD 2 0)
def drB (r : List Int) : Int := [r.getD 2 0 + 1, -1 - r.getD 2 0 % 5, 1 + r.getD 2 0 % 6].getD (r.getD 1 0).toNat 0
def pDrawn (ds : List D) (d : D) : Prop := ∃ c o : Int, ds = [.int c, .int o] ∧ d = pr (drT c (rowL o [5, 3, 10 ^ 9])) (drB (rowL o [5, 3, 10 ^ 9]))
theorem scDrawn : FnScope ["_law_cell_here", "_law_other", "_law_row_here", "_law_upper", "_law_lower"] ["_law_cell_here", "_law_other"] (defScope sDrawn) := ⟨rfl, rfl, rfl, by decide +kernel, rfl, by decide +kernel, by decide +kernel⟩
theorem scRight : FnScope ["_law_number", "_law_x"] ["_law_number", "_law_x"] (defScope sRight) := ⟨rfl, rfl, rfl, by decide +kernel, rfl, by decide +kernel, by decide +kernel⟩
theorem get_lt {l : List Int} {i : Int} (h0 : 0 ≤ i) (h : i.toNat < l.length) : ∃ n : Nat, i = n ∧ (l.map D.int)[n]? = some (.int (l.getD i.toNat 0)) := by
  refine ⟨i.toNat, by omega, ?_⟩
  rw [List.getElem?_map, List.getElem?_eq_getElem h, List.getD_eq_getElem?_getD, List.getElem?_eq_getElem h]
  rfl
def pRight (C : Addr) (ds : List D) (d : D) : Prop := ∃ x a b, ds = [x, pr a b] ∧ Th C x ∧ ((∃ t c, x = rat C t c ∧ d = .bl (decide (t = a) && decide (c = b))) ∨ ((¬ ∃ t c, x = rat C t c) ∧ d = .bl false))
theorem eqv_pr (t c a b : Int) : PyData.eqv (.tuple [.int t, .int c]) (.tuple [.int a, .int b]) = (decide (t = a) && decide (c = b)) := by
  by_cases h1 : t = a <;> by_cases h2 : c = b <;> simp [PyData.eqv, PyData.eqvAll, h1, h2]
section
variable {T : List (Addr × Str)} {P : Program} {w : World} {K : PySem.W.Frag} {mg : Str → Option Value} {base : Heap} {C f : Addr} {fd : FuncData}
theorem ok_drawn (F : Fun K "_law_drawn" "_law_drawn" sDrawn f fd) (hI : mg "int" = none) (G : FD T P w K mg base "_law_row" 2 1 pRow) : FnOk P w K mg base CX0 2 f fd ["_law_cell_here", "_law_other"] (spD T K 2 pDrawn) := by
  refine fd_ok F scDrawn rfl fun cdv A outer s H E ds d hr _ ⟨c, o, e1, e2⟩ => ?_
  subst e1; subst e2
  obtain ⟨r0, r1, r2, er, h0, h1, h2⟩ := row3 o
  refine svs_cons (sv_set 2 (ev_call G hr (evs_cons (ev_var 1 rfl) (evs_cons (ev_lst (evs_cons ev_int (evs_cons ev_int (evs_cons (ev_pow ⟨by decide, by decide, by decide⟩ ev_int ev_int) evs_nil)))) evs_nil)) ⟨o, [5, 3, 10 ^ 9], rfl, by decide, by decide, rfl⟩) ?_ scDrawn.nd)
  rw [er]
  have g0 : [D.int r0, .int r1, .int r2][0]? = some (.int r0) := rfl
  have i0 : ∀ {X : Cx} {ss : SS} {p p1 pos : Pos} {j}, X.N[2]? = some ("_law_row_here" : Str) → Vis X.env.scope "_law_row_here" → ss[2]? = some (.d (.lst ([r0, r1, r2].map D.int))) → EV T X (.Subscript (.Name "_law_row_here" p) (.Constant (.int 0) j p1) pos) ss (.int r0) := fun hN hv h => ev_ixL ⟨0, rfl, rfl⟩ (ev_var 2 h hN hv) ev_int
  refine svs_cons (sv_set 3 (ev_ixL (get_lt (l := [c, c % 7 - 3, 0, c, c * r2]) h0.1 (by simp; omega)) (ev_lst (evs_cons (ev_var 0 rfl) (evs_cons (ev_sub (ev_mod (by decide) (ev_int1 (ev_var 0 rfl) hI) ev_int) ev_int) (evs_cons ev_int (evs_cons (ev_var 0 rfl) (evs_cons (ev_mul (.inr (by omega)) (ev_var 0 rfl) (ev_ixL (d := .int r2) ⟨2, rfl, rfl⟩ (ev_var 2 rfl) ev_int)) evs_nil)))))) (ev_ixL (d := .int r0) ⟨0, rfl, rfl⟩ (ev_var 2 rfl) ev_int)) ?_ scDrawn.nd)
  refine svs_cons (sv_set 4 (ev_ixL (get_lt (l := [r2 + 1, -1 - r2 % 5, 1 + r2 % 6]) h1.1 (by simp; omega)) (ev_lst (evs_cons (ev_add (ev_ixL (d := .int r2) ⟨2, rfl, rfl⟩ (ev_var 2 rfl) ev_int) ev_int) (evs_cons (ev_sub (EV.cast (ev_neg ev_int) rfl) (ev_mod (by decide) (ev_ixL (d := .int r2) ⟨2, rfl, rfl⟩ (ev_var 2 rfl) ev_int) ev_int)) (evs_cons (ev_add ev_int (ev_mod (by decide) (ev_ixL (d := .int r2) ⟨2, rfl, rfl⟩ (ev_var 2 rfl) ev_int) ev_int)) evs_nil)))) (ev_ixL (d := .int r1) ⟨1, rfl, rfl⟩ (ev_var 2 rfl) ev_int)) ?_ scDrawn.nd)
  have hs : ∃ n : Nat, r2 % 2 = n ∧ ([1, -1].map D.int)[n]? = some (.int (sgn r2)) := by
    unfold sgn
    split
    · rename_i h; exact ⟨0, by omega, rfl⟩
    · rename_i h; exact ⟨1, by omega, rfl⟩
  refine svs_one (sv_ret (ev_tup (evs_cons (ev_mul (j := sgn r2) (.inr (by unfold sgn; split <;> decide)) (ev_mod (by decide) (ev_int1 (ev_var 3 rfl) hI) (ev_pow ⟨by decide, by decide, by decide⟩ ev_int ev_int)) (ev_ixL hs (ev_lst (evs_cons ev_int (evs_cons (EV.cast (ev_neg ev_int) rfl) evs_nil))) (ev_mod (by decide) (ev_ixL (d := .int r2) ⟨2, rfl, rfl⟩ (ev_var 2 rfl) ev_int) ev_int))) (evs_cons (ev_var 4 rfl) evs_nil))) ?_)
  show _ = pr (drT c [r0, r1, r2]) (drB [r0, r1, r2])
  rfl
theorem ok_right (F : Fun K "_law_right" "_law_right" sRight f fd) (R : Rt K mg C) : FnOk P w K mg base CX0 1 f fd ["_law_number", "_law_x"] (spD T K 2 (pRight C)) := by
  refine fd_ok F scRight rfl fun cdv A outer s H E ds d hr _ ⟨x, a, b, e1, hx, e2⟩ => ?_
  subst e1
  obtain ⟨t, b1, b2, b3, k1, k2, k3, k4, k5, k6, k7⟩ := hx.ty R
  rcases e2 with ⟨t', c, rfl, rfl⟩ | ⟨hn, rfl⟩
  · have hb : b3 = true := k7.mpr ⟨_, _, rfl⟩
    subst hb
    exact svs_one (sv_ret (EV.cast (ev_andB (t := true) (ev_isO (ev_var 0 rfl) k1 (hx.cls R) k4 R.mgR R.bIs) fun _ => ev_one (ev_cmpD (opD_eq hr) (ev_tup (evs_cons (ev_fld (ev_var 0 rfl) R.ik.cl R.nt 0 rfl rfl (by decide)) (evs_cons (ev_fld (ev_var 0 rfl) R.ik.cl R.nb 1 rfl rfl (by decide)) evs_nil))) (ev_var 1 rfl) ⟨_, _, rfl, rfl, rfl, rfl, rfl⟩)) (by rw [Bool.true_and, eqv_pr])) rfl)
  · have hb : b3 = false := by
      cases b3 with
      | false => rfl
      | true => exact absurd (k7.mp rfl) hn
    subst hb
    exact svs_one (sv_ret (EV.cast (ev_andB (t := false) (u := false) (ev_isO (ev_var 0 rfl) k1 (hx.cls R) k4 R.mgR R.bIs) (fun z => nomatch z)) rfl) rfl)
end
end K02

set_option Elab.async false
set_option linter.all false
set_option maxRecDepth 100000
set_option maxHeartbeats 4000000
/-! K02g: the operators of numbers, as data. -/
namespace K02
open PySem PySem.Spec PyProof.Rows L2 Fd
/-- one operator: its own method and the reflected one -/
structure Op2 (T : List (Addr × Str)) (P : Program) (w : World) (K : PySem.W.Frag) (mg : Str → Option Value) (base : Heap) (C : Addr) (op : Operator) (g h : Int → Int → Int → Int → Int) (gr hr : Int → Int → Int → Int) : Prop where
  me : ∃ f, OwnM T P w K mg base C (PySem.dunder op.info.2) 2 3 (pBin C g h) f
  re : ∃ f, OwnM T P w K mg base C (dunderR op.info.2) 2 3 (pRef C gr hr) f
  sf : PySem.W.selfFirst K C = true
  i1 : ∃ v, PySem.W.findIn K (.type "int") (PySem.dunder op.info.2) = some v
  i2 : ∃ v, PySem.W.findIn K (.type "int") (dunderR op.info.2) = some v
  s1 : PySem.W.subIn K (.type "int") (.ref C) = some false
  s2 : PySem.W.subIn K (.ref C) (.type "int") = some false
  int : ∃ idn B, Slot "int" (PySem.dunder op.info.2) idn ∧ entryFor table idn = some B ∧ (∀ a b, argsOk idn ⟨[a, b], []⟩) ∧ (∀ i t x C dx, Meets (B ⟨[.int i t, .ref x], []⟩) (FdS.Decl x C dx)) ∧ fillsNumberSlot (.type "int") op.info.2 = pure true
  eqg : ∀ t b j, gr t b j = g j 1 t b
  eqh : ∀ t b j, hr t b j = h j 1 t b
/-- two numbers, one of them a Ratio -/
def Two (C : Addr) (x y : D) (t b u c : Int) : Prop := (Nu C x t b ∧ y = rat C u c) ∨ (x = rat C t b ∧ Nu C y u c)
section
variable {T : List (Addr × Str)} {X : Cx} {ss : SS} {C : Addr} {e a : Expr} {x y : D} {t b u c : Int} {pos : Pos} {op : Operator} {g h : Int → Int → Int → Int → Int} {gr hr' : Int → Int → Int → Int}
theorem e_op (O : Op2 T X.prog X.w X.K X.mg X.base C op g h gr hr') (hr : Room 3 X.A) (n : Two C x y t b u c) (s1 : Sm t) (s2 : Sm b) (s3 : Sm u) (s4 : Sm c) (h0 : h t b u c ≠ 0) (he : EV T X e ss x) (ha : EV T X a ss y) : EV T X (.BinOp e op a pos) ss (ratL C (g t b u c) (h t b u c)) := by
  obtain ⟨f, M⟩ := O.me
  obtain ⟨f', M'⟩ := O.re
  obtain ⟨v1, i1⟩ := O.i1
  obtain ⟨v2, i2⟩ := O.i2
  obtain ⟨idn, B, q1, q2, q3, q4, q5⟩ := O.int
  have one : x = rat C t b → Nu C y u c → EV T X (.BinOp e op a pos) ss (ratL C (g t b u c) (h t b u c)) := fun ex ny => by
    subst ex
    rcases ny with ⟨rfl, rfl⟩ | rfl
    · exact ev_opD (bin_ownI M hr O.sf M'.at_ i1 i2 O.s1) he ha ⟨rN, _, u, rfl, rfl, t, b, .int u, u, 1, rfl, .inl ⟨rfl, rfl⟩, s1, s2, s3, s4, h0, rfl⟩
    · exact ev_opD (bin_own M hr O.sf) he ha ⟨rN, _, rN, _, rfl, rfl, t, b, rat C u c, u, c, rfl, .inr rfl, s1, s2, s3, s4, h0, rfl⟩
  rcases n with ⟨nx, ey⟩ | ⟨ex, ny⟩
  · rcases nx with ⟨rfl, rfl⟩ | ex
    · subst ey
      exact ev_opD (bin_Iown M' hr O.sf M.at_ q1 q2 q3 q4 q5 O.s2) he ha ⟨rN, _, t, rfl, rfl, u, c, t, rfl, s3, s4, s1, by rw [O.eqh]; exact h0, by rw [O.eqg, O.eqh]⟩
    · exact one ex (.inr ey)
  · exact one ex ny
end
abbrev AddOp (T : List (Addr × Str)) (P : Program) (w : World) (K : PySem.W.Frag) (mg : Str → Option Value) (base : Heap) (C : Addr) : Prop := Op2 T P w K mg base C .Add (fun t b u c => t * c + u * b) (fun t b u c => b * c) (fun t b j => j * b + t) (fun t b j => b)
abbrev SubOp (T : List (Addr × Str)) (P : Program) (w : World) (K : PySem.W.Frag) (mg : Str → Option Value) (base : Heap) (C : Addr) : Prop := Op2 T P w K mg base C .Sub (fun t b u c => t * c - u * b) (fun t b u c => b * c) (fun t b j => j * b - t) (fun t b j => b)
abbrev MulOp (T : List (Addr × Str)) (P : Program) (w : World) (K : PySem.W.Frag) (mg : Str → Option Value) (base : Heap) (C : Addr) : Prop := Op2 T P w K mg base C .Mult (fun t b u c => t * u) (fun t b u c => b * c) (fun t b j => j * t) (fun t b j => b)
section
variable {T : List (Addr × Str)} {X : Cx} {ss : SS} {C : Addr} {e a : Expr} {x y : D} {t b u c : Int} {pos : Pos}
theorem e_add (O : AddOp T X.prog X.w X.K X.mg X.base C) (hr : Room 3 X.A) (n : Two C x y t b u c) (s1 : Sm t) (s2 : Sm b) (s3 : Sm u) (s4 : Sm c) (h0 : b * c ≠ 0) (he : EV T X e ss x) (ha : EV T X a ss y) : EV T X (.BinOp e .Add a pos) ss (ratL C (t * c + u * b) (b * c)) := e_op O hr n s1 s2 s3 s4 h0 he ha
theorem e_sub (O : SubOp T X.prog X.w X.K X.mg X.base C) (hr : Room 3 X.A) (n : Two C x y t b u c) (s1 : Sm t) (s2 : Sm b) (s3 : Sm u) (s4 : Sm c) (h0 : b * c ≠ 0) (he : EV T X e ss x) (ha : EV T X a ss y) : EV T X (.BinOp e .Sub a pos) ss (ratL C (t * c - u * b) (b * c)) := e_op O hr n s1 s2 s3 s4 h0 he ha
theorem e_mulO (O : MulOp T X.prog X.w X.K X.mg X.base C) (hr : Room 3 X.A) (n : Two C x y t b u c) (s1 : Sm t) (s2 : Sm b) (s3 : Sm u) (s4 : Sm c) (h0 : b * c ≠ 0) (he : EV T X e ss x) (ha : EV T X a ss y) : EV T X (.BinOp e .Mult a pos) ss (ratL C (t * u) (b * c)) := e_op O hr n s1 s2 s3 s4 h0 he ha
end
section
variable {T : List (Addr × Str)} {P : Program} {w : World} {K : PySem.W.Frag} {mg : Str → Option Value} {base : Heap} {C f : Addr} {fd : FuncData}
def sOps : Stmt := top 20
theorem scOps : FnScope ["_law_a", "_law_b", "_law_x", "_law_y", "_law_minus_y", "_law_due", "_law_one", "_law_two"] ["_law_a", "_law_b", "_law_x", "_law_y"] (defScope sOps) := ⟨rfl, rfl, rfl, by decide +kernel, rfl, by decide +kernel, by decide +kernel⟩
def pOps (C : Addr) (ds : List D) (d : D) : Prop := ∃ x y t b u c, ds = [x, y, pr t b, pr u c] ∧ Two C x y t b u c ∧ Sm t ∧ Sm b ∧ Sm u ∧ Sm c ∧ b * c ≠ 0 ∧ d = .lst (List.replicate 3 (.bl true))
theorem sm_neg {a : Int} (h : Sm a) : Sm (-a) := by unfold Sm at *; omega
theorem ok_ops (F : Fun K "_law_ops" "_law_ops" sOps f fd) (A1 : AddOp T P w K mg base C) (A2 : SubOp T P w K mg base C) (A3 : MulOp T P w K mg base C) (GA : FD T P w K mg base "_law_add" 2 3 pLadd) (GM : FD T P w K mg base "_law_mul" 2 3 pLmul) (GR : FD T P w K mg base "_law_right" 2 1 (pRight C)) (hz : mg "zip" = none) :
    FnOk P w K mg base CX0 4 f fd ["_law_a", "_law_b", "_law_x", "_law_y"] (spD T K 4 (pOps C)) := by
  refine fd_ok F scOps rfl fun cdv A outer s H E ds d hr _ ⟨x, y, t, b, u, c, e1, h2, s1, s2, s3, s4, h0, e2⟩ => ?_
  subst e1; subst e2
  have hr1 := hr.mono (show 1 ≤ 3 by decide)
  refine svs_cons (sv_set 4 (ev_tup (evs_cons (ev_neg (ev_ixT (d := .int u) ⟨0, rfl, rfl⟩ (ev_var 3 rfl) ev_int)) (evs_cons (ev_ixT (d := .int c) ⟨1, rfl, rfl⟩ (ev_var 3 rfl) ev_int) evs_nil))) ?_ scOps.nd)
  refine svs_cons (sv_set 5 (ev_lst (evs_cons (ev_call GA hr (evs_cons (ev_var 2 rfl) (evs_cons (ev_var 3 rfl) evs_nil)) ⟨t, b, u, c, rfl, s1, s2, s3, s4, h0, rfl⟩) (evs_cons (ev_call GA hr (evs_cons (ev_var 2 rfl) (evs_cons (ev_var 4 rfl) evs_nil)) ⟨t, b, -u, c, rfl, s1, s2, sm_neg s3, s4, h0, rfl⟩)
    (evs_cons (ev_call GM hr (evs_cons (ev_var 2 rfl) (evs_cons (ev_var 3 rfl) evs_nil)) ⟨t, b, u, c, rfl, s1, s2, s3, s4, h0, rfl⟩) evs_nil)))) ?_ scOps.nd)
  have es : t * c + -u * b = t * c - u * b := by rw [Int.neg_mul, Int.sub_eq_add_neg]
  rw [es]
  refine svs_one (sv_ret (EV.cast (ev_lc [("_law_one", 6), ("_law_two", 7)] (.many [6, 7]) (fun _ => true) (fun _ => .bl true)
    (iv_zip (xs := [ratL C (t * c + u * b) (b * c), ratL C (t * c - u * b) (b * c), ratL C (t * u) (b * c)]) (ev_lst (evs_cons (e_add A1 hr h2 s1 s2 s3 s4 h0 (ev_var 0 rfl) (ev_var 1 rfl)) (evs_cons (e_sub A2 hr h2 s1 s2 s3 s4 h0 (ev_var 0 rfl) (ev_var 1 rfl)) (evs_cons (e_mulO A3 hr h2 s1 s2 s3 s4 h0 (ev_var 0 rfl) (ev_var 1 rfl)) evs_nil)))) (ev_var 5 rfl) hz)
    (id (α := BlkOk ["_law_a", "_law_b", "_law_x", "_law_y", "_law_minus_y", "_law_due", "_law_one", "_law_two"] (defScope sOps) _ [("_law_one", 6), ("_law_two", 7)]) ⟨rfl, by decide +kernel, by decide +kernel, by decide +kernel, by decide +kernel⟩)
    (fun s H C cl fp => pg_tup rfl (pgs_cons (pg_name (i := 6) scOps.nd rfl (Or.inl rfl)) (pgs_cons (pg_name (i := 7) scOps.nd rfl (Or.inl rfl)) pgs_nil)))
    (fun s H C cl fp y hy => ts_nil) (fun s H C' cl fp y hy _ => ?_) scOps.nd ?_ (Nat.le_of_ble_eq_true rfl)) rfl) rfl)
  · obtain ⟨n, m, rfl⟩ : ∃ n m, y = .tup [ratL C n m, .tup (rF n m)] := by
      simp only [zips, List.zip, List.zipWith, List.map, List.mem_cons, List.not_mem_nil, or_false] at hy
      rcases hy with rfl | rfl | rfl <;> exact ⟨_, _, rfl⟩
    exact ev_call GR hr1 (evs_cons (ev_var 6 rfl) (evs_cons (ev_var 7 rfl) evs_nil)) ⟨_, _, _, rfl, .inl ⟨_, _, rfl⟩, .inl ⟨_, _, rfl, by simp⟩⟩
  · intro y hy
    simp only [zips, List.zip, List.zipWith, List.map, List.mem_cons, List.not_mem_nil, or_false] at hy
    rcases hy with rfl | rfl | rfl <;> rfl
end
end K02

set_option Elab.async false
set_option linter.all false
set_option maxRecDepth 100000
set_option maxHeartbeats 4000000
/-! K02h: what raises ZeroDivisionError; the law's own _law_raises and _law_over. -/
namespace K02
open PySem PySem.Spec PyProof.Rows L2 Fd
def zde : Value := .type "ZeroDivisionError"
def pInitX (ds : List D) : Prop := ∃ t : Int, ds = [.int t, .int 0]
def pOverX (C : Addr) (ds : List D) : Prop := ∃ t b y c, ds = [rat C t b, y] ∧ Nu C y 0 c ∧ Sm t ∧ Sm b ∧ Sm c
def sRaises : Stmt := top 19
def sLover : Stmt := top 21
theorem scRaises : FnScope ["_law_ask"] ["_law_ask"] (defScope sRaises) := ⟨rfl, rfl, rfl, by decide +kernel, rfl, by decide +kernel, by decide +kernel⟩
theorem scLover : FnScope ["_law_a", "_law_b", "_law_x", "_law_y"] ["_law_a", "_law_b", "_law_x", "_law_y"] (defScope sLover) := ⟨rfl, rfl, rfl, by decide +kernel, rfl, by decide +kernel, by decide +kernel⟩
theorem sm0 : Sm 0 := by unfold Sm; exact Nat.pow_pos (by decide)
section
variable {T : List (Addr × Str)} {P : Program} {w : World} {K : PySem.W.Frag} {mg : Str → Option Value} {base : Heap} {C f : Addr} {fd : FuncData} {cdv : Value}
theorem ok_initX (F : FunZ K "__init__" "Ratio.__init__" sInit f fd cdv) (hz : mg "ZeroDivisionError" = none) : FnOk P w K mg base (L2.CX P w) 1 f fd ["self", "top", "bottom"] (spMX T K C 2 pInitX zde) := by
  refine initx_ok F scInit rfl fun A outer s H E p ds hr _ ⟨t, e1⟩ tk => ?_
  subst e1
  exact rs_ifT (TV.cast (tv_eqI (ev_var 2 rfl) ev_int) rfl) (rs_raise tk exb_ZeroDivisionError hz boot_ZeroDivisionError)
theorem ok_overX (F : FunZ K "over" "Ratio.over" sOver f fd cdv) (V : Env0 T P w K mg base C) (VX : MDX T P w K mg base "Ratio" C 2 1 pInitX zde) : FnOk P w K mg base (L2.CX P w) 3 f fd ["self", "other"] (spX T K 2 (pOverX C) zde) := by
  refine fx_ok F scOver rfl fun A outer s H E ds hr _ ⟨t, b, y, c, e1, hy, s1, s2, s4⟩ tk => ?_
  subst e1
  have hr1 := hr.mono (show 1 ≤ 2 by decide)
  exact rs_ret (rx_make VX (passes_call tk fun _ _ _ _ h => h) hr (evs_cons (ev_mulW (sm_mul s1 s4) (e_top V (ev_var 0 rfl)) (e_botOf V hr1 hy (ev_var 1 rfl))) (evs_cons (EV.cast (ev_mulW (sm_mul s2 sm0) (e_bot V (ev_var 0 rfl)) (e_topOf V hr1 hy (ev_var 1 rfl))) (by rw [Int.mul_zero])) evs_nil)) ⟨_, rfl⟩)
/-- what is known of _law_raises -/
structure LR (K : PySem.W.Frag) (mg : Str → Option Value) : Prop where
  ex : ∃ g fdg cdg, FunZ K "_law_raises" "_law_raises" sRaises g fdg cdg ∧ mg "_law_raises" = some (.ref g) ∧ Binds K fdg ["_law_ask"] []
  hz : mg "ZeroDivisionError" = none
  ez : PySem.W.exmOne K zde zde = some true
/-- a maker of lambdas: its code object at cA, the table at Pt, its lambdas' name -/
structure Mkr (T : List (Addr × Str)) (mg : Str → Option Value) (base : Heap) (cA Pt : Addr) (q : Str) : Prop where
  tb : LamX.TabB base mg cA Pt
  mem : (Pt, q) ∈ T
  only : ∀ p ∈ T, p.1 = Pt → p.2 = q
end
section
variable {T : List (Addr × Str)} {X : Cx} {ss : SS} {p pos lpos : Pos} {k : Nat} {cA Pt : Addr} {params : Arguments} {body : Expr} {scope : Scope}
theorem e_raises (R : LR X.K X.mg) (M : Mkr T X.mg X.base cA Pt (X.env.qual ++ "<lambda>")) (hcode : X.env.code = .ref cA) (hr : Room (k + 2) X.A) (L : LamX.LamS X.env.scope scope)
    (hbody : ∀ (A : Around) (outer : List Env) (s : Shared) (H : Hp) (E : XK) (f cc : Addr), Room k (A.deeper (LamX.lamEnv X scope s.heap.objs.size f cc)) → Takes (LamX.lamCx X A outer s H E scope f cc) (fun cls d _ H => E cls d H) → Passes (L2.CX X.prog X.w) (LamX.lamCx X A outer s H E scope f cc) E → RX T (LamX.lamCx X A outer s H E scope f cc) body ss zde E)
    (hdef : defaultsOf params X.env = ([], []) := by rfl) (hbind : ∀ (q : Str) (cl : List (Str × Addr)) (pm cv ctv : Value), bindArgs (PySem.W.kla_fn "<lambda>" q params body scope cl pm cv ctv) ⟨[], []⟩ = pure [] := by exact fun _ _ _ _ _ => rfl)
    (hg : Gl X "_law_raises" := by rfl) : EV T X (.Call (.Name "_law_raises" p) [.Lambda params body scope lpos] [] pos) ss (.bl true) := by
  obtain ⟨g, fdg, cdg, F, hm, hb⟩ := R.ex
  exact ev_lamR F hm hb scRaises rfl (Or.inl rfl) (raises_gives (c := zde) rfl R.hz boot_ZeroDivisionError (by decide) (by decide) R.ez fun _ => rfl) M.tb hcode M.mem M.only hr L hdef hbind hbody hg
end
section
variable {T : List (Addr × Str)} {P : Program} {w : World} {K : PySem.W.Frag} {mg : Str → Option Value} {base : Heap} {C f : Addr} {fd : FuncData} {cdv : Value}
/-- the method over, both ways -/
structure Ov (T : List (Addr × Str)) (P : Program) (w : World) (K : PySem.W.Frag) (mg : Str → Option Value) (base : Heap) (C : Addr) : Prop where
  ok : ∃ g, OwnM T P w K mg base C "over" 2 3 (pBin C (fun t b u c => t * c) fun t b u c => b * u) g
  no : ∃ g fd ps, Meth K C "over" g ∧ FnOk P w K mg base (L2.CX P w) 3 g fd ps (spX T K 2 (pOverX C) zde) ∧ Binds K fd ps []
theorem nOver : ("over" : Str) ∉ rN := by decide
def pLover (C : Addr) (ds : List D) (d : D) : Prop := ∃ t b y u c, ds = [rat C t b, y, pr t b, pr u c] ∧ Nu C y u c ∧ Sm t ∧ Sm b ∧ Sm u ∧ Sm c ∧ b ≠ 0 ∧ d = .bl true
end
section
variable {T : List (Addr × Str)} {X : Cx} {ss : SS} {o e : Expr} {apos pos : Pos} {C : Addr} {t b u c : Int} {y : D} {E : XK}
theorem x_over {pl : Sem Bool} (O : Ov T X.prog X.w X.K X.mg X.base C) (cl : Cls X.K C) (hx : Passes (L2.CX X.prog X.w) X E) (hr : Room 3 X.A) (he : EV T X o ss (rat C t b)) (ha : EV T X e ss y) (hy : Nu C y 0 c) (s1 : Sm t) (s2 : Sm b) (s4 : Sm c)
    (hst : starEach [e] X.env = (false, eval e X.env) :: starEach [] X.env := by rfl)
    (ht : eval (.Call (.Attribute o "over" apos) [e] [] pos) X.env = (do
      let ov ← eval o X.env; standAt apos.atName; let (f, first) ← holding [ov] (getMethod ov "over" pl); callWith pos f first (backTo pos (starEach [e] X.env)) (backToKw pos (keywordEach [] X.env))) := by rfl) :
    RX T X (.Call (.Attribute o "over" apos) [e] [] pos) ss zde E := by
  obtain ⟨g, fd, ps, hm, G, hb⟩ := O.no
  exact rx_meth he cl hm G hb hx hr (evs_cons ha evs_nil hst) ⟨t, b, y, c, rfl, hy, s1, s2, s4⟩ nOver rfl hst rfl ht
theorem e_over {pl : Sem Bool} (O : Ov T X.prog X.w X.K X.mg X.base C) (cl : Cls X.K C) (hr : Room 3 X.A) (he : EV T X o ss (rat C t b)) (ha : EV T X e ss y) (hy : Nu C y u c) (s1 : Sm t) (s2 : Sm b) (s3 : Sm u) (s4 : Sm c) (h0 : b * u ≠ 0)
    (hst : starEach [e] X.env = (false, eval e X.env) :: starEach [] X.env := by rfl)
    (ht : eval (.Call (.Attribute o "over" apos) [e] [] pos) X.env = (do
      let ov ← eval o X.env; standAt apos.atName; let (f, first) ← holding [ov] (getMethod ov "over" pl); callWith pos f first (backTo pos (starEach [e] X.env)) (backToKw pos (keywordEach [] X.env))) := by rfl) :
    EV T X (.Call (.Attribute o "over" apos) [e] [] pos) ss (ratL C (t * c) (b * u)) := by
  obtain ⟨g, M⟩ := O.ok
  exact ev_meth he cl M hr (evs_cons ha evs_nil hst) ⟨t, b, y, u, c, rfl, hy, s1, s2, s3, s4, h0, rfl⟩ nOver rfl hst rfl ht
end
section
variable {T : List (Addr × Str)} {P : Program} {w : World} {K : PySem.W.Frag} {mg : Str → Option Value} {base : Heap} {C f cA Pt : Addr} {fd : FuncData}
theorem ok_lover (F : FunZ K "_law_over" "_law_over" sLover f fd (.ref cA)) (O : Ov T P w K mg base C) (cl : Cls K C) (R : LR K mg) (M : Mkr T mg base cA Pt ((envOfC "_law_over" (defScope sLover) 0 0 .none).qual ++ "<lambda>")) (GR : FD T P w K mg base "_law_right" 2 1 (pRight C)) (GL : FD T P w K mg base "_law_low" 2 2 pLow) :
    FnOk P w K mg base CX0 6 f fd ["_law_a", "_law_b", "_law_x", "_law_y"] (spD T K 4 (pLover C)) := by
  refine fdz_ok F scLover rfl fun A outer s H E ds d hr _ ⟨t, b, y, u, c, e1, hy, s1, s2, s3, s4, h0, e2⟩ => ?_
  subst e1; subst e2
  have hr3 := hr.mono (show 3 ≤ 5 by decide)
  have hr2 := hr.mono (show 2 ≤ 5 by decide)
  have hr1 := hr.mono (show 1 ≤ 5 by decide)
  refine svs_cons (sv_if (tv_eqI (ev_ixT (d := .int u) ⟨0, rfl, rfl⟩ (ev_var 3 rfl) ev_int) ev_int) (fun h => ?_) (fun h => ?_))
  · have hu : u = 0 := by simpa using h
    subst hu
    refine svs_one (sv_ret (e_raises (k := 3) R M rfl hr (LamX.lamS_by rfl) fun A outer s H E f cc hrb tk hx => ?_) rfl)
    exact x_over O cl hx hrb (ev_var 0 rfl) (ev_var 1 rfl) hy s1 s2 s4
  · have hu : u ≠ 0 := by simpa using h
    have hbu : b * u ≠ 0 := Int.mul_ne_zero h0 hu
    refine svs_nil (svs_one (sv_ret (EV.cast (ev_call GR hr1 (evs_cons (e_over O cl hr3 (ev_var 0 rfl) (ev_var 1 rfl) hy s1 s2 s3 s4 hbu) (evs_cons (ev_call GL hr2 (evs_cons (ev_mulW (sm_mul s1 s4) (ev_ixT ⟨0, rfl, rfl⟩ (ev_var 2 rfl) ev_int) (ev_ixT ⟨1, rfl, rfl⟩ (ev_var 3 rfl) ev_int)) (evs_cons (ev_mulW (sm_mul s2 s3) (ev_ixT ⟨1, rfl, rfl⟩ (ev_var 2 rfl) ev_int) (ev_ixT ⟨0, rfl, rfl⟩ (ev_var 3 rfl) ev_int)) evs_nil)) ⟨_, _, rfl, hbu, sm_log2 s2 s3, rfl⟩) evs_nil)) ⟨_, _, _, rfl, .inl ⟨_, _, rfl⟩, .inl ⟨_, _, rfl, rfl⟩⟩) (by simp)) rfl))
end
end K02

set_option Elab.async false
set_option linter.all false
set_option maxRecDepth 100000
set_option maxHeartbeats 4000000
/-! K02i: fractions in lowest terms; the operators == and != of numbers. -/
namespace K02
open PySem PySem.Spec PyProof.Rows L2 Fd
theorem smOf {a : Int} (h : a.natAbs ≤ 10 ^ 30) : Sm a := Nat.lt_of_le_of_lt h (by decide +kernel)
/-- in lowest terms, the lower one above 0 -/
structure Red (T B : Int) : Prop where
  sT : Sm T
  sB : Sm B
  pos : 0 < B
  cop : Nat.gcd T.natAbs B.natAbs = 1
theorem Red.ne {T B : Int} (h : Red T B) : B ≠ 0 := by have := h.pos; omega
def tT (t b : Int) : Int := t.fdiv (dv t b)
def tB (t b : Int) : Int := b.fdiv (dv t b)
theorem rF_t (t b : Int) : rF t b = [.int (tT t b), .int (tB t b)] := rfl
theorem red_of {t b : Int} (hb : b ≠ 0) (s1 : t.natAbs ≤ 10 ^ 30) (s2 : b.natAbs ≤ 10 ^ 30) : Red (tT t b) (tB t b) := by
  have g0 : 0 < Nat.gcd t.natAbs b.natAbs := Nat.pos_of_ne_zero fun z => hb (by have := Nat.eq_zero_of_gcd_eq_zero_right z; omega)
  have e : (dv t b).natAbs = Nat.gcd t.natAbs b.natAbs := by unfold dv; split <;> omega
  have d1 : dv t b ∣ t := Int.natAbs_dvd_natAbs.mp (by rw [e]; exact Nat.gcd_dvd_left _ _)
  have d2 : dv t b ∣ b := Int.natAbs_dvd_natAbs.mp (by rw [e]; exact Nat.gcd_dvd_right _ _)
  have n1 : (tT t b).natAbs = t.natAbs / Nat.gcd t.natAbs b.natAbs := by unfold tT; rw [Int.fdiv_eq_ediv_of_dvd d1, Int.natAbs_ediv_of_dvd d1, e]
  have n2 : (tB t b).natAbs = b.natAbs / Nat.gcd t.natAbs b.natAbs := by unfold tB; rw [Int.fdiv_eq_ediv_of_dvd d2, Int.natAbs_ediv_of_dvd d2, e]
  have l1 : (tT t b).natAbs ≤ t.natAbs := by rw [n1]; exact Nat.div_le_self _ _
  have l2 : (tB t b).natAbs ≤ b.natAbs := by rw [n2]; exact Nat.div_le_self _ _
  refine ⟨smOf (Nat.le_trans l1 s1), smOf (Nat.le_trans l2 s2), ?_, ?_⟩
  · obtain ⟨q, hq⟩ := d2
    have hd : dv t b ≠ 0 := fun z => by rw [z, Int.zero_mul] at hq; exact hb hq
    have eB : tB t b = q := by
      unfold tB
      conv => lhs; arg 1; rw [hq]
      exact Int.mul_fdiv_cancel_left q hd
    rw [eB]
    by_cases hn : b < 0
    · have ed : dv t b = -((Nat.gcd t.natAbs b.natAbs : Nat) : Int) := if_pos hn
      have hneg : dv t b < 0 := by rw [ed]; omega
      rcases Int.lt_trichotomy q 0 with z | z | z
      · have := Int.mul_pos_of_neg_of_neg hneg z
        omega
      · rw [z, Int.mul_zero] at hq; omega
      · exact z
    · have ed : dv t b = ((Nat.gcd t.natAbs b.natAbs : Nat) : Int) := if_neg hn
      have hpos : 0 < dv t b := by rw [ed]; omega
      rcases Int.lt_trichotomy q 0 with z | z | z
      · have := Int.mul_neg_of_pos_of_neg hpos z
        omega
      · rw [z, Int.mul_zero] at hq; omega
      · exact z
  · rw [n1, n2, Nat.gcd_div (Nat.gcd_dvd_left _ _) (Nat.gcd_dvd_right _ _)]
    exact Nat.div_self g0
theorem rF_red {T B : Int} (h : Red T B) : rF T B = [.int T, .int B] := by
  have e : dv T B = 1 := by
    unfold dv
    rw [if_neg (by have := h.pos; omega), h.cop]; rfl
  unfold rF
  rw [e, Int.fdiv_one, Int.fdiv_one]
theorem red_neg {T B : Int} (h : Red T B) : Red (-T) B := ⟨sm_neg h.sT, h.sB, h.pos, by rw [Int.natAbs_neg]; exact h.cop⟩
theorem red_int {n : Int} (h : n.natAbs ≤ 10 ^ 30) : Red n 1 := ⟨smOf h, smOf (by decide), by decide, Nat.gcd_one_right _⟩
theorem rF_zero {b : Int} (h : 0 < b) : rF 0 b = [.int 0, .int 1] := by
  have e : dv 0 b = b := by
    unfold dv
    rw [if_neg (by omega)]
    have : Nat.gcd (0 : Int).natAbs b.natAbs = b.natAbs := Nat.gcd_zero_left _
    rw [this]; omega
  unfold rF
  rw [e, Int.zero_fdiv, Int.fdiv_self (by omega)]
/-- the drawn pair -/
theorem drawn_ok (c o : Int) : drB (rowL o [5, 3, 10 ^ 9]) ≠ 0 ∧ (drT c (rowL o [5, 3, 10 ^ 9])).natAbs ≤ 10 ^ 30 ∧ (drB (rowL o [5, 3, 10 ^ 9])).natAbs ≤ 10 ^ 30 := by
  obtain ⟨r0, r1, r2, er, h0, h1, h2⟩ := row3 o
  rw [er]
  refine ⟨?_, ?_, ?_⟩
  · have : r1 = 0 ∨ r1 = 1 ∨ r1 = 2 := by omega
    rcases this with rfl | rfl | rfl
    · show r2 + 1 ≠ 0; omega
    · show -1 - r2 % 5 ≠ 0; omega
    · show 1 + r2 % 6 ≠ 0; omega
  · unfold drT sgn
    generalize ([c, c % 7 - 3, 0, c, c * ([r0, r1, r2] : List Int).getD 2 0].getD (([r0, r1, r2] : List Int).getD 0 0).toNat 0) = z
    have hz : 0 ≤ z % 10 ^ 30 ∧ z % 10 ^ 30 < 10 ^ 30 := ⟨Int.emod_nonneg _ (by decide), Int.emod_lt_of_pos _ (by decide)⟩
    split <;> omega
  · have : r1 = 0 ∨ r1 = 1 ∨ r1 = 2 := by omega
    rcases this with rfl | rfl | rfl
    · show (r2 + 1).natAbs ≤ _; omega
    · show (-1 - r2 % 5).natAbs ≤ _; omega
    · show (1 + r2 % 6).natAbs ≤ _; omega
/-- what == asks of Ratio -/
structure Eqs (T : List (Addr × Str)) (P : Program) (w : World) (K : PySem.W.Frag) (mg : Str → Option Value) (base : Heap) (C : Addr) : Prop where
  m : ∃ f, EqM T P w K mg base C 3 (pEq C) f
  nT : ∀ t, t ∈ tys → PySem.W.notFirst K C (.type t) = true
  nC : PySem.W.notFirst K C (.ref C) = true
  sub : PySem.W.subIn K (.ref C) (.type "int") = some false
theorem eqv_bl (a b : Bool) : PyData.eqv (.bool a) (.bool b) = (a == b) := by cases a <;> cases b <;> rfl
section
variable {T : List (Addr × Str)} {X : Cx} {ss : SS} {C : Addr} {e a : Expr} {x y : D} {t b u c : Int} {pos : Pos}
theorem two_th {C : Addr} {x y : D} {t b u c : Int} (n : Two C x y t b u c) : Nu C x t b ∧ Nu C y u c := by
  rcases n with ⟨h, rfl⟩ | ⟨rfl, h⟩
  · exact ⟨h, .inr rfl⟩
  · exact ⟨.inr rfl, h⟩
theorem two_swap {C : Addr} {x y : D} {t b u c : Int} (n : Two C x y t b u c) : Two C y x u c t b := by
  rcases n with ⟨h, rfl⟩ | ⟨rfl, h⟩
  · exact .inr ⟨rfl, h⟩
  · exact .inl ⟨h, rfl⟩
theorem nu_ty {K : PySem.W.Frag} {mg : Str → Option Value} {base : Heap} {P : Program} {w : World} (Q : Eqs T P w K mg base C) (h : Nu C y u c) : ∃ tb, y.ty? = some tb ∧ PySem.W.notFirst K C tb = true := by
  rcases h with ⟨rfl, rfl⟩ | rfl
  · exact ⟨_, rfl, Q.nT "int" (by decide)⟩
  · exact ⟨_, rfl, Q.nC⟩
theorem e_eq2 (Q : Eqs T X.prog X.w X.K X.mg X.base C) (hr : Room 3 X.A) (n : Two C x y t b u c) (he : EV T X e ss x) (ha : EV T X a ss y) (h1 : behindInMarks .Eq a = false := by first | exact nobehind _ (by decide) (by decide) | rfl) : EV T X (.Compare e [.Eq] [a] pos) ss (.bl (decide (t = u) && decide (b = c))) := by
  obtain ⟨f, M⟩ := Q.m
  have own : x = rat C t b → Nu C y u c → EV T X (.Compare e [.Eq] [a] pos) ss (.bl (decide (t = u) && decide (b = c))) := fun ex hy => by
    subst ex
    obtain ⟨tb, q1, q2⟩ := nu_ty Q hy
    exact ev_cmpD (eq_own M hr) he ha ⟨rN, _, tb, _, rfl, q1, q2, rfl, t, b, y, rfl, hy.th, .inr ⟨u, c, hy, rfl⟩⟩ h1
  rcases n with ⟨hx, rfl⟩ | ⟨rfl, hy⟩
  · rcases hx with ⟨rfl, rfl⟩ | rfl
    · refine EV.cast (ev_cmpD (eq_Iown M hr Q.sub) he ha ⟨rN, _, t, decide (u = t) && decide (c = 1), rfl, rfl, rfl, u, c, .int t, rfl, (Nu.th (b := 1) (.inl ⟨rfl, rfl⟩)), .inr ⟨t, 1, .inl ⟨rfl, rfl⟩, rfl⟩⟩ h1) ?_
      rw [decide_eq_decide.mpr (eq_comm (a := u)), decide_eq_decide.mpr (eq_comm (a := c))]
    · exact own rfl (.inr rfl)
  · exact own rfl hy
theorem e_ne2 (Q : Eqs T X.prog X.w X.K X.mg X.base C) (hr : Room 4 X.A) (n : Two C x y t b u c) (he : EV T X e ss x) (ha : EV T X a ss y) (h1 : behindInMarks .NotEq a = false := by first | exact nobehind _ (by decide) (by decide) | rfl) : EV T X (.Compare e [.NotEq] [a] pos) ss (.bl (!(decide (t = u) && decide (b = c)))) := by
  obtain ⟨f, M⟩ := Q.m
  have own : x = rat C t b → Nu C y u c → EV T X (.Compare e [.NotEq] [a] pos) ss (.bl (!(decide (t = u) && decide (b = c)))) := fun ex hy => by
    subst ex
    obtain ⟨tb, q1, q2⟩ := nu_ty Q hy
    exact ev_cmpD (ne_own M hr) he ha ⟨rN, _, tb, decide (t = u) && decide (b = c), rfl, q1, q2, rfl, t, b, y, rfl, hy.th, .inr ⟨u, c, hy, rfl⟩⟩ h1
  rcases n with ⟨hx, rfl⟩ | ⟨rfl, hy⟩
  · rcases hx with ⟨rfl, rfl⟩ | rfl
    · refine EV.cast (ev_cmpD (ne_Iown M hr Q.sub) he ha ⟨rN, _, t, decide (u = t) && decide (c = 1), rfl, rfl, rfl, u, c, .int t, rfl, (Nu.th (b := 1) (.inl ⟨rfl, rfl⟩)), .inr ⟨t, 1, .inl ⟨rfl, rfl⟩, rfl⟩⟩ h1) ?_
      rw [decide_eq_decide.mpr (eq_comm (a := u)), decide_eq_decide.mpr (eq_comm (a := c))]
    · exact own rfl (.inr rfl)
  · exact own rfl hy
/-- pairs -/
theorem e_eqP {k : Nat} (hr : Room k X.A) (he : EV T X e ss (pr t b)) (ha : EV T X a ss (pr u c)) (h1 : behindInMarks .Eq a = false := by first | exact nobehind _ (by decide) (by decide) | rfl) : EV T X (.Compare e [.Eq] [a] pos) ss (.bl (decide (t = u) && decide (b = c))) :=
  EV.cast (ev_cmpD (opD_eq hr) he ha ⟨_, _, rfl, rfl, rfl, rfl, rfl⟩ h1) (by rw [eqv_pr])
theorem t_neB {k : Nat} {i j : Bool} (hr : Room k X.A) (he : EV T X e ss (.bl i)) (ha : EV T X a ss (.bl j)) (h1 : behindInMarks .NotEq a = false := by first | exact nobehind _ (by decide) (by decide) | rfl) : TV T X (.Compare e [.NotEq] [a] pos) ss (!(i == j)) :=
  TV.cast (tv_cmpD (k := !PyData.eqv (.bool i) (.bool j)) (opD_ne hr) he ha ⟨_, _, rfl, rfl, rfl, rfl, rfl⟩ h1) (by rw [eqv_bl])
theorem t_eqB {k : Nat} {i j : Bool} (hr : Room k X.A) (he : EV T X e ss (.bl i)) (ha : EV T X a ss (.bl j)) (h1 : behindInMarks .Eq a = false := by first | exact nobehind _ (by decide) (by decide) | rfl) : TV T X (.Compare e [.Eq] [a] pos) ss (i == j) :=
  TV.cast (tv_cmpD (k := PyData.eqv (.bool i) (.bool j)) (opD_eq hr) he ha ⟨_, _, rfl, rfl, rfl, rfl, rfl⟩ h1) (by rw [eqv_bl])
/-- -x of a Ratio -/
theorem e_negR {f : Addr} (M : OwnM T X.prog X.w X.K X.mg X.base C "__neg__" 1 3 (pNeg C) f) (hr : Room 3 X.A) (s2 : Sm b) (h0 : b ≠ 0) (he : EV T X e ss (rat C t b)) : EV T X (.UnaryOp .USub e pos) ss (ratL C (-t) b) :=
  EV.of (pe_un (un_own M hr) he) fun B F H σ Q R q => ev_go R fun v F1 H1 n1 R1 i1 => ⟨F1, rN, _, _, R1.sub, R1.nt, R1.tb, i1, ⟨t, b, rfl, s2, h0, rfl⟩, fun z F2 H2 n2 i2 => q z F2 H2 (n1.trans n2) (R1.grow n2) i2⟩
end
end K02

set_option Elab.async false
set_option linter.all false
set_option maxRecDepth 100000
set_option maxHeartbeats 4000000
/-! K02j: the law's def, piece by piece. -/
namespace K02
open PySem PySem.Spec PyProof.Rows L2 Fd
def sLaw : Stmt := top 22
def lN : List Str := ["_law_script", "_law_first", "_law_second", "_law_number", "_law_x", "_law_y", "_law_z", "_law_a", "_law_b", "_law_one", "_law_left", "_law_right_here", "_law_p", "_law_q", "_law_k", "_law_thing", "_law_told", "_law_is_int", "_law_shut"]
theorem scLaw : FnScope lN ["_law_script"] (defScope sLaw) := ⟨rfl, rfl, rfl, by decide +kernel, rfl, by decide +kernel, by decide +kernel⟩
/-- all that the law's def calls -/
structure LE (T : List (Addr × Str)) (P : Program) (w : World) (K : PySem.W.Frag) (mg : Str → Option Value) (base : Heap) (C cA Pt : Addr) : Prop where
  V : Env0 T P w K mg base C
  sb : SubOp T P w K mg base C
  ng : ∃ f, OwnM T P w K mg base C "__neg__" 1 3 (pNeg C) f
  eqs : Eqs T P w K mg base C
  cell : FD T P w K mg base "_law_cell" 2 1 pCell
  drawn : FD T P w K mg base "_law_drawn" 2 2 pDrawn
  low : FD T P w K mg base "_law_low" 2 2 pLow
  right : FD T P w K mg base "_law_right" 2 1 (pRight C)
  ops : FD T P w K mg base "_law_ops" 4 4 (pOps C)
  less : FD T P w K mg base "less" 2 2 (pLess C)
  over : FD T P w K mg base "_law_over" 4 6 (pLover C)
  plain : FD T P w K mg base "plain" 1 1 (pPlain C)
  mkw : MDk T P w K mg base "Ratio" C 1 pInit "bottom" "top"
  md : ∃ dds, Vals [L2.V.int 1] dds ∧ MDd T P w K mg base "Ratio" C 2 1 pInit dds
  mx : MDX T P w K mg base "Ratio" C 2 1 pInitX zde
  O : Ov T P w K mg base C
  R : LR K mg
  M : Mkr T mg base cA Pt ((envOfC "law" (defScope sLaw) 0 0 .none).qual ++ "<lambda>")
  bInt : mg "int" = none
  bAny : mg "any" = none
abbrev lX (P : Program) (w : World) (K : PySem.W.Frag) (mg : Str → Option Value) (base : Heap) (f cA : Addr) (A : Around) (outer : List Env) (s : Shared) (H : Hp) (E : XK) : Cx := bodyX CX0 P w K mg base lN "law" sLaw f (.ref cA) A outer s H E
def lB (i : Nat) : Stmt := (defBody sLaw).getD i (.Pass pT)
section
variable {T : List (Addr × Str)} {X : Cx} {ss : SS} {C cA Pt : Addr} {e a o : Expr} {x y : D} {t b u c n : Int} {p pos pos2 : Pos}
theorem l_less (L : LE T X.prog X.w X.K X.mg X.base C cA Pt) (hr : Room 2 X.A) (hx : Nu C x t b) (hy : Nu C y u c) (s1 : Sm t) (s2 : Sm b) (s3 : Sm u) (s4 : Sm c) (he : EV T X e ss x) (ha : EV T X a ss y) (hg : Gl X "less" := by rfl) (hs : starEach [e, a] X.env = (false, eval e X.env) :: starEach [a] X.env := by rfl) (hs2 : starEach [a] X.env = [(false, eval a X.env)] := by rfl)
    (hpl : (backTo pos (starEach [a] X.env)).any (·.1) = false := by rfl) : EV T X (.Call (.Name "less" p) [e, a] [] pos) ss (.bl (decide (t * c < u * b))) :=
  ev_call L.less hr (evs_cons he (evs_cons ha evs_nil hs2) hs) ⟨x, y, t, b, u, c, rfl, hx, hy, sm_mul s1 s4, sm_mul s3 s2, rfl⟩ rfl hg (by decide) hs hpl
/-- not right(x, pair), x being so -/
theorem l_right (L : LE T X.prog X.w X.K X.mg X.base C cA Pt) (hr : Room 1 X.A) (he : EV T X e ss (rat C t b)) (ha : EV T X a ss (pr t b)) (hg : Gl X "_law_right" := by rfl) (hs : starEach [e, a] X.env = (false, eval e X.env) :: starEach [a] X.env := by rfl) (hs2 : starEach [a] X.env = [(false, eval a X.env)] := by rfl)
    (hpl : (backTo pos (starEach [a] X.env)).any (·.1) = false := by rfl) : EV T X (.Call (.Name "_law_right" p) [e, a] [] pos) ss (.bl true) :=
  EV.cast (ev_call L.right hr (evs_cons he (evs_cons ha evs_nil hs2) hs) ⟨_, _, _, rfl, .inl ⟨_, _, rfl⟩, .inl ⟨_, _, rfl, rfl⟩⟩ rfl hg (by decide) hs hpl) (by simp)
/-- Ratio(n) -/
theorem l_rat1 (L : LE T X.prog X.w X.K X.mg X.base C cA Pt) (hr : Room 2 X.A) (he : EV T X e ss (.int n)) (h : n.natAbs ≤ 10 ^ 30) (hg : Gl X "Ratio" := by rfl) (hs : starEach [e] X.env = [(false, eval e X.env)] := by rfl) : EV T X (.Call (.Name "Ratio" p) [e] [] pos) ss (rat C n 1) := by
  obtain ⟨dds, hv, G⟩ := L.md
  refine EV.cast (ev_makeD (dd := [.int 1]) (ns := rN) (xs := rF n 1) G hv (fun F => IsL.cons rfl IsL.nil) hr (evs_cons he evs_nil hs) ⟨n, 1, rfl, by decide, by decide, rfl, rfl⟩ rfl hg (by decide) hs rfl) ?_
  rw [rF_red (red_int h)]; rfl
end
/-- the slots behind the first five statements -/
def st (ns : List Int) (f1 f2 : D) (n : Int) (T1 B1 T2 B2 : Int) (C : Addr) (s : List S) : SS :=
  [.d (.rdl (ns.map D.int)), .d f1, .d f2, .d (.int n), .d (pr T1 B1), .d (pr T2 B2), .d (pr n 1), .d (rat C T1 B1), .d (rat C T2 B2), .d (rat C n 1)] ++ s
section
variable {T : List (Addr × Str)} {P : Program} {w : World} {K : PySem.W.Frag} {mg : Str → Option Value} {base : Heap} {C f cA Pt : Addr} {A : Around} {outer : List Env} {s : Shared} {H : Hp} {E : XK} {Q : Post}
/-- one turn of the first loop: two numbers, one of them a Ratio -/
theorem turn1 (L : LE T P w K mg base C cA Pt) (hr : Room 6 (lX P w K mg base f cA A outer s H E).A) {ns : List Int} {f1 f2 : D} {n T1 B1 T2 B2 : Int} {x y : D} {t b u c : Int} {s4 s5 s6 s7 s8 : S} (h2 : Two C x y t b u c) (q1 : Red t b) (q2 : Red u c)
    (k : Q.nx (st ns f1 f2 n T1 B1 T2 B2 C [.d x, .d y, .d (pr t b), .d (pr u c), s4, s5, s6, s7, s8])) : SVs T (lX P w K mg base f cA A outer s H E) (match lB 6 with | .For _ _ bd _ _ => bd | _ => []) (st ns f1 f2 n T1 B1 T2 B2 C [.d x, .d y, .d (pr t b), .d (pr u c), s4, s5, s6, s7, s8]) Q := by
  have hr4 := hr.mono (show 4 ≤ 6 by decide)
  have hr3 := hr.mono (show 3 ≤ 6 by decide)
  have hr2 := hr.mono (show 2 ≤ 6 by decide)
  have hbc : b * c ≠ 0 := Int.mul_ne_zero q1.ne q2.ne
  obtain ⟨n1, n2⟩ := two_th h2
  refine svs_cons (sv_if (t := false) (tv_inT (ev_call L.ops hr4 (evs_cons (ev_var 10 rfl) (evs_cons (ev_var 11 rfl) (evs_cons (ev_var 12 rfl) (evs_cons (ev_var 13 rfl) evs_nil)))) ⟨x, y, t, b, u, c, rfl, h2, q1.sT, q1.sB, q2.sT, q2.sB, hbc, rfl⟩)) (fun z => nomatch z) fun _ => svs_nil ?_)
  refine svs_cons (sv_if (t := false) (TV.cast (TW.tv (tw_orB (t_neB hr (e_eq2 L.eqs hr3 h2 (ev_var 10 rfl) (ev_var 11 rfl)) (e_eqP hr (ev_var 12 rfl) (ev_var 13 rfl))) fun _ => tw_orB (t_eqB hr (e_ne2 L.eqs hr4 h2 (ev_var 10 rfl) (ev_var 11 rfl)) (e_eqP hr (ev_var 12 rfl) (ev_var 13 rfl))) fun _ => tw_or1 (t_neB hr (e_eq2 L.eqs hr3 (two_swap h2) (ev_var 11 rfl) (ev_var 10 rfl)) (e_eqP hr (ev_var 12 rfl) (ev_var 13 rfl))))) ?_) (fun z => nomatch z) fun _ => svs_nil ?_)
  · rw [decide_eq_decide.mpr (eq_comm (a := u)), decide_eq_decide.mpr (eq_comm (a := c))]
    cases decide (t = u) <;> cases decide (b = c) <;> rfl
  refine svs_cons (sv_if (t := false) (TV.cast (TW.tv (tw_orB (t_neB hr (l_less L hr2 n1 n2 q1.sT q1.sB q2.sT q2.sB (ev_var 10 rfl) (ev_var 11 rfl)) (ev_lt (ev_mulW (sm_mul q1.sT q2.sB) (ev_ixT (d := .int t) ⟨0, rfl, rfl⟩ (ev_var 12 rfl) ev_int) (ev_ixT (d := .int c) ⟨1, rfl, rfl⟩ (ev_var 13 rfl) ev_int)) (ev_mulW (sm_mul q2.sT q1.sB) (ev_ixT (d := .int u) ⟨0, rfl, rfl⟩ (ev_var 13 rfl) ev_int) (ev_ixT (d := .int b) ⟨1, rfl, rfl⟩ (ev_var 12 rfl) ev_int)))) fun _ =>
    tw_or1 (t_neB hr (l_less L hr2 n2 n1 q2.sT q2.sB q1.sT q1.sB (ev_var 11 rfl) (ev_var 10 rfl)) (ev_lt (ev_mulW (sm_mul q2.sT q1.sB) (ev_ixT (d := .int u) ⟨0, rfl, rfl⟩ (ev_var 13 rfl) ev_int) (ev_ixT (d := .int b) ⟨1, rfl, rfl⟩ (ev_var 12 rfl) ev_int)) (ev_mulW (sm_mul q1.sT q2.sB) (ev_ixT (d := .int t) ⟨0, rfl, rfl⟩ (ev_var 12 rfl) ev_int) (ev_ixT (d := .int c) ⟨1, rfl, rfl⟩ (ev_var 13 rfl) ev_int)))))) (by simp)) (fun z => nomatch z) fun _ => svs_nil (svs_nil k))
end
end K02

set_option Elab.async false
set_option linter.all false
set_option maxRecDepth 100000
set_option maxHeartbeats 4000000
/-! K02k: the second loop's turn, the two comprehensions. -/
namespace K02
open PySem PySem.Spec PyProof.Rows L2 Fd
section
variable {T : List (Addr × Str)} {P : Program} {w : World} {K : PySem.W.Frag} {mg : Str → Option Value} {base : Heap} {C f cA Pt : Addr} {A : Around} {outer : List Env} {s : Shared} {H : Hp} {E : XK} {Q : Post}
def fBody : Stmt → List Stmt
  | .For _ _ bd _ _ => bd
  | _ => []
def iTest : Stmt → Expr
  | .If c _ _ _ => c
  | .Return (some e) _ => e
  | _ => .Constant .none 0 pT
/-- one turn of the second loop -/
theorem turn2 (L : LE T P w K mg base C cA Pt) (hr : Room 6 (lX P w K mg base f cA A outer s H E).A) {ns : List Int} {f1 f2 : D} {n T1 B1 T2 B2 : Int} {x : D} {t b : Int} {s0 s1 s3 s4 s6 s7 s8 : S} (hx : Nu C x t b)
    (k : ∀ s6 s7, Q.nx (st ns f1 f2 n T1 B1 T2 B2 C [s0, s1, .d (pr t b), s3, s4, .d x, s6, s7, s8])) : SVs T (lX P w K mg base f cA A outer s H E) (fBody (lB 9)) (st ns f1 f2 n T1 B1 T2 B2 C [s0, s1, .d (pr t b), s3, s4, .d x, s6, s7, s8]) Q := by
  have hr1 := hr.mono (show 1 ≤ 6 by decide)
  refine svs_cons (sv_set 16 (ev_call L.plain hr1 (evs_cons (ev_var 15 rfl) evs_nil) ⟨x, t, b, rfl, hx, rfl⟩) ?_ scLaw.nd)
  by_cases hb : b = 1
  · subst hb
    rw [show plainD C x t 1 = .int t from if_pos rfl]
    obtain ⟨k1, k2⟩ := kit_int "int" (by decide)
    refine svs_cons (sv_set 17 (d := .bl true) (EV.cast (ev_andB (t := true) (u := true) (ev_isT (ev_var 16 rfl) rfl trivial (kit_ty k1) L.V.R.bInt (by decide +kernel) L.V.R.bIs) fun _ => EV.cast (ev_andB (t := true) (u := true) (EV.cast (ev_not (ev_isT (ev_var 16 rfl) rfl trivial (kit_ty k2) L.V.R.bBool (by decide +kernel) L.V.R.bIs)) rfl) fun _ => ev_one (EV.cast (ev_eqI (ev_var 16 rfl) (ev_ixT (d := .int t) ⟨0, rfl, rfl⟩ (ev_var 12 rfl) ev_int)) (by simp))) rfl) rfl) ?_ scLaw.nd)
    exact svs_cons (sv_if (t := false) (tv_ifE (t := true) (TV.cast (tv_eqI (ev_ixT (d := .int 1) ⟨1, rfl, rfl⟩ (ev_var 12 rfl) ev_int) ev_int) rfl) (fun _ => tv_not (k := true) (tv_of (ev_var 17 rfl))) fun z => nomatch z) (fun z => nomatch z) fun _ => svs_nil (svs_nil (k _ _)))
  · have ex : x = rat C t b := by
      rcases hx with ⟨_, rfl⟩ | rfl
      · exact absurd rfl hb
      · rfl
    subst ex
    rw [show plainD C (rat C t b) t b = rat C t b from if_neg hb]
    refine svs_cons (sv_set 17 (d := .bl false) (EV.cast (ev_andB (t := false) (u := false) (ev_isT (ev_var 16 rfl) rfl L.V.R.ik L.V.R.kI L.V.R.bInt (by decide +kernel) L.V.R.bIs) fun z => nomatch z) rfl) ?_ scLaw.nd)
    exact svs_cons (sv_if (t := false) (tv_ifE (t := false) (TV.cast (tv_eqI (ev_ixT (d := .int b) ⟨1, rfl, rfl⟩ (ev_var 12 rfl) ev_int) ev_int) (by simpa using hb)) (fun z => nomatch z) fun _ => tv_not (k := true) (tv_of (l_right L hr1 (ev_var 16 rfl) (ev_var 12 rfl)))) (fun z => nomatch z) fun _ => svs_nil (svs_nil (k _ _)))
/-- less of a number and a neighbour -/
theorem comp1 (L : LE T P w K mg base C cA Pt) (hr : Room 6 (lX P w K mg base f cA A outer s H E).A) {ns : List Int} {f1 f2 : D} {n T1 B1 T2 B2 : Int} {ss : List S} (hl : ss.length = 9) (hn : n.natAbs ≤ 10 ^ 30 - 1) :
    TV T (lX P w K mg base f cA A outer s H E) (iTest (lB 7)) (st ns f1 f2 n T1 B1 T2 B2 C ss) false := by
  have hr2 := hr.mono (show 2 ≤ 6 by decide)
  match ss, hl with
  | [s0, s1, s2, s3, s4, s5, s6, s7, s8], _ =>
  refine TV.cast (tv_neD (p := .list [.bool true, .bool false, .bool false]) (q := .list [.bool true, .bool false, .bool false]) hr (ev_lc [("_law_k", 14)] (.one 14) (fun _ => true) (fun x => .bl (match x with | .int j => decide (0 < j) | _ => false))
    (iv_tup (xs := [.int 1, .int 0, .int (-1)]) (ev_tup (evs_cons ev_int (evs_cons ev_int (evs_cons (EV.cast (ev_neg ev_int) rfl) evs_nil)))))
    (id (α := BlkOk lN (defScope sLaw) _ [("_law_k", 14)]) ⟨rfl, by decide +kernel, by decide +kernel, by decide +kernel, by decide +kernel⟩)
    (fun s H C cl fp => pg_name (i := 14) scLaw.nd rfl (Or.inl rfl))
    (fun s H C cl fp y hy => ts_nil) (fun s H C' cl fp y hy _ => ?_) scLaw.nd (fun _ _ => rfl) (Nat.le_of_ble_eq_true rfl)) (ev_lst (evs_cons ev_bl (evs_cons ev_bl (evs_cons ev_bl evs_nil)))) rfl rfl rfl rfl) rfl
  have hj : ∃ j : Int, y = .int j ∧ j.natAbs ≤ 1 := by
    simp only [List.mem_cons, List.not_mem_nil, or_false] at hy
    rcases hy with rfl | rfl | rfl <;> exact ⟨_, rfl, by decide⟩
  obtain ⟨j, rfl, hj⟩ := hj
  refine EV.cast (l_less L hr2 (.inl ⟨rfl, rfl⟩) (.inl ⟨rfl, rfl⟩) (smOf (by omega)) (smOf (by decide)) (smOf (a := n + j) (by omega)) (smOf (by decide)) (ev_var 3 rfl) (ev_add (ev_var 3 rfl) (ev_var 14 rfl))) ?_
  show D.bl (decide (n * 1 < (n + j) * 1)) = D.bl (decide (0 < j))
  congr 1
  exact decide_eq_decide.mpr (by omega)
end
end K02

set_option Elab.async false
set_option linter.all false
set_option maxRecDepth 100000
set_option maxHeartbeats 4000000
/-! K02l: the law's def. -/
namespace K02
open PySem PySem.Spec PyProof.Rows L2 Fd
section
variable {T : List (Addr × Str)} {P : Program} {w : World} {K : PySem.W.Frag} {mg : Str → Option Value} {base : Heap} {C f cA Pt : Addr} {fd : FuncData} {A : Around} {outer : List Env} {s : Shared} {H : Hp} {E : XK} {Q : Post}
def modL (c1 : Int) : Int := ([10 ^ 30, 5] : List Int).getD (c1 % 2).toNat 0
theorem modL_ok (c1 : Int) : 0 < modL c1 ∧ modL c1 ≤ 10 ^ 30 := by
  have : c1 % 2 = 0 ∨ c1 % 2 = 1 := by omega
  unfold modL
  rcases this with e | e <;> rw [e] <;> exact ⟨by decide, by decide⟩
theorem tail (L : LE T P w K mg base C cA Pt) (hr : Room 6 (lX P w K mg base f cA A outer s H E).A) {ns : List Int} {t1 b1 : Int} {f2 : D} {n T1 B1 T2 B2 : Int} (R1 : Red T1 B1) (hk : Q.rt (.bl true)) {s0 s1 s2 s3 s4 s5 s6 s7 s8 : S} :
    SVs T (lX P w K mg base f cA A outer s H E) ((defBody sLaw).drop 10) (st ns (pr t1 b1) f2 n T1 B1 T2 B2 C [s0, s1, s2, s3, s4, s5, s6, s7, s8]) Q := by
  have hr5 := hr.mono (show 5 ≤ 6 by decide)
  have hr4 := hr.mono (show 4 ≤ 6 by decide)
  have hr3 := hr.mono (show 3 ≤ 6 by decide)
  have hr2 := hr.mono (show 2 ≤ 6 by decide)
  refine svs_cons (sv_setOwn 18 (evs_cons (e_raises (k := 3) L.R L.M rfl hr5 (LamX.lamS_by rfl) fun A outer s H E f cc hrb tk hx => ?_) evs_nil) ?_ scLaw.nd)
  · exact rx_make L.mx hx (hrb.mono (by decide)) (evs_cons (ev_ixT (d := .int t1) ⟨0, rfl, rfl⟩ (ev_var 1 rfl) ev_int) (evs_cons ev_int evs_nil)) ⟨_, rfl⟩
  refine svs_cons (sv_append 18 rfl (e_raises (k := 3) L.R L.M rfl hr5 (LamX.lamS_by rfl) fun A outer s H E f cc hrb tk hx => ?_) ?_ (by decide))
  · exact x_over L.O L.V.R.ik.cl hx hrb (ev_var 7 rfl) ev_int (.inl ⟨rfl, rfl⟩) R1.sT R1.sB (smOf (by decide))
  refine svs_cons (sv_append 18 rfl (e_raises (k := 3) L.R L.M rfl hr5 (LamX.lamS_by rfl) fun A outer s H E f cc hrb tk hx => ?_) ?_ (by decide))
  · exact x_over L.O L.V.R.ik.cl hx hrb (ev_var 7 rfl) (e_ratio (t := 0) (b := 5) L.V (hrb.mono (by decide)) (by decide) (by decide) ev_int ev_int) (c := 1) (.inr (by unfold ratL rat; rw [rF_zero (by decide)])) R1.sT R1.sB (smOf (by decide))
  refine svs_freeze 18 rfl (svs_cons (sv_if (t := false) (tv_inT (ev_var 18 rfl)) (fun z => nomatch z) fun _ => svs_nil ?_))
  obtain ⟨g, M⟩ := L.eqs.m
  refine svs_one (sv_ret (EV.cast (ev_andB (t := true) (u := true) (EV.cast (ev_not (ev_any (bs := [false, false, false, false, false]) (ev_lc [("_law_thing", 15)] (.one 15) (fun _ => true) (fun _ => .bl false)
    (iv_tup (xs := [.bl true, .str "1", .non, .lst [.int 1], .tup [.int 1, .int 1]]) (ev_tup (evs_cons ev_bl (evs_cons ev_str (evs_cons ev_non (evs_cons (ev_lst (evs_cons ev_int evs_nil)) (evs_cons (ev_tup (evs_cons ev_int (evs_cons ev_int evs_nil))) evs_nil)))))))
    (id (α := BlkOk lN (defScope sLaw) _ [("_law_thing", 15)]) ⟨rfl, by decide +kernel, by decide +kernel, by decide +kernel, by decide +kernel⟩)
    (fun s H C cl fp => pg_name (i := 15) scLaw.nd rfl (Or.inl rfl))
    (fun s H C cl fp y hy => ts_nil) (fun s H C' cl fp y hy _ => ?_) scLaw.nd (fun _ _ => rfl) (Nat.le_of_ble_eq_true rfl)) L.bAny)) rfl) fun _ => ev_one (EV.cast (ev_cmpD (ne_own M hr4) (l_rat1 L hr2 ev_int (by decide)) ev_bl ⟨rN, _, .type "bool", false, rfl, rfl, L.eqs.nT "bool" (by decide), rfl, 0, 1, .bl false, rfl, .inr ⟨"bool", by decide, rfl, trivial⟩, .inl ⟨rfl, rfl⟩⟩) rfl)) rfl) hk)
  have hy' : ∃ tn, tn ∈ tys ∧ y.ty? = some (.type tn) ∧ Th C y ∧ isN C y = false := by
    simp only [List.mem_cons, List.not_mem_nil, or_false] at hy
    rcases hy with rfl | rfl | rfl | rfl | rfl
    · exact ⟨"bool", by decide, rfl, .inr ⟨"bool", by decide, rfl, trivial⟩, rfl⟩
    · exact ⟨"str", by decide, rfl, .inr ⟨"str", by decide, rfl, trivial⟩, rfl⟩
    · exact ⟨"NoneType", by decide, rfl, .inr ⟨"NoneType", by decide, rfl, trivial⟩, rfl⟩
    · exact ⟨"list", by decide, rfl, .inr ⟨"list", by decide, rfl, trivial⟩, rfl⟩
    · exact ⟨"tuple", by decide, rfl, .inr ⟨"tuple", by decide, rfl, trivial⟩, rfl⟩
  obtain ⟨tn, m1, m2, m3, m4⟩ := hy'
  exact ev_cmpD (eq_own M hr3) (l_rat1 L hr2 ev_int (by decide)) (ev_var 15 rfl) ⟨rN, _, .type tn, false, rfl, m2, L.eqs.nT tn m1, rfl, 1, 1, y, rfl, m3, .inl ⟨m4, rfl⟩⟩
end
end K02

set_option Elab.async false
set_option linter.all false
set_option maxRecDepth 100000
set_option maxHeartbeats 4000000
/-! K02m: the law's def, whole. -/
namespace K02
open PySem PySem.Spec PyProof.Rows L2 Fd
section
variable {T : List (Addr × Str)} {P : Program} {w : World} {K : PySem.W.Frag} {mg : Str → Option Value} {base : Heap} {C f cA Pt : Addr} {fd : FuncData} {A : Around} {outer : List Env} {s : Shared} {H : Hp} {E : XK} {Q : Post}
theorem mid (L : LE T P w K mg base C cA Pt) (hr : Room 6 (lX P w K mg base f cA A outer s H E).A) {ns : List Int} {t1 b1 : Int} {f2 : D} {n T1 B1 T2 B2 : Int} (hn : n.natAbs ≤ 10 ^ 30 - 1) (R1 : Red T1 B1) (R2 : Red T2 B2) (hk : Q.rt (.bl true)) :
    SVs T (lX P w K mg base f cA A outer s H E) ((defBody sLaw).drop 5) (st ns (pr t1 b1) f2 n T1 B1 T2 B2 C [.no, .no, .no, .no, .no, .no, .no, .no, .no]) Q := by
  have hr5 := hr.mono (show 5 ≤ 6 by decide)
  have hr4 := hr.mono (show 4 ≤ 6 by decide)
  have hr3 := hr.mono (show 3 ≤ 6 by decide)
  have hr2 := hr.mono (show 2 ≤ 6 by decide)
  have hr1 := hr.mono (show 1 ≤ 6 by decide)
  have R3 : Red n 1 := red_int (by omega)
  obtain ⟨g, M⟩ := L.ng
  have hneg : EV T (lX P w K mg base f cA A outer s H E) (.UnaryOp .USub (.Name "_law_a" ⟨130, 137, 130, 143⟩) ⟨130, 136, 130, 143⟩) (st ns (pr t1 b1) f2 n T1 B1 T2 B2 C [.no, .no, .no, .no, .no, .no, .no, .no, .no]) (rat C (-T1) B1) :=
    EV.cast (e_negR M hr3 R1.sB R1.ne (ev_var 7 rfl)) (by unfold ratL rat; rw [rF_red (red_neg R1)])
  have nr : ∀ {e a : Expr} {t b : Int} {p pos pos2 : Pos}, Gl (lX P w K mg base f cA A outer s H E) "_law_right" → True := fun _ => trivial
  refine svs_cons (sv_if (t := false) (TW.tv (tw_orB (t := false) (u := false) (tv_not (k := true) (tv_of (l_right L hr1 (ev_var 7 rfl) (ev_var 4 rfl)))) fun _ => tw_orB (t := false) (u := false) (tv_not (k := true) (tv_of (l_right L hr1 (ev_var 8 rfl) (ev_var 5 rfl)))) fun _ => tw_orB (t := false) (u := false) (tv_not (k := true) (tv_of (l_right L hr1 (ev_var 9 rfl) (ev_var 6 rfl)))) fun _ =>
    tw_or1 (tv_not (k := true) (tv_of (l_right L hr1 (EV.cast (e_negR M hr3 R1.sB R1.ne (ev_var 7 rfl)) (by unfold ratL rat; rw [rF_red (red_neg R1)])) (ev_tup (evs_cons (ev_neg (ev_ixT (d := .int T1) ⟨0, rfl, rfl⟩ (ev_var 4 rfl) ev_int)) (evs_cons (ev_ixT (d := .int B1) ⟨1, rfl, rfl⟩ (ev_var 4 rfl) ev_int) evs_nil)))))))) (fun z => nomatch z) fun _ => svs_nil ?_)
  refine svs_cons (sv_for (.many [10, 11, 12, 13]) (fun i ss => ∃ s0 s1 s2 s3, ss = st ns (pr t1 b1) f2 n T1 B1 T2 B2 C [s0, s1, s2, s3, .no, .no, .no, .no, .no])
    (iv_list (xs := [.tup [rat C T1 B1, rat C T2 B2, pr T1 B1, pr T2 B2], .tup [rat C T1 B1, .int n, pr T1 B1, pr n 1], .tup [.int n, rat C T2 B2, pr n 1, pr T2 B2], .tup [rat C T1 B1, rat C n 1, pr T1 B1, pr n 1], .tup [rat C T1 B1, rat C T1 B1, pr T1 B1, pr T1 B1]])
      (ev_lst (evs_cons (ev_tup (evs_cons (ev_var 7 rfl) (evs_cons (ev_var 8 rfl) (evs_cons (ev_var 4 rfl) (evs_cons (ev_var 5 rfl) evs_nil))))) (evs_cons (ev_tup (evs_cons (ev_var 7 rfl) (evs_cons (ev_var 3 rfl) (evs_cons (ev_var 4 rfl) (evs_cons (ev_var 6 rfl) evs_nil))))) (evs_cons (ev_tup (evs_cons (ev_var 3 rfl) (evs_cons (ev_var 8 rfl) (evs_cons (ev_var 6 rfl) (evs_cons (ev_var 5 rfl) evs_nil)))))
        (evs_cons (ev_tup (evs_cons (ev_var 7 rfl) (evs_cons (ev_var 9 rfl) (evs_cons (ev_var 4 rfl) (evs_cons (ev_var 6 rfl) evs_nil))))) (evs_cons (ev_tup (evs_cons (ev_var 7 rfl) (evs_cons (ev_var 7 rfl) (evs_cons (ev_var 4 rfl) (evs_cons (ev_var 4 rfl) evs_nil))))) evs_nil)))))))
    (pg_tup rfl (pgs_cons (pg_name (i := 10) scLaw.nd rfl (Or.inl rfl)) (pgs_cons (pg_name (i := 11) scLaw.nd rfl (Or.inl rfl)) (pgs_cons (pg_name (i := 12) scLaw.nd rfl (Or.inl rfl)) (pgs_cons (pg_name (i := 13) scLaw.nd rfl (Or.inl rfl)) pgs_nil)))))
    ⟨_, _, _, _, rfl⟩ ?_ ?_)
  · rintro i x ss' hx ⟨s0, s1, s2, s3, rfl⟩
    have hm := List.mem_of_getElem? hx
    simp only [List.mem_cons, List.not_mem_nil, or_false] at hm
    rcases hm with rfl | rfl | rfl | rfl | rfl
    · exact ⟨rfl, turn1 L hr (.inr ⟨rfl, .inr rfl⟩) R1 R2 ⟨_, _, _, _, rfl⟩⟩
    · exact ⟨rfl, turn1 L hr (.inr ⟨rfl, .inl ⟨rfl, rfl⟩⟩) R1 R3 ⟨_, _, _, _, rfl⟩⟩
    · exact ⟨rfl, turn1 L hr (.inl ⟨.inl ⟨rfl, rfl⟩, rfl⟩) R3 R2 ⟨_, _, _, _, rfl⟩⟩
    · exact ⟨rfl, turn1 L hr (.inr ⟨rfl, .inr rfl⟩) R1 R3 ⟨_, _, _, _, rfl⟩⟩
    · exact ⟨rfl, turn1 L hr (.inr ⟨rfl, .inr rfl⟩) R1 R1 ⟨_, _, _, _, rfl⟩⟩
  rintro ss' ⟨s0, s1, s2, s3, rfl⟩
  refine svs_cons (sv_if (t := false) (comp1 L hr (by rfl) hn) (fun z => nomatch z) fun _ => svs_nil ?_)
  refine svs_cons (sv_if (t := false) (TW.tv (tw_orB (t := false) (u := false) (tv_not (k := true) (tv_of (ev_call L.over hr (evs_cons (ev_var 7 rfl) (evs_cons (ev_var 8 rfl) (evs_cons (ev_var 4 rfl) (evs_cons (ev_var 5 rfl) evs_nil)))) ⟨T1, B1, _, T2, B2, rfl, .inr rfl, R1.sT, R1.sB, R2.sT, R2.sB, R1.ne, rfl⟩))) fun _ => tw_orB (t := false) (u := false) (tv_not (k := true) (tv_of (ev_call L.over hr (evs_cons (ev_var 8 rfl) (evs_cons (ev_var 3 rfl) (evs_cons (ev_var 5 rfl) (evs_cons (ev_var 6 rfl) evs_nil)))) ⟨T2, B2, _, n, 1, rfl, .inl ⟨rfl, rfl⟩, R2.sT, R2.sB, R3.sT, R3.sB, R2.ne, rfl⟩))) fun _ =>
    tw_or1 (tv_not (k := true) (tv_of (ev_call L.over hr (evs_cons (ev_var 9 rfl) (evs_cons (ev_var 7 rfl) (evs_cons (ev_var 6 rfl) (evs_cons (ev_var 4 rfl) evs_nil)))) ⟨n, 1, _, T1, B1, rfl, .inr rfl, R3.sT, R3.sB, R1.sT, R1.sB, R3.ne, rfl⟩))))) (fun z => nomatch z) fun _ => svs_nil ?_)
  have hbb : B1 * B1 ≠ 0 := Int.mul_ne_zero R1.ne R1.ne
  refine svs_cons (sv_for (.many [15, 12]) (fun i ss => ∃ s0 s1 s2 s3 s4 s5 s6 s7 s8, ss = st ns (pr t1 b1) f2 n T1 B1 T2 B2 C [s0, s1, s2, s3, s4, s5, s6, s7, s8])
    (iv_list (xs := [.tup [rat C T1 B1, pr T1 B1], .tup [rat C T2 B2, pr T2 B2], .tup [rat C n 1, pr n 1], .tup [.int n, pr n 1], .tup [rat C 0 1, pr 0 1]])
      (ev_lst (evs_cons (ev_tup (evs_cons (ev_var 7 rfl) (evs_cons (ev_var 4 rfl) evs_nil))) (evs_cons (ev_tup (evs_cons (ev_var 8 rfl) (evs_cons (ev_var 5 rfl) evs_nil))) (evs_cons (ev_tup (evs_cons (ev_var 9 rfl) (evs_cons (ev_var 6 rfl) evs_nil))) (evs_cons (ev_tup (evs_cons (ev_var 3 rfl) (evs_cons (ev_var 6 rfl) evs_nil)))
        (evs_cons (ev_tup (evs_cons (EV.cast (e_sub L.sb hr3 (.inr ⟨rfl, .inr rfl⟩) R1.sT R1.sB R1.sT R1.sB hbb (ev_var 7 rfl) (ev_var 7 rfl)) (by unfold ratL rat; rw [Int.sub_self, rF_zero (Int.mul_pos R1.pos R1.pos)])) (evs_cons (ev_tup (evs_cons ev_int (evs_cons ev_int evs_nil))) evs_nil))) evs_nil)))))))
    (pg_tup rfl (pgs_cons (pg_name (i := 15) scLaw.nd rfl (Or.inl rfl)) (pgs_cons (pg_name (i := 12) scLaw.nd rfl (Or.inl rfl)) pgs_nil)))
    ⟨_, _, _, _, _, _, _, _, _, rfl⟩ ?_ ?_)
  · rintro i x ss' hx ⟨s0, s1, s2, s3, s4, s5, s6, s7, s8, rfl⟩
    have hm := List.mem_of_getElem? hx
    simp only [List.mem_cons, List.not_mem_nil, or_false] at hm
    rcases hm with rfl | rfl | rfl | rfl | rfl
    · exact ⟨rfl, turn2 L hr (.inr rfl) fun _ _ => ⟨_, _, _, _, _, _, _, _, _, rfl⟩⟩
    · exact ⟨rfl, turn2 L hr (.inr rfl) fun _ _ => ⟨_, _, _, _, _, _, _, _, _, rfl⟩⟩
    · exact ⟨rfl, turn2 L hr (.inr rfl) fun _ _ => ⟨_, _, _, _, _, _, _, _, _, rfl⟩⟩
    · exact ⟨rfl, turn2 L hr (.inl ⟨rfl, rfl⟩) fun _ _ => ⟨_, _, _, _, _, _, _, _, _, rfl⟩⟩
    · exact ⟨rfl, turn2 L hr (.inr rfl) fun _ _ => ⟨_, _, _, _, _, _, _, _, _, rfl⟩⟩
  rintro ss' ⟨s0, s1, s2, s3, s4, s5, s6, s7, s8, rfl⟩
  exact tail L hr R1 hk
theorem log30 {b : Int} (h : b.natAbs ≤ 10 ^ 30) : b.natAbs.log2 < 9000 := sm_log1 (smOf h)
theorem ok_law (F : FunZ K "law" "law" sLaw f fd (.ref cA)) (L : LE T P w K mg base C cA Pt) : FnOk P w K mg base CX0 7 f fd ["_law_script"] (spD T K 1 pLaw) := by
  refine fdz_ok F scLaw rfl fun A outer s H E ds d hr _ ⟨ns, e1, hlen, e2⟩ => ?_
  subst e1; subst e2
  have hr2 := hr.mono (show 2 ≤ 6 by decide)
  have hr1 := hr.mono (show 1 ≤ 6 by decide)
  obtain ⟨b1, u1, v1⟩ := drawn_ok (ns.getD 0 0) (ns.getD 1 0)
  obtain ⟨b2, u2, v2⟩ := drawn_ok (ns.getD 2 0) (ns.getD 3 0)
  refine svs_cons (sv_set 1 (ev_call L.drawn hr2 (evs_cons (ev_call L.cell hr1 (evs_cons (ev_var 0 rfl) (evs_cons ev_int evs_nil)) ⟨ns, 0, rfl, hlen, rfl⟩) (evs_cons (ev_call L.cell hr1 (evs_cons (ev_var 0 rfl) (evs_cons ev_int evs_nil)) ⟨ns, 1, rfl, hlen, rfl⟩) evs_nil)) ⟨_, _, rfl, rfl⟩) ?_ scLaw.nd)
  refine svs_cons (sv_set 2 (ev_call L.drawn hr2 (evs_cons (ev_call L.cell hr1 (evs_cons (ev_var 0 rfl) (evs_cons ev_int evs_nil)) ⟨ns, 2, rfl, hlen, rfl⟩) (evs_cons (ev_call L.cell hr1 (evs_cons (ev_var 0 rfl) (evs_cons ev_int evs_nil)) ⟨ns, 3, rfl, hlen, rfl⟩) evs_nil)) ⟨_, _, rfl, rfl⟩) ?_ scLaw.nd)
  generalize drT (ns.getD 0 0) (rowL (ns.getD 1 0) [5, 3, 10 ^ 9]) = x1 at *
  generalize drB (rowL (ns.getD 1 0) [5, 3, 10 ^ 9]) = y1 at *
  generalize drT (ns.getD 2 0) (rowL (ns.getD 3 0) [5, 3, 10 ^ 9]) = x2 at *
  generalize drB (rowL (ns.getD 3 0) [5, 3, 10 ^ 9]) = y2 at *
  obtain ⟨m1, m2⟩ := modL_ok (ns.getD 1 0)
  have hi : ∃ k : Nat, (ns.getD 1 0) % 2 = k ∧ (([10 ^ 30, 5] : List Int).map D.int)[k]? = some (.int (modL (ns.getD 1 0))) := get_lt (l := [10 ^ 30, 5]) (by omega) (by simp; omega)
  refine svs_cons (sv_set 3 (ev_sub (ev_mod m1 (ev_int1 (ev_call L.cell hr1 (evs_cons (ev_var 0 rfl) (evs_cons ev_int evs_nil)) ⟨ns, 4, rfl, hlen, rfl⟩) L.bInt) (ev_ixL hi (ev_lst (evs_cons (ev_pow ⟨by decide, by decide, by decide⟩ ev_int ev_int) (evs_cons ev_int evs_nil))) (ev_mod (by decide) (ev_int1 (ev_call L.cell hr1 (evs_cons (ev_var 0 rfl) (evs_cons ev_int evs_nil)) ⟨ns, 1, rfl, hlen, rfl⟩) L.bInt) ev_int))) ev_int) ?_ scLaw.nd)
  have hn : (ns.getD 4 0 % modL (ns.getD 1 0) - 2).natAbs ≤ 10 ^ 30 - 1 := by
    have p1 := Int.emod_nonneg (ns.getD 4 0) (show modL (ns.getD 1 0) ≠ 0 by omega)
    have p2 := Int.emod_lt_of_pos (ns.getD 4 0) m1
    omega
  generalize ns.getD 4 0 % modL (ns.getD 1 0) - 2 = n at *
  have R1 : Red (tT x1 y1) (tB x1 y1) := red_of b1 u1 v1
  have R2 : Red (tT x2 y2) (tB x2 y2) := red_of b2 u2 v2
  refine svs_cons (sv_par3 4 5 6 (d1 := pr (tT x1 y1) (tB x1 y1)) (d2 := pr (tT x2 y2) (tB x2 y2)) (d3 := pr n 1) (evs_cons (ev_call L.low hr2 (evs_cons (ev_ixT (d := .int x1) ⟨0, rfl, rfl⟩ (ev_var 1 rfl) ev_int) (evs_cons (ev_ixT (d := .int y1) ⟨1, rfl, rfl⟩ (ev_var 1 rfl) ev_int) evs_nil)) ⟨x1, y1, rfl, b1, log30 v1, rfl⟩) (evs_cons (ev_call L.low hr2 (evs_cons (ev_ixT (d := .int x2) ⟨0, rfl, rfl⟩ (ev_var 2 rfl) ev_int) (evs_cons (ev_ixT (d := .int y2) ⟨1, rfl, rfl⟩ (ev_var 2 rfl) ev_int) evs_nil)) ⟨x2, y2, rfl, b2, log30 v2, rfl⟩)
    (evs_cons (ev_tup (evs_cons (ev_var 3 rfl) (evs_cons ev_int evs_nil))) evs_nil))) ?_ scLaw.nd)
  refine svs_cons (sv_tup3 7 8 9 (d1 := rat C (tT x1 y1) (tB x1 y1)) (d2 := rat C (tT x2 y2) (tB x2 y2)) (d3 := rat C n 1) (ev_tup (evs_cons (e_ratio L.V hr2 b1 (log30 v1) (ev_ixT (d := .int x1) ⟨0, rfl, rfl⟩ (ev_var 1 rfl) ev_int) (ev_ixT (d := .int y1) ⟨1, rfl, rfl⟩ (ev_var 1 rfl) ev_int)) (evs_cons (ev_makeK (ns := rN) (xs := rF x2 y2) L.mkw hr2 (ev_ixT (d := .int y2) ⟨1, rfl, rfl⟩ (ev_var 2 rfl) ev_int) (ev_ixT (d := .int x2) ⟨0, rfl, rfl⟩ (ev_var 2 rfl) ev_int) ⟨x2, y2, rfl, b2, log30 v2, rfl, rfl⟩)
    (evs_cons (l_rat1 L hr2 (ev_var 3 rfl) (by omega)) evs_nil)))) ?_ scLaw.nd)
  exact mid L hr hn R1 R2 rfl
end
end K02

set_option Elab.async false
set_option linter.all false
set_option maxRecDepth 100000
set_option maxHeartbeats 4000000
/-! K02n: from the facts of the top to the law's contract. -/
namespace K02
open PySem PySem.Spec PyProof.Rows L2 Fd
theorem e_dA : PySem.dunder Operator.Add.info.2 = ("__add__" : Str) := by decide +kernel
theorem e_dS : PySem.dunder Operator.Sub.info.2 = ("__sub__" : Str) := by decide +kernel
theorem e_dM : PySem.dunder Operator.Mult.info.2 = ("__mul__" : Str) := by decide +kernel
theorem e_rA : dunderR Operator.Add.info.2 = ("__radd__" : Str) := by decide +kernel
theorem e_rS : dunderR Operator.Sub.info.2 = ("__rsub__" : Str) := by decide +kernel
theorem e_rM : dunderR Operator.Mult.info.2 = ("__rmul__" : Str) := by decide +kernel
structure OpF (K : PySem.W.Frag) (C : Addr) : Prop where
  sf : PySem.W.selfFirst K C = true
  s1 : PySem.W.subIn K (.type "int") (.ref C) = some false
  s2 : PySem.W.subIn K (.ref C) (.type "int") = some false
  iA : ∃ v, PySem.W.findIn K (.type "int") "__add__" = some v
  jA : ∃ v, PySem.W.findIn K (.type "int") "__radd__" = some v
  iS : ∃ v, PySem.W.findIn K (.type "int") "__sub__" = some v
  jS : ∃ v, PySem.W.findIn K (.type "int") "__rsub__" = some v
  iM : ∃ v, PySem.W.findIn K (.type "int") "__mul__" = some v
  jM : ∃ v, PySem.W.findIn K (.type "int") "__rmul__" = some v
  ne : PySem.W.findIn K (.ref C) "__ne__" = some (some (.builtin "object.__ne__"))
  ob : PySem.W.subIn K (.ref C) (.type "object") = some true
  nT : ∀ t, t ∈ tys → PySem.W.notFirst K C (.type t) = true
  nC : PySem.W.notFirst K C (.ref C) = true
theorem opF_mk {K : PySem.W.Frag} {C : Addr} (sf : PySem.W.selfFirst K C = true) (s1 : PySem.W.subIn K (.type "int") (.ref C) = some false) (s2 : PySem.W.subIn K (.ref C) (.type "int") = some false) (ne : PySem.W.findIn K (.ref C) "__ne__" = some (some (.builtin "object.__ne__"))) (ob : PySem.W.subIn K (.ref C) (.type "object") = some true)
    (nT : ∀ t, t ∈ tys → PySem.W.notFirst K C (.type t) = true) (nC : PySem.W.notFirst K C (.ref C) = true) : OpF K C :=
  ⟨sf, s1, s2, ⟨some (.builtin "int.__add__"), by kernel_rfl⟩, ⟨some (.builtin "int.__radd__"), by kernel_rfl⟩, ⟨some (.builtin "int.__sub__"), by kernel_rfl⟩, ⟨some (.builtin "int.__rsub__"), by kernel_rfl⟩, ⟨some (.builtin "int.__mul__"), by kernel_rfl⟩, ⟨some (.builtin "int.__rmul__"), by kernel_rfl⟩, ne, ob, nT, nC⟩
/-- the built-in names that the text leaves free -/
structure Fre (mg : Str → Option Value) : Prop where
  len : mg "len" = none
  abs : mg "abs" = none
  int : mg "int" = none
  range : mg "range" = none
  zip : mg "zip" = none
  any : mg "any" = none
  zd : mg "ZeroDivisionError" = none
section
variable {P : Program} {w : World} {K : PySem.W.Frag} {mg : Str → Option Value} {C fI cOver cLawA POver PLaw : Addr} {fdI : FuncData} {cI : Value}
theorem own_mk {T : List (Addr × Str)} {base : Heap} {m qual : Str} {st : Stmt} {f : Addr} {cdv : Value} {n k : Nat} {ps : List Str} {pre : List D → D → Prop} (M : Mz K C m qual st f cdv) (hn : ps.length = n) (hb : ∀ fd, Fun K m qual st f fd → Binds K fd ps []) (ok : ∀ fd, Fun K m qual st f fd → FnOk P w K mg base CX0 k f fd ps (spD T K n pre)) : OwnM T P w K mg base C m n k pre f := by
  obtain ⟨fd, F, _⟩ := M.fn
  exact ⟨M.me.at_, M.me.fn, M.me.kp, fd, ps, hb fd F, hn, ok fd F⟩
theorem fd_mk {T : List (Addr × Str)} {base : Heap} {x : Str} {st : Stmt} {f : Addr} {cdv : Value} {n k : Nat} {ps : List Str} {pre : List D → D → Prop} (M : Dz K mg x st f cdv) (hn : ps.length = n) (hb : ∀ fd, Fun K x x st f fd → Binds K fd ps []) (ok : ∀ fd, Fun K x x st f fd → FnOk P w K mg base CX0 k f fd ps (spD T K n pre)) : FD T P w K mg base x n k pre := by
  obtain ⟨fd, F, _⟩ := M.fn
  exact FD.mk M.at_ F.kp (hb fd F) hn (ok fd F)
theorem init_b0 (I : Iz K C "Ratio.__init__" sInit fI fdI cI) : Binds K fdI ["self", "top", "bottom"] [] := by
  obtain ⟨ds, v, b⟩ := FunD.binds1 (ps := ["self", "top", "bottom"]) I.d 3 1 (by simp) (by rfl) fun T kV doc pm an cdv ct us its l1 l2 => match us, its, l1, l2 with | [_, _, _], [_], _, _ => ⟨_, rfl, rfl⟩
  cases v
  exact b
theorem init_b1 (I : Iz K C "Ratio.__init__" sInit fI fdI cI) : ∃ ds, Vals [L2.V.int 1] ds ∧ Binds K fdI ["self", "top", "bottom"] ds :=
  FunD.binds1 (ps := ["self", "top", "bottom"]) I.d 2 0 (by simp) (by rfl) fun T kV doc pm an cdv ct us its l1 l2 => match us, its, l1, l2 with | [_, _], [_], _, _ => ⟨_, rfl, rfl⟩
theorem rev_vals {vs : List L2.V} {us : List Value} (r : Vals vs us) : Vals vs.reverse us.reverse := by
  induction r with
  | nil => exact .nil
  | cons h t ih =>
    rw [List.reverse_cons, List.reverse_cons]
    exact ih.append (.cons h .nil)
theorem init_bk (I : Iz K C "Ratio.__init__" sInit fI fdI cI) : ∃ g gV, KBn K fdI ["self", "top", "bottom"] 1 ["bottom", "top"] g gV ∧ ∀ (y u v : L2.V), gV [y] [u, v] = [y, v, u] := by
  obtain ⟨its, b⟩ := FunD.kbindsD (ps := ["self", "top", "bottom"]) I.d 1 ["bottom", "top"] (fun us _ ws => us ++ ws.reverse) (by simp) (fun r1 _ r3 => r1.append (rev_vals r3)) fun T kV doc pm an cdv ct us its ws l1 l2 l3 => match us, its, ws, l1, l2, l3 with | [_], [_], [_, _], _, _, _ => ⟨_, rfl, rfl⟩
  exact ⟨_, _, b, fun _ _ _ => rfl⟩
/-- all that is known of the top -/
structure Tp (K : PySem.W.Frag) (mg : Str → Option Value) (C fI : Addr) (fdI : FuncData) (cI : Value) (cOver cLawA : Addr) : Prop where
  R : Rt K mg C
  gcd : mg "gcd" = some (.builtin "math.gcd")
  I : Iz K C "Ratio.__init__" sInit fI fdI cI
  F : OpF K C
  B : Fre mg
  ez : PySem.W.exmOne K zde zde = some true
  m1 : ∃ f c, Mz K C "__add__" "Ratio.__add__" sAdd f c
  m2 : ∃ f c, Mz K C "__radd__" "Ratio.__radd__" sRadd f c
  m3 : ∃ f c, Mz K C "__sub__" "Ratio.__sub__" sSub f c
  m4 : ∃ f c, Mz K C "__rsub__" "Ratio.__rsub__" sRsub f c
  m5 : ∃ f c, Mz K C "__mul__" "Ratio.__mul__" sMul f c
  m6 : ∃ f c, Mz K C "__rmul__" "Ratio.__rmul__" sRmul f c
  m7 : ∃ f c, Mz K C "__neg__" "Ratio.__neg__" sNeg f c
  m8 : ∃ f c, Mz K C "over" "Ratio.over" sOver f c
  m9 : ∃ f c, Mz K C "__eq__" "Ratio.__eq__" sEq f c
  d1 : ∃ f c, Dz K mg "is_int" sIsInt f c
  d2 : ∃ f c, Dz K mg "is_number" sIsNum f c
  d3 : ∃ f c, Dz K mg "top_of" sTopOf f c
  d4 : ∃ f c, Dz K mg "bottom_of" sBotOf f c
  d5 : ∃ f c, Dz K mg "less" sLess f c
  d6 : ∃ f c, Dz K mg "plain" sPlain f c
  e1 : ∃ f c, Dz K mg "_law_cell" sCell f c
  e2 : ∃ f c, Dz K mg "_law_row" sRow f c
  e3 : ∃ f c, Dz K mg "_law_share" sShare f c
  e4 : ∃ f c, Dz K mg "_law_low" sLow f c
  e5 : ∃ f c, Dz K mg "_law_add" sLadd f c
  e6 : ∃ f c, Dz K mg "_law_mul" sLmul f c
  e7 : ∃ f c, Dz K mg "_law_drawn" sDrawn f c
  e8 : ∃ f c, Dz K mg "_law_right" sRight f c
  e9 : ∃ f c, Dz K mg "_law_raises" sRaises f c
  g1 : ∃ f c, Dz K mg "_law_ops" sOps f c
  g2 : ∃ f, Dz K mg "_law_over" sLover f (.ref cOver)
  g3 : ∃ f, Dz K mg "law" sLaw f (.ref cLawA)
def qO : Str := (envOfC "_law_over" (defScope sLover) 0 0 .none).qual ++ "<lambda>"
def qL : Str := (envOfC "law" (defScope sLaw) 0 0 .none).qual ++ "<lambda>"
theorem all_le {T : List (Addr × Str)} {base : Heap} (t : Tp K mg C fI fdI cI cOver cLawA) (MO : Mkr T mg base cOver POver qO) (ML : Mkr T mg base cLawA PLaw qL) : LE T P w K mg base C cLawA PLaw := by
  have I := t.I
  have b0 := init_b0 I
  have R := t.R
  have okI : FnOk P w K mg base CX0 1 fI fdI ["self", "top", "bottom"] (spM T K C 2 pInit) := ok_init I.z R.ik.cl R.nt R.nb t.gcd
  have M : MD T P w K mg base "Ratio" C 2 1 pInit := ⟨fI, fdI, _, R.mgR, I.mk', rfl, okI, b0⟩
  have MX : MDX T P w K mg base "Ratio" C 2 1 pInitX zde := ⟨fI, fdI, _, R.mgR, I.mk', rfl, ok_initX I.z t.B.zd, b0⟩
  obtain ⟨_, _, d1⟩ := t.d1; obtain ⟨_, _, d2⟩ := t.d2; obtain ⟨_, _, d3⟩ := t.d3; obtain ⟨_, _, d4⟩ := t.d4; obtain ⟨_, _, d5⟩ := t.d5; obtain ⟨_, _, d6⟩ := t.d6
  have GI : FD T P w K mg base "is_int" 1 1 (pIsInt C) := fd_mk d1 rfl (fun fd F => F.binds fun _ _ _ _ _ _ us hl => match us, hl with | [_], _ => rfl) fun fd F => ok_isInt F R
  have GN : FD T P w K mg base "is_number" 1 2 (pIsNum C) := fd_mk d2 rfl (fun fd F => F.binds fun _ _ _ _ _ _ us hl => match us, hl with | [_], _ => rfl) fun fd F => ok_isNum F R GI
  have GT : FD T P w K mg base "top_of" 1 1 (pTop C) := fd_mk d3 rfl (fun fd F => F.binds fun _ _ _ _ _ _ us hl => match us, hl with | [_], _ => rfl) fun fd F => ok_top F R
  have GB : FD T P w K mg base "bottom_of" 1 1 (pBot C) := fd_mk d4 rfl (fun fd F => F.binds fun _ _ _ _ _ _ us hl => match us, hl with | [_], _ => rfl) fun fd F => ok_bot F R
  have GL : FD T P w K mg base "less" 2 2 (pLess C) := fd_mk d5 rfl (fun fd F => F.binds fun _ _ _ _ _ _ us hl => match us, hl with | [_, _], _ => rfl) fun fd F => ok_less F GT GB
  have GP : FD T P w K mg base "plain" 1 1 (pPlain C) := fd_mk d6 rfl (fun fd F => F.binds fun _ _ _ _ _ _ us hl => match us, hl with | [_], _ => rfl) fun fd F => ok_plain F R
  have V : Env0 T P w K mg base C := ⟨R, M, GN, GT, GB⟩
  obtain ⟨_, _, m1⟩ := t.m1; obtain ⟨_, _, m2⟩ := t.m2; obtain ⟨_, _, m3⟩ := t.m3; obtain ⟨_, _, m4⟩ := t.m4; obtain ⟨_, _, m5⟩ := t.m5; obtain ⟨_, _, m6⟩ := t.m6; obtain ⟨_, _, m7⟩ := t.m7; obtain ⟨_, _, m8⟩ := t.m8; obtain ⟨_, _, m9⟩ := t.m9
  have o1 := own_mk (P := P) (w := w) (mg := mg) m1 rfl (fun fd F => F.binds fun _ _ _ _ _ _ us hl => match us, hl with | [_, _], _ => rfl) fun fd F => ok_add F V
  have o2 := own_mk (P := P) (w := w) (mg := mg) m2 rfl (fun fd F => F.binds fun _ _ _ _ _ _ us hl => match us, hl with | [_, _], _ => rfl) fun fd F => ok_radd F V
  have o3 := own_mk (P := P) (w := w) (mg := mg) m3 rfl (fun fd F => F.binds fun _ _ _ _ _ _ us hl => match us, hl with | [_, _], _ => rfl) fun fd F => ok_sub F V
  have o4 := own_mk (P := P) (w := w) (mg := mg) m4 rfl (fun fd F => F.binds fun _ _ _ _ _ _ us hl => match us, hl with | [_, _], _ => rfl) fun fd F => ok_rsub F V
  have o5 := own_mk (P := P) (w := w) (mg := mg) m5 rfl (fun fd F => F.binds fun _ _ _ _ _ _ us hl => match us, hl with | [_, _], _ => rfl) fun fd F => ok_mul F V
  have o6 := own_mk (P := P) (w := w) (mg := mg) m6 rfl (fun fd F => F.binds fun _ _ _ _ _ _ us hl => match us, hl with | [_, _], _ => rfl) fun fd F => ok_rmul F V
  have o7 := own_mk (P := P) (w := w) (mg := mg) m7 rfl (fun fd F => F.binds fun _ _ _ _ _ _ us hl => match us, hl with | [_], _ => rfl) fun fd F => ok_neg F V
  have o8 := own_mk (P := P) (w := w) (mg := mg) m8 rfl (fun fd F => F.binds fun _ _ _ _ _ _ us hl => match us, hl with | [_, _], _ => rfl) fun fd F => ok_over F V
  have o9 := own_mk (P := P) (w := w) (mg := mg) m9 rfl (fun fd F => F.binds fun _ _ _ _ _ _ us hl => match us, hl with | [_, _], _ => rfl) fun fd F => ok_eq F V
  have A1 : AddOp T P w K mg base C := ⟨⟨_, by rw [e_dA]; exact o1⟩, ⟨_, by rw [e_rA]; exact o2⟩, t.F.sf, by rw [e_dA]; exact t.F.iA, by rw [e_rA]; exact t.F.jA, t.F.s1, t.F.s2, ⟨_, _, PySem.F.slot_int_add, PySem.F.entry_int_add, PySem.F.args_int_add_2, FdS.int_add_inst, PySem.F.fills_int_add⟩, fun t b j => by simp [Int.add_comm], fun t b j => by simp⟩
  have A2 : SubOp T P w K mg base C := ⟨⟨_, by rw [e_dS]; exact o3⟩, ⟨_, by rw [e_rS]; exact o4⟩, t.F.sf, by rw [e_dS]; exact t.F.iS, by rw [e_rS]; exact t.F.jS, t.F.s1, t.F.s2, ⟨_, _, PySem.F.slot_int_sub, PySem.F.entry_int_sub, PySem.F.args_int_sub_2, FdS.int_sub_inst, PySem.F.fills_int_sub⟩, fun t b j => by simp, fun t b j => by simp⟩
  have A3 : MulOp T P w K mg base C := ⟨⟨_, by rw [e_dM]; exact o5⟩, ⟨_, by rw [e_rM]; exact o6⟩, t.F.sf, by rw [e_dM]; exact t.F.iM, by rw [e_rM]; exact t.F.jM, t.F.s1, t.F.s2, ⟨_, _, PySem.F.slot_int_mul, PySem.F.entry_int_mul, PySem.F.args_int_mul_2, FdS.int_mul_inst, PySem.F.fills_int_mul⟩, fun t b j => by simp, fun t b j => by simp⟩
  have Q : Eqs T P w K mg base C := ⟨⟨_, o9, t.F.ne, t.F.ob⟩, t.F.nT, t.F.nC, t.F.s2⟩
  obtain ⟨_, _, e1⟩ := t.e1; obtain ⟨_, _, e2⟩ := t.e2; obtain ⟨_, _, e3⟩ := t.e3; obtain ⟨_, _, e4⟩ := t.e4; obtain ⟨_, _, e5⟩ := t.e5; obtain ⟨_, _, e6⟩ := t.e6; obtain ⟨_, _, e7⟩ := t.e7; obtain ⟨_, _, e8⟩ := t.e8; obtain ⟨_, _, e9⟩ := t.e9; obtain ⟨_, _, g1⟩ := t.g1; obtain ⟨_, g2⟩ := t.g2
  have HC : FD T P w K mg base "_law_cell" 2 1 pCell := fd_mk e1 rfl (fun fd F => F.binds fun _ _ _ _ _ _ us hl => match us, hl with | [_, _], _ => rfl) fun fd F => ok_cell F t.B.len
  have HR : FD T P w K mg base "_law_row" 2 1 pRow := fd_mk e2 rfl (fun fd F => F.binds fun _ _ _ _ _ _ us hl => match us, hl with | [_, _], _ => rfl) fun fd F => ok_row F t.B.int t.B.range t.B.len
  have HS : FD T P w K mg base "_law_share" 2 1 pShare := fd_mk e3 rfl (fun fd F => F.binds fun _ _ _ _ _ _ us hl => match us, hl with | [_, _], _ => rfl) fun fd F => ok_share F t.B.abs t.B.int
  have HL : FD T P w K mg base "_law_low" 2 2 pLow := fd_mk e4 rfl (fun fd F => F.binds fun _ _ _ _ _ _ us hl => match us, hl with | [_, _], _ => rfl) fun fd F => ok_low F HS
  have HA : FD T P w K mg base "_law_add" 2 3 pLadd := fd_mk e5 rfl (fun fd F => F.binds fun _ _ _ _ _ _ us hl => match us, hl with | [_, _], _ => rfl) fun fd F => ok_ladd F HL
  have HM : FD T P w K mg base "_law_mul" 2 3 pLmul := fd_mk e6 rfl (fun fd F => F.binds fun _ _ _ _ _ _ us hl => match us, hl with | [_, _], _ => rfl) fun fd F => ok_lmul F HL
  have HD : FD T P w K mg base "_law_drawn" 2 2 pDrawn := fd_mk e7 rfl (fun fd F => F.binds fun _ _ _ _ _ _ us hl => match us, hl with | [_, _], _ => rfl) fun fd F => ok_drawn F t.B.int HR
  have HT : FD T P w K mg base "_law_right" 2 1 (pRight C) := fd_mk e8 rfl (fun fd F => F.binds fun _ _ _ _ _ _ us hl => match us, hl with | [_, _], _ => rfl) fun fd F => ok_right F R
  have HO : FD T P w K mg base "_law_ops" 4 4 (pOps C) := fd_mk g1 rfl (fun fd F => F.binds fun _ _ _ _ _ _ us hl => match us, hl with | [_, _, _, _], _ => rfl) fun fd F => ok_ops F A1 A2 A3 HA HM HT t.B.zip
  have LRz : LR K mg := by
    obtain ⟨fd, F, Z⟩ := e9.fn
    exact ⟨⟨_, fd, _, Z, e9.at_, F.binds fun _ _ _ _ _ _ us hl => match us, hl with | [_], _ => rfl⟩, t.B.zd, t.ez⟩
  have O : Ov T P w K mg base C := by
    obtain ⟨fd, F, Z⟩ := m8.fn
    exact ⟨⟨_, o8⟩, _, fd, ["self", "other"], m8.me, ok_overX Z V MX, F.binds fun _ _ _ _ _ _ us hl => match us, hl with | [_, _], _ => rfl⟩
  have HV : FD T P w K mg base "_law_over" 4 6 (pLover C) := by
    obtain ⟨fd, F, Z⟩ := g2.fn
    exact FD.mk g2.at_ F.kp (F.binds fun _ _ _ _ _ _ us hl => match us, hl with | [_, _, _, _], _ => rfl) rfl (ok_lover Z O R.ik.cl LRz MO HT HL)
  obtain ⟨ds, v1, b1⟩ := init_b1 I
  obtain ⟨g, gV, bk, eg⟩ := init_bk I
  exact ⟨V, A2, ⟨_, o7⟩, Q, HC, HD, HL, HT, HO, GL, HV, GP, ⟨fI, fdI, _, g, gV, R.mgR, I.mk', okI, bk, eg⟩, ⟨ds, v1, fI, fdI, _, R.mgR, I.mk', rfl, okI, b1⟩, MX, O, LRz, ML, t.B.int, t.B.any⟩
/-- what `walkT` asks -/
theorem all_mk {h : Heap} {fa : Addr} (t : Tp K mg C fI fdI cI cOver cLawA) (hfa : mg "law" = some (.ref fa)) (ne : POver ≠ PLaw) :
    ∃ fd : FuncData, (∀ (s : Shared) (u : Value), BindsTo s fd ⟨[u], []⟩ [("_law_script", u)]) ∧ ∀ base : Heap, (∀ p ∈ [(cOver, POver), (cLawA, PLaw)], LamX.TabB base mg p.1 p.2) → FnOk P w K mg base CX0 7 fa fd ["_law_script"] (spD [(POver, qO), (PLaw, qL)] K 1 pLaw) := by
  obtain ⟨f, g3⟩ := t.g3
  have e := hfa.symm.trans g3.at_
  cases e
  obtain ⟨fd, F, Z⟩ := g3.fn
  refine ⟨fd, fun s u => ?_, fun base hb => ok_law Z (all_le t (POver := POver) (PLaw := PLaw) ⟨hb (cOver, POver) (by simp), by simp, fun p hp e => ?_⟩ ⟨hb (cLawA, PLaw) (by simp), by simp, fun p hp e => ?_⟩)⟩
  · obtain ⟨oc, od, kV, doc, pm, an, cdv, ct, osl, rfl, _, _⟩ := F.ex
    exact .of_eq rfl
  · simp only [List.mem_cons, List.not_mem_nil, or_false] at hp
    rcases hp with rfl | rfl
    · rfl
    · exact absurd e.symm ne
  · simp only [List.mem_cons, List.not_mem_nil, or_false] at hp
    rcases hp with rfl | rfl
    · exact absurd e ne
    · rfl
theorem tys_all {p : String → Prop} (h1 : p "int") (h2 : p "bool") (h3 : p "str") (h4 : p "NoneType") (h5 : p "list") (h6 : p "tuple") : ∀ t, t ∈ tys → p t := fun t ht => by
  simp only [tys, List.mem_cons, List.not_mem_nil, or_false] at ht
  rcases ht with rfl | rfl | rfl | rfl | rfl | rfl <;> assumption
theorem fin {h : Heap} {fa : Addr} (t : Tp K mg C fI fdI cI cOver cLawA) (hfa : mg "law" = some (.ref fa)) (ne : POver ≠ PLaw) (t1 : h.get? POver = some { cls := .none, data := .fields #[] }) (t2 : h.get? PLaw = some { cls := .none, data := .fields #[] }) (k1 : K.lookup POver = none) (k2 : K.lookup PLaw = none)
    (c1 : PySem.W.CodeHd h cOver POver) (c2 : PySem.W.CodeHd h cLawA PLaw) :
    ∃ (fd : FuncData) (cs : List (Addr × Addr)) (T : List (Addr × Str)), (∀ p ∈ cs, h.get? p.2 = some { cls := .none, data := .fields #[] }) ∧ (∀ p ∈ cs, K.lookup p.2 = none) ∧ (∀ p ∈ cs, PySem.W.CodeHd h p.1 p.2) ∧ (∀ p ∈ T, p.1 ∈ cs.map (·.2)) ∧
      (∀ (s : Shared) (u : Value), BindsTo s fd ⟨[u], []⟩ [("_law_script", u)]) ∧ ∀ base : Heap, K.In base → base.Ns mainGlobals mg → (∀ p ∈ cs, LamX.TabB base mg p.1 p.2) → FnOk P w K mg base CX0 7 fa fd ["_law_script"] (spD T K 1 pLaw) := by
  obtain ⟨fd, h1, h2⟩ := all_mk (P := P) (w := w) (h := h) (POver := POver) (PLaw := PLaw) t hfa ne
  have two : ∀ {q : Addr × Addr → Prop}, q (cOver, POver) → q (cLawA, PLaw) → ∀ p ∈ [(cOver, POver), (cLawA, PLaw)], q p := fun a b p hp => by
    simp only [List.mem_cons, List.not_mem_nil, or_false] at hp
    rcases hp with rfl | rfl
    · exact a
    · exact b
  refine ⟨fd, [(cOver, POver), (cLawA, PLaw)], [(POver, qO), (PLaw, qL)], two t1 t2, two k1 k2, two c1 c2, fun p hp => ?_, h1, fun base _ _ hb => h2 base hb⟩
  simp only [List.mem_cons, List.not_mem_nil, or_false] at hp
  rcases hp with rfl | rfl <;> simp
end
end K02

set_option Elab.async false
set_option linter.all false
set_option maxRecDepth 100000
open PySem PySem.W PyProof.Rows
set_option maxRecDepth 100000 in
set_option maxHeartbeats 0 in
theorem PySem.Challenge.cw_everylist_k02_ratios_holds : PySem.Challenge.rw_everylist_k02_ratios.Holds := by
  w_on; o_law; k_head; (case hw => w_witness2)
  k_fill
  refine Fd.walkT (l := PySem.Challenge.rw_everylist_k02_ratios) (x := "_law_script") 7 ⟨rfl, by decide, by decide⟩ rfl rfl (fun w h Y => PySem.W.km_in_of Y) ?F
  case F =>
    intro w mg fa h Y KX G hmg
    have hT := PySem.W.km_tabs_of Y
    refine' K02.fin (POver := 246) (PLaw := 253) (K02.Tp.mk ?R ?gcd ?I ?F ?B ?ez ?m1 ?m2 ?m3 ?m4 ?m5 ?m6 ?m7 ?m8 ?m9 ?d1 ?d2 ?d3 ?d4 ?d5 ?d6 ?e1 ?e2 ?e3 ?e4 ?e5 ?e6 ?e7 ?e8 ?e9 ?g1 ?g2 ?g3) hmg ?ne ?t1 ?t2 ?k1 ?k2 ?c1 ?c2
    (case R => refine' ⟨PySem.W.mg_of KX G ?mgR, ⟨⟨?pg, ?hd, ?po, ?sa⟩, ?ca, ?gd, ?tk, ?ob⟩, ?nt, ?nb, ?kI, ?kB, K02.tys_all ?kO1 ?kO2 ?kO3 ?kO4 ?kO5 ?kO6, ?kR, PySem.W.mg_none_of KX G ?bIs, PySem.W.mg_none_of KX G ?bInt, PySem.W.mg_none_of KX G ?bBool⟩; (case mgR => k_is); (case pg => k_is); (case hd => k_is); (case po => k_is); (case sa => k_is); (case ca => k_is); (case gd => k_is); (case tk => k_is); (case ob => k_is); (case nt => unfold L2.NoAttr; k_is); (case nb => unfold L2.NoAttr; k_is); (case kI => kernel_rfl); (case kB => kernel_rfl); (case kO1 => kernel_rfl); (case kO2 => kernel_rfl); (case kO3 => kernel_rfl); (case kO4 => kernel_rfl); (case kO5 => kernel_rfl); (case kO6 => kernel_rfl); (case kR => kernel_rfl); (case bIs => k_is); (case bInt => k_is); (case bBool => k_is))
    (case gcd => refine' PySem.W.mg_of KX G ?_; k_is)
    (case I => refine' Fd.iz_mk ?i1 ?i2 ?i3 ?i4 ?i5 ?i6 ?i7 ?i8 ?i9; (case i1 => k_is); (case i2 => k_is); (case i3 => k_is); (case i4 => k_is); (case i5 => k_is); (case i6 => k_is); (case i7 => k_is); (case i8 => k_is); (case i9 => exact ⟨_, rfl⟩))
    (case F => refine' K02.opF_mk ?sf ?s1 ?s2 ?fne ?fob (K02.tys_all ?nT1 ?nT2 ?nT3 ?nT4 ?nT5 ?nT6) ?nC; (case sf => k_is); (case s1 => k_is); (case s2 => k_is); (case fne => k_is); (case fob => k_is); (case nT1 => k_is); (case nT2 => k_is); (case nT3 => k_is); (case nT4 => k_is); (case nT5 => k_is); (case nT6 => k_is); (case nC => k_is))
    (case B => refine' ⟨PySem.W.mg_none_of KX G ?z_len, PySem.W.mg_none_of KX G ?z_abs, PySem.W.mg_none_of KX G ?z_int, PySem.W.mg_none_of KX G ?z_range, PySem.W.mg_none_of KX G ?z_zip, PySem.W.mg_none_of KX G ?z_any, PySem.W.mg_none_of KX G ?z_zd⟩; (case z_len => k_is); (case z_abs => k_is); (case z_int => k_is); (case z_range => k_is); (case z_zip => k_is); (case z_any => k_is); (case z_zd => k_is))
    (case ez => kernel_rfl)
    (case m1 => refine' ⟨_, _, Fd.mz_mk ?a_m1 ?b_m1 ?l_m1 ?c_m1 ?k_m1⟩; (case a_m1 => k_is); (case b_m1 => k_is); (case l_m1 => k_is); (case c_m1 => k_is); (case k_m1 => k_is))
    (case m2 => refine' ⟨_, _, Fd.mz_mk ?a_m2 ?b_m2 ?l_m2 ?c_m2 ?k_m2⟩; (case a_m2 => k_is); (case b_m2 => k_is); (case l_m2 => k_is); (case c_m2 => k_is); (case k_m2 => k_is))
    (case m3 => refine' ⟨_, _, Fd.mz_mk ?a_m3 ?b_m3 ?l_m3 ?c_m3 ?k_m3⟩; (case a_m3 => k_is); (case b_m3 => k_is); (case l_m3 => k_is); (case c_m3 => k_is); (case k_m3 => k_is))
    (case m4 => refine' ⟨_, _, Fd.mz_mk ?a_m4 ?b_m4 ?l_m4 ?c_m4 ?k_m4⟩; (case a_m4 => k_is); (case b_m4 => k_is); (case l_m4 => k_is); (case c_m4 => k_is); (case k_m4 => k_is))
    (case m5 => refine' ⟨_, _, Fd.mz_mk ?a_m5 ?b_m5 ?l_m5 ?c_m5 ?k_m5⟩; (case a_m5 => k_is); (case b_m5 => k_is); (case l_m5 => k_is); (case c_m5 => k_is); (case k_m5 => k_is))
    (case m6 => refine' ⟨_, _, Fd.mz_mk ?a_m6 ?b_m6 ?l_m6 ?c_m6 ?k_m6⟩; (case a_m6 => k_is); (case b_m6 => k_is); (case l_m6 => k_is); (case c_m6 => k_is); (case k_m6 => k_is))
    (case m7 => refine' ⟨_, _, Fd.mz_mk ?a_m7 ?b_m7 ?l_m7 ?c_m7 ?k_m7⟩; (case a_m7 => k_is); (case b_m7 => k_is); (case l_m7 => k_is); (case c_m7 => k_is); (case k_m7 => k_is))
    (case m8 => refine' ⟨_, _, Fd.mz_mk ?a_m8 ?b_m8 ?l_m8 ?c_m8 ?k_m8⟩; (case a_m8 => k_is); (case b_m8 => k_is); (case l_m8 => k_is); (case c_m8 => k_is); (case k_m8 => k_is))
    (case m9 => refine' ⟨_, _, Fd.mz_mk ?a_m9 ?b_m9 ?l_m9 ?c_m9 ?k_m9⟩; (case a_m9 => k_is); (case b_m9 => k_is); (case l_m9 => k_is); (case c_m9 => k_is); (case k_m9 => k_is))
    (case d1 => refine' ⟨_, _, Fd.dz_mk KX G ?a_d1 ?l_d1 ?c_d1 ?k_d1⟩; (case a_d1 => k_is); (case l_d1 => k_is); (case c_d1 => k_is); (case k_d1 => k_is))
    (case d2 => refine' ⟨_, _, Fd.dz_mk KX G ?a_d2 ?l_d2 ?c_d2 ?k_d2⟩; (case a_d2 => k_is); (case l_d2 => k_is); (case c_d2 => k_is); (case k_d2 => k_is))
    (case d3 => refine' ⟨_, _, Fd.dz_mk KX G ?a_d3 ?l_d3 ?c_d3 ?k_d3⟩; (case a_d3 => k_is); (case l_d3 => k_is); (case c_d3 => k_is); (case k_d3 => k_is))
    (case d4 => refine' ⟨_, _, Fd.dz_mk KX G ?a_d4 ?l_d4 ?c_d4 ?k_d4⟩; (case a_d4 => k_is); (case l_d4 => k_is); (case c_d4 => k_is); (case k_d4 => k_is))
    (case d5 => refine' ⟨_, _, Fd.dz_mk KX G ?a_d5 ?l_d5 ?c_d5 ?k_d5⟩; (case a_d5 => k_is); (case l_d5 => k_is); (case c_d5 => k_is); (case k_d5 => k_is))
    (case d6 => refine' ⟨_, _, Fd.dz_mk KX G ?a_d6 ?l_d6 ?c_d6 ?k_d6⟩; (case a_d6 => k_is); (case l_d6 => k_is); (case c_d6 => k_is); (case k_d6 => k_is))
    (case e1 => refine' ⟨_, _, Fd.dz_mk KX G ?a_e1 ?l_e1 ?c_e1 ?k_e1⟩; (case a_e1 => k_is); (case l_e1 => k_is); (case c_e1 => k_is); (case k_e1 => k_is))
    (case e2 => refine' ⟨_, _, Fd.dz_mk KX G ?a_e2 ?l_e2 ?c_e2 ?k_e2⟩; (case a_e2 => k_is); (case l_e2 => k_is); (case c_e2 => k_is); (case k_e2 => k_is))
    (case e3 => refine' ⟨_, _, Fd.dz_mk KX G ?a_e3 ?l_e3 ?c_e3 ?k_e3⟩; (case a_e3 => k_is); (case l_e3 => k_is); (case c_e3 => k_is); (case k_e3 => k_is))
    (case e4 => refine' ⟨_, _, Fd.dz_mk KX G ?a_e4 ?l_e4 ?c_e4 ?k_e4⟩; (case a_e4 => k_is); (case l_e4 => k_is); (case c_e4 => k_is); (case k_e4 => k_is))
    (case e5 => refine' ⟨_, _, Fd.dz_mk KX G ?a_e5 ?l_e5 ?c_e5 ?k_e5⟩; (case a_e5 => k_is); (case l_e5 => k_is); (case c_e5 => k_is); (case k_e5 => k_is))
    (case e6 => refine' ⟨_, _, Fd.dz_mk KX G ?a_e6 ?l_e6 ?c_e6 ?k_e6⟩; (case a_e6 => k_is); (case l_e6 => k_is); (case c_e6 => k_is); (case k_e6 => k_is))
    (case e7 => refine' ⟨_, _, Fd.dz_mk KX G ?a_e7 ?l_e7 ?c_e7 ?k_e7⟩; (case a_e7 => k_is); (case l_e7 => k_is); (case c_e7 => k_is); (case k_e7 => k_is))
    (case e8 => refine' ⟨_, _, Fd.dz_mk KX G ?a_e8 ?l_e8 ?c_e8 ?k_e8⟩; (case a_e8 => k_is); (case l_e8 => k_is); (case c_e8 => k_is); (case k_e8 => k_is))
    (case e9 => refine' ⟨_, _, Fd.dz_mk KX G ?a_e9 ?l_e9 ?c_e9 ?k_e9⟩; (case a_e9 => k_is); (case l_e9 => k_is); (case c_e9 => k_is); (case k_e9 => k_is))
    (case g1 => refine' ⟨_, _, Fd.dz_mk KX G ?a_g1 ?l_g1 ?c_g1 ?k_g1⟩; (case a_g1 => k_is); (case l_g1 => k_is); (case c_g1 => k_is); (case k_g1 => k_is))
    (case g2 => refine' ⟨_, Fd.dz_mk KX G ?a_g2 ?l_g2 ?c_g2 ?k_g2⟩; (case a_g2 => k_is); (case l_g2 => k_is); (case c_g2 => k_is); (case k_g2 => k_is))
    (case g3 => refine' ⟨_, Fd.dz_mk KX G ?a_g3 ?l_g3 ?c_g3 ?k_g3⟩; (case a_g3 => k_is); (case l_g3 => k_is); (case c_g3 => k_is); (case k_g3 => k_is))
    (case ne => decide)
    (case t1 => exact hT 246 (by decide))
    (case t2 => exact hT 253 (by decide))
    (case k1 => kernel_rfl)
    (case k2 => kernel_rfl)
    (case c1 => exact PySem.W.codeHd_of_K KX (by kernel_rfl))
    (case c2 => exact PySem.W.codeHd_of_K KX (by kernel_rfl))
