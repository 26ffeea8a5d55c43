import PyProof.Rows.All
import Wide.All
import OpenK.AllK
import Wide.FinOn
import PyProof.EqAt
import PyProof.EqKinds
import PyProof.TupleCall
import HandS.ForMost
import HandS.ForExc
import HandS.OwnEq
import HandS.ExcInit
import KE.KExcSuper
import HandS.IsInst
import HandS.Wide
import HandS.Gcd
import KE.KOpsOwn
import PyProof.InstNe
import KE.KExcIs
import HandS.SetFor
import PySem.Challenge.RW_everylist_k01_errors
import KE.RegKSuper
set_option Elab.async false
set_option linter.all false
set_option maxRecDepth 100000
set_option maxHeartbeats 4000000
/-! ExS: own exceptions over ValueError whose __init__ says super().__init__(text), and perhaps self.f = what it was given. -/
namespace PySem
namespace ExS
open PySem.W PySem.Calls PyProof.Rows PySem.HandSPX
/-! ### the text of __init__ -/
def iA0 (p1 : Pos) : Arguments := { posonlyargs := [], args := [{ arg := "self", annotation := none, pos := p1 }], vararg := none, kwonlyargs := [], kw_defaults := [], kwarg := none, defaults := [] }
def iA (y : Str) (p1 p2 : Pos) : Arguments := { posonlyargs := [], args := [{ arg := "self", annotation := none, pos := p1 }, { arg := y, annotation := none, pos := p2 }], vararg := none, kwonlyargs := [], kw_defaults := [], kwarg := none, defaults := [] }
/-- what a method call asks, beside: whether its object's name was imported -/
def plS (q1 q2 : Pos) (env : Env) : Sem Bool := do return (← importBound (.Call (.Name "super" q1) [] [] q2) env).getD true
def supS (tx : Str) (j : Nat) (q1 q2 q3 q4 q5 q6 : Pos) : Stmt := .Expr (.Call (.Attribute (.Call (.Name "super" q1) [] [] q2) "__init__" q3) [.Constant (.str tx) j q4] [] q5) q6
def atS (f y : Str) (q7 q8 q9 qa : Pos) : Stmt := .Assign [.Attribute (.Name "self" q7) f q8] (.Name y q9) qa
def iS0 : Scope := { kind := .function, names := [(PySem.Str.ofString "self", .local), (PySem.Str.ofString "__class__", .free), (PySem.Str.ofString "super", .globalImplicit)], isGenerator := false, isCoroutine := false, more := [] }
def iS (y : Str) : Scope := { kind := .function, names := [(PySem.Str.ofString "self", .local), (y, .local), (PySem.Str.ofString "__class__", .free), (PySem.Str.ofString "super", .globalImplicit)], isGenerator := false, isCoroutine := false, more := [] }
/-- what the written part says of a class of exceptions -/
structure ExCls (prog : Program) (K : Frag) (mg : Str → Option Value) (C fI cc cda : Addr) : Prop where
  cls : ∃ nm q N bs bm sn sub ab col dd k0 k1 k2 k3 k5, K.lookup C = some (excClassObj nm q C N bs bm true sn sub ab col dd k0 k1 k2 k3 k5 "ValueError.__new__") ∧ refsVE bm = true
  sa : findIn K (.ref C) "__setattr__" = some (some (.builtin "object.__setattr__"))
  ga : findIn K (.ref C) "__getattribute__" = some (some (.builtin "BaseException.__getattribute__"))
  gg : findIn K (.ref C) "__getattr__" = some none
  iC : findIn K (.ref C) "__init__" = some (some (.ref fI))
  tC : typeIn K (.ref fI) = some (.type "function")
  kC : keepIn K (.ref C) = true
  exC : subIn K (.ref C) (.type "BaseException") = some true
  veC : subIn K (.ref C) (.type "ValueError") = some true
  seC : mroIn K C (.ref C) = some true
  tyC : typeIn K (.ref C) = some (.type "type")
  hdC : hasDictIn K C = true
  cell : ∃ cl cld csl, K.lookup cc = some ⟨cl, cld, .cell (some (.ref C)), csl⟩
  code : ∃ ccl cdd vs ccs file tf, K.lookup cda = some ⟨ccl, cdd, .fields vs, ccs⟩ ∧ vs[2]? = some (.str file tf) ∧ ((prog.main.file : Str) == file) = true
  sup : ks_superIn K C C "__init__" = some (some (.builtin "ValueError.__init__"))
  opq : nsIn K cStatics "thirdparty.any" = some none
  mgs : mg "super" = none
  top : (prog.main.scope.names.lookup ("super" : Str)).isSome = false
section
variable {prog : Program} {w : World} {A : Around} {E : Value → Shared → Prop} {R : Result → Shared → Prop} {s : Shared} {K : Frag} {mg : Str → Option Value} {C fI cc cda : Addr}
theorem call_ve {u e t0 : Addr} {rest : List Value} {nm q : Str} {N : Addr} {bs bm : List Value} {hdct : Bool} {sn : List Str} {sub : List Value} {ab : Bool} {col : Option Bool} {dd : Option Addr} {k0 k1 k2 k3 k5 : Option Value} {h : Heap} {g : Array GenState} {d : Drawn} {t : Nat} {os : OsState} {Q : Value → Shared → Prop}
    (hC : h.get? C = some (excClassObj nm q C N bs bm hdct sn sub ab col dd k0 k1 k2 k3 k5 "ValueError.__new__")) (he : h.get? e = some (excO C t0)) (hu : h.get? u = some (kxs_mw "ValueError.__init__" e)) (hrest : rest.length ≤ sizeLine)
    (hq : ∀ h' t1, (∀ b o, b ≠ e → h.get? b = some o → h'.get? b = some o) → h'.get? e = some (excO C t1) → Q .none ⟨h', g, d, t, os⟩) :
    wpAny (model prog w) A (call (.ref u) rest) Q E ⟨h, g, d, t, os⟩ := by
  refine wpAny_call (codeAny_of_tree ?_)
  show wpAny _ A.in1 (callAny (.ref u) ⟨rest, []⟩) _ _ _
  simp only [callAny]
  refine wpAny_bind (wpAny_load hu ?_)
  simp only [kxs_mw, show (Value.type "method-wrapper" == Value.type "method" || Value.type "method-wrapper" == Value.type "builtin_function_or_method" || Value.type "method-wrapper" == Value.type "method-wrapper") = true by decide, if_true]
  refine KFB.if_so (by decide) ?_
  refine wpAny_bind (check_bound_init F.excBase_ValueError.toExcCallFacts hC he rfl ?_)
  refine wpAny_bind (wpAny_pure (wpAny_pure ?_))
  refine ⟨plainId_quiet F.excBase_ValueError.init.plain _, codeAny_builtin F.excBase_ValueError.initEntry ?_⟩
  exact exc_init_tree (cls := .ref C) (t0 := t0) (dv := none) (c2 := .none) (c3 := .none) (b4 := .bool false) he hrest fun h' k e' _ => hq h' _ k e'
/-- super().__init__(tx) in the __init__ that runs over x -/
theorem sup_stmt {tx : Str} {j : Nat} {q1 q2 q3 q4 q5 q6 : Pos} {body : List Stmt} {sc : Scope} {qual : Str} {L x t0 : Addr} {m mb : Str → Option Value} {fd : FuncData} {ar : Arg} {oc : Value} {od : Option Addr} {osl : Array (Option Value)} {Q : Flow → Shared → Prop} (T : ExCls prog K mg C fI cc cda) (X : K.In s.heap)
    (hg : s.heap.Ns mainGlobals mg) (hb : s.heap.Ns builtinsNs mb) (hbt : mb "super" = bootBuiltins "super") (hx : s.heap.get? x = some (excO C t0)) (hns : s.heap.Ns L m) (hv : m "self" = some (.ref x)) (hxL : x ≠ L)
    (hf : K.lookup fI = some ⟨oc, od, .func fd, osl⟩) (hp : (fd.params.posonlyargs ++ fd.params.args).head? = some ar) (har : ar.arg = ("self" : Str)) (hk : sc.kind = .function) (hs1 : sc.names.lookup ("super" : Str) = some .globalImplicit) (hs2 : sc.names.lookup ("__class__" : Str) = some .free) (hs3 : sc.names.lookup ("self" : Str) = some .local)
    (hsw : swapsWith (.Call (.Attribute (.Call (.Name "super" q1) [] [] q2) "__init__" q3) [.Constant (.str tx) j q4] [] q5) none q6.line (ksEnv qual sc L fI (.ref cda) cc) = pure false)
    (hev : eval (.Call (.Attribute (.Call (.Name "super" q1) [] [] q2) "__init__" q3) [.Constant (.str tx) j q4] [] q5) (ksEnv qual sc L fI (.ref cda) cc) = (do
      let ov ← attributeBase (.Call (.Name "super" q1) [] [] q2) "__init__" (ksEnv qual sc L fI (.ref cda) cc) (eval (.Call (.Name "super" q1) [] [] q2) (ksEnv qual sc L fI (.ref cda) cc))
      standAt q3.atName
      let (f, first) ← holding [ov] (getMethod ov "__init__" (plS q1 q2 (ksEnv qual sc L fI (.ref cda) cc)))
      callWith q5 f first (backTo q5 (starEach [.Constant (.str tx) j q4] (ksEnv qual sc L fI (.ref cda) cc))) []))
    (hq : ∀ h' tk t1, (∀ b o, b ≠ x → s.heap.get? b = some o → h'.get? b = some o) → h'.get? x = some (excO C t1) → s.heap.objs.size ≤ h'.objs.size → Q .next { s with heap := h', toks := tk }) :
    _root_.PySem.wpAt (model prog w) A (.func body (ksEnv qual sc L fI (.ref cda) cc)) (exec (supS tx j q1 q2 q3 q4 q5 q6) (ksEnv qual sc L fI (.ref cda) cc)) Q E s := by
  obtain ⟨nm, q, N, bs, bm, sn, sub, ab, col, dd, k0, k1, k2, k3, k5, hC, hbm⟩ := T.cls
  obtain ⟨cl, cld, csl, hcell⟩ := T.cell
  obtain ⟨ccl, cdd, vs, ccs, file, tf, hcode, hvs, hfile⟩ := T.code
  have hcl : clsIn K C = some { name := nm, bases := bs, mro := .ref C :: bm, ns := N, qualname := q, hasDict := true, slotNames := sn, subclasses := sub, abstract := ab, collection := col, hasDel := false } := by unfold clsIn; rw [hC] <;> rfl
  have I0 : InstAt s.heap x (excO C t0) C none := ⟨hx, rfl, rfl, trivial⟩
  have hxC : x ≠ C := ks_ne X I0 hcl
  obtain ⟨hh, g, d, t, os⟩ := s
  have hD1 : hh.get? C = some (excClassObj nm q C N bs bm true sn sub ab col dd k0 k1 k2 k3 k5 "ValueError.__new__") := X _ _ hC
  refine ks_wpAt_Expr_any (ks_wpAt_MethodCall ?_ hev) (by simp [interactive, hk]) hsw
  refine ks_wpAt_super_base (env := ksEnv qual sc L fI (.ref cda) cc) hs1 hs2 (by decide +kernel) rfl (X _ _ hf) rfl hp rfl (X _ _ hcode) rfl hvs hfile T.top ?_
  refine ks_loadName_global hk hs1 (loadGlobal_builtin (env := ksEnv qual sc L fI (.ref cda) cc) hg T.mgs hb (hbt.trans (by decide +kernel)) ⟨rfl, ?_⟩)
  refine wpAny_loadName_free hk hs2 rfl ⟨_, X _ _ hcell, rfl⟩ ?_
  rw [har]
  refine wpAny_loadName_local hk hs3 hns hv ?_
  refine ks_wpAny_isType_cls hD1 rfl ⟨rfl, ?_⟩
  refine ks_wpAny_call_super hD1 rfl hx rfl (fun c e => by cases e) (looks_mroIn X T.seC) (fun h1 e1 u1 => ?_)
  have X1 : K.In h1 := X.keeps u1
  have hx1 := u1 _ _ hx
  have I1 : InstAt h1 x (excO C t0) C none := ⟨hx1, rfl, rfl, trivial⟩
  have hI : Looks (model prog w) h1 (isInstance (.ref x) (.type "ValueError")) true := I1.type.andThen (looks_subIn X1 T.veC)
  have hsup := T.sup
  unfold ks_superIn at hsup
  rw [hcl] at hsup
  refine kxs_getMethod kxs_ValueError e1 (looks_opaque X1 T.opq) (l₀ := .ref C :: bm) ?_ rfl X1 hsup hI hxC (by decide +kernel) ?_
  · exact fun A Q E s k q => wpAny_bind ((looks_clsIn X1 hcl) A _ E s k (wpAny_pure q))
  have u2 : ∀ b o, h1.get? b = some o → (h1.push (kxs_mw "ValueError.__init__" x)).get? b = some o := fun b o e => Heap.get?_push_of_some _ e
  have hmw : (h1.push (kxs_mw "ValueError.__init__" x)).get? h1.objs.size = some (kxs_mw "ValueError.__init__" x) := Heap.get?_push_size _ rfl
  show wpAny _ _ (callWith q5 (.ref h1.objs.size) [] (backTo q5 (starEach [.Constant (.str tx) j q4] _)) []) _ _ _
  refine kxs_callWith (i := "ValueError.__init__") (x := x) (by rfl) ?_
  refine evalArgs_plain ?_
  show wpAny _ _ (spliced ((false, eval (.Constant (.str tx) j q4) _) :: backTo q5 (starEach [] _))) _ _ _
  refine spliced_cons (Constant_str ?_)
  refine spliced_nil ?_
  refine ⟨hmw, ?_⟩
  refine call_ve (u2 _ _ (X1 _ _ hC)) (u2 _ _ hx1) hmw (by show 1 ≤ sizeLine; rw [sizeLine_eq]; decide) fun h' t1 k' hx' => ?_
  have keep : ∀ b o, b ≠ x → hh.get? b = some o → h'.get? b = some o := fun b o hb e => k' b o hb (u2 _ _ (u1 _ _ e))
  have z1 : hh.objs.size < h1.objs.size := Heap.lt_size e1
  have z2 : h1.objs.size ≠ x := fun z => by
    have := Heap.lt_size hx
    rw [← z] at this
    exact Nat.lt_irrefl _ (Nat.lt_trans this z1)
  exact hq h' _ t1 keep hx' (Nat.le_of_lt (Nat.lt_trans z1 (Heap.lt_size (k' _ _ z2 hmw))))
/-- what __init__ leaves of a fresh exception at x, where it stores f -/
structure InitEnd (h h' : Heap) (x C dx t1 : Addr) (f : Str) (v : Value) : Prop where
  keep : ∀ b o, b ≠ x → h.get? b = some o → h'.get? b = some o
  obj : h'.get? x = some { cls := .ref C, dict := some dx, data := .fields #[.ref t1, .none, .none, .none, .bool false, .none] }
  dbig : h.objs.size ≤ dx
  dne : dx ≠ x
  ns : h'.Ns1 dx (fun y => if y = f then some v else none)
/-- the __init__ of a class that stores f -/
structure ExFn1 (K : Frag) (C fI cc cda : Addr) (f y : Str) : Prop where
  fn : ∃ (qual tx : Str) (j : Nat) (oc : Value) (od : Option Addr) (doc pm : Value) (an : Option Addr) (ct : Value) (osl : Array (Option Value)) (p1 p2 q1 q2 q3 q4 q5 q6 q7 q8 q9 qa : Pos),
    K.lookup fI = some ⟨oc, od, .func (ksFn "__init__" qual (iA y p1 p2) [supS tx j q1 q2 q3 q4 q5 q6, atS f y q7 q8 q9 qa] (iS y) .none .none doc pm an (.ref cda) ct cc), osl⟩ ∧ codeIn K (.ref cda) qual = true ∧
    (∀ L, swapsWith (.Call (.Attribute (.Call (.Name "super" q1) [] [] q2) "__init__" q3) [.Constant (.str tx) j q4] [] q5) none q6.line (ksEnv qual (iS y) L fI (.ref cda) cc) = pure false) ∧
    (∀ L, eval (.Call (.Attribute (.Call (.Name "super" q1) [] [] q2) "__init__" q3) [.Constant (.str tx) j q4] [] q5) (ksEnv qual (iS y) L fI (.ref cda) cc) = (do
      let ov ← attributeBase (.Call (.Name "super" q1) [] [] q2) "__init__" (ksEnv qual (iS y) L fI (.ref cda) cc) (eval (.Call (.Name "super" q1) [] [] q2) (ksEnv qual (iS y) L fI (.ref cda) cc))
      standAt q3.atName
      let (f, first) ← holding [ov] (getMethod ov "__init__" (plS q1 q2 (ksEnv qual (iS y) L fI (.ref cda) cc)))
      callWith q5 f first (backTo q5 (starEach [.Constant (.str tx) j q4] (ksEnv qual (iS y) L fI (.ref cda) cc))) [])) ∧
    (∀ L, swapsWith (.Name y q9) (some (.Attribute (.Name "self" q7) f q8)) qa.line (ksEnv qual (iS y) L fI (.ref cda) cc) = pure false)
  noN : findIn K (.ref C) f = some none
  ys : (("self" : Str) == y) = false
  yd : (y == ("__debug__" : Str)) = false
  nc : ∀ x ∈ (iS y).names, x.2 ≠ .cell
  l1 : (iS y).names.lookup ("self" : Str) = some .local
  l2 : (iS y).names.lookup y = some .local
  l3 : (iS y).names.lookup ("super" : Str) = some .globalImplicit
  l4 : (iS y).names.lookup ("__class__" : Str) = some .free
  bd : ∀ (qual : Str) (body : List Stmt) (doc pm : Value) (an : Option Addr) (cv ct : Value) (p1 p2 : Pos) (x : Addr) (v : Value), bindArgs (ksFn "__init__" qual (iA y p1 p2) body (iS y) .none .none doc pm an cv ct cc) ⟨[.ref x, v], []⟩ = pure [(("self" : Str), Value.ref x), (y, v)]
structure ExFn0 (K : Frag) (fI cc cda : Addr) : Prop where
  fn : ∃ (qual tx : Str) (j : Nat) (oc : Value) (od : Option Addr) (doc pm : Value) (an : Option Addr) (ct : Value) (osl : Array (Option Value)) (p1 q1 q2 q3 q4 q5 q6 : Pos),
    K.lookup fI = some ⟨oc, od, .func (ksFn "__init__" qual (iA0 p1) [supS tx j q1 q2 q3 q4 q5 q6] iS0 .none .none doc pm an (.ref cda) ct cc), osl⟩ ∧ codeIn K (.ref cda) qual = true ∧
    (∀ L, swapsWith (.Call (.Attribute (.Call (.Name "super" q1) [] [] q2) "__init__" q3) [.Constant (.str tx) j q4] [] q5) none q6.line (ksEnv qual iS0 L fI (.ref cda) cc) = pure false) ∧
    (∀ L, eval (.Call (.Attribute (.Call (.Name "super" q1) [] [] q2) "__init__" q3) [.Constant (.str tx) j q4] [] q5) (ksEnv qual iS0 L fI (.ref cda) cc) = (do
      let ov ← attributeBase (.Call (.Name "super" q1) [] [] q2) "__init__" (ksEnv qual iS0 L fI (.ref cda) cc) (eval (.Call (.Name "super" q1) [] [] q2) (ksEnv qual iS0 L fI (.ref cda) cc))
      standAt q3.atName
      let (f, first) ← holding [ov] (getMethod ov "__init__" (plS q1 q2 (ksEnv qual iS0 L fI (.ref cda) cc)))
      callWith q5 f first (backTo q5 (starEach [.Constant (.str tx) j q4] (ksEnv qual iS0 L fI (.ref cda) cc))) []))
theorem init0 (T : ExCls prog K mg C fI cc cda) (Fn : ExFn0 K fI cc cda) {x t0 : Addr} {mb : Str → Option Value} (X : K.In s.heap) (hlim : s.heap.NoLimit) (hg : s.heap.Ns mainGlobals mg) (hb : s.heap.Ns builtinsNs mb) (hbt : mb "super" = bootBuiltins "super") (hx : s.heap.get? x = some (excO C t0)) (hroom : A.depth < recursionLimit)
    (hq : ∀ h' tk t1, (∀ b o, b ≠ x → s.heap.get? b = some o → h'.get? b = some o) → h'.get? x = some (excO C t1) → s.heap.objs.size ≤ h'.objs.size → R (.ok (.ret .none)) { s with heap := h', toks := tk }) :
    codeAny (model prog w) A (.call (.ref fI) ⟨[.ref x], []⟩) R s := by
  obtain ⟨qual, tx, j, oc, od, doc, pm, an, ct, osl, p1, q1, q2, q3, q4, q5, q6, ho, hcd, hsw, hev⟩ := Fn.fn
  have c0 : ∀ x ∈ iS0.names, x.2 ≠ .cell := by decide +kernel
  have l0 : iS0.names.lookup ("self" : Str) = some .local := by decide +kernel
  have l1 : iS0.names.lookup ("super" : Str) = some .globalImplicit := by decide +kernel
  have l2 : iS0.names.lookup ("__class__" : Str) = some .free := by decide +kernel
  have m0 : ([(("self" : Str), Value.ref x)].reverse.lookup ("self" : Str)) = some (.ref x) := by simp [List.lookup]
  refine ks_codeAny_call_defAt (fd := ksFn "__init__" qual (iA0 p1) [supS tx j q1 q2 q3 q4 q5 q6] iS0 .none .none doc pm an (.ref cda) ct cc) (body := [supS tx j q1 q2 q3 q4 q5 q6]) (binds := [("self", .ref x)]) hroom (X _ _ ho) rfl hlim (codeRec_of X hcd) rfl (BindsTo.of_eq (by first | rfl | with_unfolding_all rfl)) c0 (by
    intro y hy
    simp at hy
    subst hy
    exact l0) (fun h₁ hns hk₁ => ?_)
  have hxL : x ≠ s.heap.objs.size := Nat.ne_of_lt (Heap.lt_size hx)
  have hsz : s.heap.objs.size < h₁.objs.size := hns.lt
  refine ks_wpAt_execs_cons ?_
  refine sup_stmt (m := fun z => [(("self" : Str), Value.ref x)].reverse.lookup z) (L := s.heap.objs.size) T (X.keeps hk₁) (hg.keeps hk₁) (hb.keeps hk₁) hbt (hk₁ _ _ hx) hns m0 hxL ho rfl rfl rfl l1 l2 l0 (hsw _) (hev _) fun h' tk t1 k hx' z => ?_
  refine wpAt_of_wpAny (wpAny_execs_nil ?_)
  exact hq h' tk t1 (fun b o hb e => k b o hb (hk₁ b o e)) hx' (Nat.le_of_lt (Nat.lt_of_lt_of_le hsz z))
theorem init1 {f y : Str} (T : ExCls prog K mg C fI cc cda) (Fn : ExFn1 K C fI cc cda f y) {x t0 : Addr} {v : Value} {mb : Str → Option Value} (X : K.In s.heap) (hlim : s.heap.NoLimit) (hg : s.heap.Ns mainGlobals mg) (hb : s.heap.Ns builtinsNs mb) (hbt : mb "super" = bootBuiltins "super") (hx : s.heap.get? x = some (excO C t0)) (hlk : K.lookup x = none) (hroom : A.depth < recursionLimit)
    (hq : ∀ h' tk dx t1, InitEnd s.heap h' x C dx t1 f v → R (.ok (.ret .none)) { s with heap := h', toks := tk }) :
    codeAny (model prog w) A (.call (.ref fI) ⟨[.ref x, v], []⟩) R s := by
  obtain ⟨qual, tx, j, oc, od, doc, pm, an, ct, osl, p1, p2, q1, q2, q3, q4, q5, q6, q7, q8, q9, qa, ho, hcd, hsw, hev, hsw2⟩ := Fn.fn
  obtain ⟨nm, q, N, bs, bm, sn, sub, ab, col, dd, k0, k1, k2, k3, k5, hC, hbm⟩ := T.cls
  have hcl : clsIn K C = some { name := nm, bases := bs, mro := .ref C :: bm, ns := N, qualname := q, hasDict := true, slotNames := sn, subclasses := sub, abstract := ab, collection := col, hasDel := false } := by unfold clsIn; rw [hC] <;> rfl
  have ys := Fn.ys
  have l1 := Fn.l1
  have l2 := Fn.l2
  have l3 := Fn.l3
  have l4 := Fn.l4
  refine ks_codeAny_call_defAt (fd := ksFn "__init__" qual (iA y p1 p2) [supS tx j q1 q2 q3 q4 q5 q6, atS f y q7 q8 q9 qa] (iS y) .none .none doc pm an (.ref cda) ct cc) (body := [supS tx j q1 q2 q3 q4 q5 q6, atS f y q7 q8 q9 qa]) (binds := [("self", .ref x), (y, v)]) hroom (X _ _ ho) rfl hlim (codeRec_of X hcd) rfl (BindsTo.of_eq (Fn.bd ..)) Fn.nc (by
    intro z hz
    simp at hz
    rcases hz with h | h
    · rw [h]; exact l1
    · rw [h]; exact l2) (fun h₁ hns hk₁ => ?_)
  have hxL : x ≠ s.heap.objs.size := Nat.ne_of_lt (Heap.lt_size hx)
  have hsz : s.heap.objs.size < h₁.objs.size := hns.lt
  have m1 : ([(("self" : Str), Value.ref x), (y, v)].reverse.lookup ("self" : Str)) = some (.ref x) := by
    simp only [List.reverse_cons, List.reverse_nil, List.nil_append, List.cons_append, List.lookup, ys, beq_self_eq_true]
  have m2 : ([(("self" : Str), Value.ref x), (y, v)].reverse.lookup y) = some v := by
    simp only [List.reverse_cons, List.reverse_nil, List.nil_append, List.cons_append, List.lookup, beq_self_eq_true]
  refine ks_wpAt_execs_cons ?_
  refine sup_stmt (m := fun z => [(("self" : Str), Value.ref x), (y, v)].reverse.lookup z) (L := s.heap.objs.size) T (X.keeps hk₁) (hg.keeps hk₁) (hb.keeps hk₁) hbt (hk₁ _ _ hx) hns m1 hxL ho rfl rfl rfl l3 l4 l1 (hsw _) (hev _) fun h2 tk t1 k hx2 z => ?_
  have X2 : K.In h2 := fun a o e => k a o (fun w => by rw [w, hlk] at e; cases e) (hk₁ _ _ (X a o e))
  have hn2 : h2.Ns s.heap.objs.size (fun z => [(("self" : Str), Value.ref x), (y, v)].reverse.lookup z) := by
    obtain ⟨oL, es, ep, e1, r⟩ := hns
    exact ⟨oL, es, ep, k _ _ (Ne.symm hxL) e1, r⟩
  refine wpAt_of_wpAny (wpAny_execs_cons (plainObj_wpAny_Assign_Attribute ?_ (hsw2 _)))
  refine wpAny_Name (wpAny_loadName_local rfl l2 hn2 m2 ?_) Fn.yd
  refine wpAny_Name (wpAny_loadName_local rfl l1 hn2 m1 ?_) (by decide)
  refine set_plain X2 (ox := excO C t1) (od := none) ⟨hx2, rfl, rfl, trivial⟩ T.sa ?_
  refine exc_osa X2 hx2 hcl (show refsVE (.ref C :: bm) = true from hbm) rfl Fn.noN (fun h₃ tk₃ dx k₃ dn dne hx₃ hn₃ => ?_)
  exact wpAny_execs_nil (hq h₃ tk₃ dx t1 ⟨fun b o hb e => k₃ b o hb (k b o hb (hk₁ b o e)), hx₃, Nat.le_of_lt (Nat.lt_of_lt_of_le hsz (Nat.le_trans z dn)), dne, hn₃⟩)

/-- a made exception -/
structure Made1 (h h' : Heap) (e C d : Addr) (f : Str) (v : Value) : Prop where
  keep : ∀ b o, h.get? b = some o → h'.get? b = some o
  new : h.objs.size ≤ e
  obj : ∃ t1, h'.get? e = some { cls := .ref C, dict := some d, data := .fields #[.ref t1, .none, .none, .none, .bool false, .none] }
  dbig : h.objs.size ≤ d
  dne : d ≠ e
  ns : h'.Ns1 d (fun y => if y = f then some v else none)
structure Made0 (h h' : Heap) (e C : Addr) : Prop where
  keep : ∀ b o, h.get? b = some o → h'.get? b = some o
  new : h.objs.size ≤ e
  obj : ∃ t1, h'.get? e = some (excO C t1)
theorem one_size (v : Value) : [v].length ≤ sizeLine := by
  rw [sizeLine_eq]
  exact (by decide : 1 ≤ 16777216)
theorem made1 {f y : Str} (T : ExCls prog K mg C fI cc cda) (Fn : ExFn1 K C fI cc cda f y) {v : Value} {mb : Str → Option Value} (X : K.In s.heap) (hlim : s.heap.NoLimit) (hg : s.heap.Ns mainGlobals mg) (hb : s.heap.Ns builtinsNs mb) (hbt : mb "super" = bootBuiltins "super") (hroom : A.depth + 1 < recursionLimit)
    (hq : ∀ h' tk e d, Made1 s.heap h' e C d f v → R (.ok (.ret (.ref e))) { s with heap := h', toks := tk }) :
    codeAny (model prog w) A (.call (.ref C) ⟨[v], []⟩) R s := by
  obtain ⟨nm, q, N, bs, bm, sn, sub, ab, col, dd, k0, k1, k2, k3, k5, hC, hbm⟩ := T.cls
  obtain ⟨hp, g, dr, tk, os⟩ := s
  have k : ∀ b o, hp.get? b = some o → ((hp.push (kdv_tup [v])).push (excO C hp.objs.size)).get? b = some o := fun b o e => Heap.get?_push_of_some _ (Heap.get?_push_of_some _ e)
  have hget : ((hp.push (kdv_tup [v])).push (excO C hp.objs.size)).get? (hp.objs.size + 1) = some (excO C hp.objs.size) := by heap_get
  have hnx : K.lookup (hp.objs.size + 1) = none := by
    cases e : K.lookup (hp.objs.size + 1) with
    | none => rfl
    | some o =>
      have z : hp.get? (hp.objs.size + 1) = some o := X _ _ e
      exact absurd (Nat.lt_of_succ_lt (Heap.lt_size z)) (Nat.lt_irrefl _)
  refine call_own F.excBase_ValueError (fun X => refsVE_contains X bm hbm) (X _ _ hC) (looks_findIn X T.iC) (fun self => bind_fn X self T.tC) (one_size v) ?_
  refine init1 (s := ⟨(hp.push (kdv_tup [v])).push (excO C hp.objs.size), g, dr, tk, os⟩) T Fn (X.keeps k) (hlim.keeps k) (hg.keeps k) (hb.keeps k) hbt hget hnx ?_ fun h' tk' dx t1 ⟨k', hx, dn, dne, hns⟩ => ?_
  · show A.depth + 1 < recursionLimit
    exact hroom
  · have old : ∀ b o, hp.get? b = some o → h'.get? b = some o := fun b o e => k' b o (Nat.ne_of_lt (Nat.lt_succ_of_lt (Heap.lt_size e))) (k b o e)
    have z : hp.objs.size + 1 + 1 ≤ dx := by
      first
        | (simpa only [Heap.size_push] using dn)
        | exact dn
        | (have q := dn; rw [Heap.size_push, Heap.size_push] at q; exact q)
    exact ⟨rfl, hq h' tk' (hp.objs.size + 1) dx ⟨old, Nat.le_succ _, ⟨_, hx⟩, Nat.le_trans (Nat.le_trans (Nat.le_succ _) (Nat.le_succ _)) z, dne, hns⟩⟩
theorem made0 (T : ExCls prog K mg C fI cc cda) (Fn : ExFn0 K fI cc cda) {mb : Str → Option Value} (X : K.In s.heap) (hlim : s.heap.NoLimit) (hg : s.heap.Ns mainGlobals mg) (hb : s.heap.Ns builtinsNs mb) (hbt : mb "super" = bootBuiltins "super") (hroom : A.depth + 1 < recursionLimit)
    (hq : ∀ h' tk e, Made0 s.heap h' e C → R (.ok (.ret (.ref e))) { s with heap := h', toks := tk }) :
    codeAny (model prog w) A (.call (.ref C) ⟨[], []⟩) R s := by
  obtain ⟨nm, q, N, bs, bm, sn, sub, ab, col, dd, k0, k1, k2, k3, k5, hC, hbm⟩ := T.cls
  obtain ⟨hp, g, dr, tk, os⟩ := s
  have k : ∀ b o, hp.get? b = some o → ((hp.push (kdv_tup [])).push (excO C hp.objs.size)).get? b = some o := fun b o e => Heap.get?_push_of_some _ (Heap.get?_push_of_some _ e)
  have hget : ((hp.push (kdv_tup [])).push (excO C hp.objs.size)).get? (hp.objs.size + 1) = some (excO C hp.objs.size) := by heap_get
  refine call_own F.excBase_ValueError (fun X => refsVE_contains X bm hbm) (X _ _ hC) (looks_findIn X T.iC) (fun self => bind_fn X self T.tC) (by rw [sizeLine_eq]; exact (by decide : 0 ≤ 16777216)) ?_
  refine init0 (s := ⟨(hp.push (kdv_tup [])).push (excO C hp.objs.size), g, dr, tk, os⟩) T Fn (X.keeps k) (hlim.keeps k) (hg.keeps k) (hb.keeps k) hbt hget ?_ fun h' tk' t1 k' hx z => ?_
  · show A.depth + 1 < recursionLimit
    exact hroom
  · have old : ∀ b o, hp.get? b = some o → h'.get? b = some o := fun b o e => k' b o (Nat.ne_of_lt (Nat.lt_succ_of_lt (Heap.lt_size e))) (k b o e)
    exact ⟨rfl, hq h' tk' (hp.objs.size + 1) ⟨old, Nat.le_succ _, _, hx⟩⟩
end
end ExS
end PySem

namespace L2
open PySem PySem.Spec PyProof.Rows PySem.ExS
section
variable {X : Cx} {pins : List (Addr × Obj)} {σ : L2.St} {H : Hp} {s : Shared} {C fI cc cda : Addr} {f y x : Str} {k : Nat} {e : Expr} {es : List Expr} {te : TE} {ta : TA} {p pos : Pos}
theorem xd_ok {P : Program} {w : World} {H : Hp} {h : Heap} {d : Addr} {f : Str} {v : V} {u : Value} (r : RelV v u) (hn : h.Ns1 d (fun y => if y = f then some u else none)) : ObjOk P w H h d (exd d [(f, v)]) :=
  exd_ok hn (relO_put (fs := []) r fun g => True.intro)
/-- two new objects are laid and tracked -/
theorem Inv.laid2 {h' : Heap} {a d : Addr} {o u : HO} {t' : Nat} (I : Inv X pins σ H s) (k : ∀ b w, s.heap.get? b = some w → h'.get? b = some w) (ha : s.heap.objs.size ≤ a) (hd : s.heap.objs.size ≤ d) (ne : d ≠ a) (no : ∀ x, u ≠ .own x) (nt : ∀ xs, u ≠ .tup xs) (no2 : ∀ x, o ≠ .own x) (nt2 : ∀ xs, o ≠ .tup xs)
    (n1 : ObjOk X.prog X.w (upd (upd H d u) a o) h' d u) (n2 : ObjOk X.prog X.w (upd (upd H d u) a o) h' a o) : Inv X pins σ (upd (upd H d u) a o) { s with heap := h', toks := t' } := by
  have fa : H a = none := I.hok.fresh ha
  have fd : H d = none := I.hok.fresh hd
  have na : ∀ {b w}, s.heap.get? b = some w → b ≠ a := fun {b w} q => Nat.ne_of_lt (Nat.lt_of_lt_of_le (Heap.lt_size q) ha)
  have nd : ∀ {b w}, s.heap.get? b = some w → b ≠ d := fun {b w} q => Nat.ne_of_lt (Nat.lt_of_lt_of_le (Heap.lt_size q) hd)
  have up : ∀ {b w}, H b = some w → upd (upd H d u) a o b = some w := fun {b w} q => by rw [upd_ne (ne_of_none q fa), upd_ne (ne_of_none q fd)]; exact q
  refine I.un ⟨fun b w q n _ _ => k b w q, fun b w q n _ _ => ⟨w.slots, k b w q⟩, fun b w q n _ => by rw [upd_ne (na q), upd_ne (nd q)]; exact n, fun b w q _ => ⟨w, k b w q⟩, fun b xs q => up q, fun b w xs q => up q, fun b ps q => ⟨#[], by rw [up q]; simp⟩⟩ fun b w q => ?_
  by_cases hb : b = a
  · subst hb; rw [upd_same] at q; cases q; exact n2
  · rw [upd_ne hb] at q
    by_cases hb2 : b = d
    · subst hb2; rw [upd_same] at q; cases q; exact n1
    · rw [upd_ne hb2] at q
      exact (I.hok b w q).stay (fun c v _ z => k c v z) (fun c z => up z) fun c xs z => up z
/-- the value of C(e): a new exception, held -/
def tExV1 (C : Addr) (f : Str) (ta : TA) : TE := fun σ H Q => ta σ H fun vs H1 => ∃ v, vs = [v] ∧ ∀ a d, H1 a = none → H1 d = none → d ≠ a → Q (.ref a) (upd (upd H1 d (exd d [(f, v)])) a (exo a C (some d)))
def tExV0 (C : Addr) : TE := fun σ H Q => ∀ a, H a = none → Q (.ref a) (upd H a (exo a C none))
theorem pe_exv1 (T : ExCls X.prog X.K X.mg C fI cc cda) (Fn : ExFn1 X.K C fI cc cda f y) (hr : Room k X.A) (he : PA X [e] ta) (hm : X.mg x = some (.ref C)) (hg : Gl X x := by rfl) (hdb : (x == ("__debug__" : Str)) = false := by decide)
    (hst : starEach [e] X.env = [(false, eval e X.env)] := by rfl) (hpl : (backTo pos (starEach [] X.env)).any (·.1) = false := by rfl) : PE X (.Call (.Name x p) [e] [] pos) (tExV1 C f ta) := by
  refine ⟨fun pins s σ H Q I h => ?_⟩
  refine wpAny_Call_Name_kw (ld_glob I hg hm ?_ hdb)
  refine PySem.W.callWith_K (h₀ := X.base) I.ok.mod.kin T.kC (thn (he.run pos pins s σ H _ I h) fun us s1 ⟨vs, H1, I1, r1, v, ev, q⟩ => ⟨I1.kIn, ?_⟩) hst hpl
  subst ev
  obtain ⟨u, rfl, ru⟩ := vals1 r1
  show wpAny _ _ (call (.ref C) [u]) _ _ _
  obtain ⟨mb, h1, h2⟩ := I1.mod.blt
  have hlim := I1.nolimit
  have kin := I1.kIn
  have g1 := I1.mod.glob.keeps I1.bk
  have g2 := h1.keeps I1.bk
  obtain ⟨hp, g, dr, tk, os⟩ := s1
  refine wpAny_call (made1 T Fn kin hlim g1 g2 (h2 _ (by decide)) (by have := hr.dp; omega) fun h' tk' e d M => ?_)
  obtain ⟨t1, ho⟩ := M.obj
  have J := I1.laid2 (t' := tk') (o := exo e C (some d)) (u := exd d [(f, v)]) M.keep M.new M.dbig M.dne (fun x => exd_own) (fun xs => exd_tup) (fun x => exo_own) (fun xs => exo_tup) (xd_ok ru M.ns) (exo_ok ho)
  exact ⟨.ref e, _, J, rfl, q e d (I1.hok.fresh M.new) (I1.hok.fresh M.dbig) M.dne⟩
theorem pe_exv0 (T : ExCls X.prog X.K X.mg C fI cc cda) (Fn : ExFn0 X.K fI cc cda) (hr : Room k X.A) (hm : X.mg x = some (.ref C)) (hg : Gl X x := by rfl) (hdb : (x == ("__debug__" : Str)) = false := by decide) : PE X (.Call (.Name x p) [] [] pos) (tExV0 C) := by
  refine ⟨fun pins s σ H Q I h => ?_⟩
  refine wpAny_Call_Name_kw (ld_glob I hg hm ?_ hdb)
  refine PySem.W.callWith_K0 I.kIn T.kC ?_
  show wpAny _ _ (call (.ref C) []) _ _ _
  obtain ⟨mb, h1, h2⟩ := I.mod.blt
  have hlim := I.nolimit
  have kin := I.kIn
  have g1 := I.mod.glob.keeps I.bk
  have g2 := h1.keeps I.bk
  obtain ⟨hp, g, dr, tk, os⟩ := s
  refine wpAny_call (made0 T Fn kin hlim g1 g2 (h2 _ (by decide)) (by have := hr.dp; omega) fun h' tk' e M => ?_)
  obtain ⟨t1, ho⟩ := M.obj
  have J : Inv X pins σ (upd H e (exo e C none)) ⟨h', g, dr, tk', os⟩ := I.laid (t' := tk') (o := exo e C none) M.keep M.new (exo_ok ho)
  exact ⟨.ref e, _, J, rfl, h e (I.hok.fresh M.new)⟩
/-- e.f, e an exception that is held -/
def tExF (C : Addr) (f : Str) (te : TE) : TE := fun σ H Q => te σ H fun x H1 => ∃ a d fs v, x = .ref a ∧ H1 a = some (exo a C (some d)) ∧ H1 d = some (exd d fs) ∧ fs.lookup f = some v ∧ Q v H1
theorem pe_exf (T : ExCls X.prog X.K X.mg C fI cc cda) (hno : PySem.W.findIn X.K (.ref C) f = some none) (he : PE X e te) (hb : attributeBase e f X.env (eval e X.env) = eval e X.env := by rfl) : PE X (.Attribute e f pos) (tExF C f te) := by
  refine ⟨fun pins s σ H Q I h => ?_⟩
  refine attr_of hb (thn (he.run pins s σ H _ I h) fun u s1 hh => ?_)
  obtain ⟨x, H1, I1, rx, a, d, fs, v, ex, ea, ed, l, q⟩ := hh
  subst ex
  obtain rfl : u = Value.ref a := rx
  obtain ⟨t1, ha⟩ := exo_at I1.hok ea
  obtain ⟨mA, hns, hr⟩ := exd_at I1.hok ed
  obtain ⟨od, ho, hl⟩ := lookIn_ns hns
  obtain ⟨u, hu, ru⟩ := RelO.some_of (v := v) (o := mA f) (by rw [← l]; exact hr f)
  have J : PySem.W.InstAt s1.heap a { cls := .ref C, dict := some d, data := .fields #[.ref t1, .none, .none, .none, .bool false, .none] } C (some od) := ⟨ha, rfl, rfl, ho⟩
  exact HandSPX.exc_get I1.kIn J T.ga T.gg T.exC (PySem.W.findObj_own T.hdC hno rfl (by rw [hl, hu])) (handed_of ru) ⟨v, H1, I1.tok _, ru, q⟩
end
end L2

set_option Elab.async false
set_option linter.all false
set_option maxRecDepth 100000
set_option maxHeartbeats 2000000
/-! Fd1: data in place of values: what an expression, a test, a statement makes of plain data, the heap out of sight. -/
namespace Fd
open PySem PySem.Spec PyProof.Rows L2

/-! ### data -/
inductive D where
  | non | bl (b : Bool) | int (i : Int) | str (x : Str)
  | lst (xs : List D) | tup (xs : List D)
  /-- a list that may be read alone (the script) -/
  | rdl (xs : List D)
  | ins (C : Addr) (ns : List Str) (xs : List D)
  | dct (ks : List Key) (xs : List D)
  /-- an exception that is held -/
  | exc (C : Addr) (ns : List Str) (xs : List D)
  | adr (a : Addr) | ty (n : String)

section
variable (K : PySem.W.Frag) (H : Hp)
mutual
/-- the value v is the datum d in the heap H -/
def Is : D → V → Prop
  | .non, v => v = .non
  | .bl b, v => v = .bl b
  | .int i, v => v = .int i
  | .str x, v => v = .str x
  | .lst xs, v => ∃ a vs, v = .ref a ∧ H a = some (.lst vs) ∧ IsL xs vs
  | .rdl xs, v => ∃ a vs, v = .ref a ∧ SqL K H a vs ∧ IsL xs vs
  | .tup xs, v => ∃ a vs, v = .ref a ∧ SqT K H a vs ∧ IsL xs vs
  | .ins C ns xs, v => ∃ a dx fs, v = .ref a ∧ H a = some (.ins C dx fs) ∧ fs.map (·.1) = ns ∧ IsL xs (fs.map (·.2))
  | .dct ks xs, v => ∃ a kvs, v = .ref a ∧ H a = some (.dK kvs) ∧ kvs.map (·.1) = ks ∧ IsL xs (kvs.map (·.2))
  | .exc C ns xs, v => ∃ a od fs, v = .ref a ∧ H a = some (exo a C od) ∧ fs.map (·.1) = ns ∧ IsL xs (fs.map (·.2)) ∧ (∀ d, od = some d → H d = some (exd d fs)) ∧ (od = none → fs = [])
  | .adr a, v => v = .ref a
  | .ty n, v => v = .ty n
def IsL : List D → List V → Prop
  | [], vs => vs = []
  | x :: xs, vs => ∃ v r, vs = v :: r ∧ Is x v ∧ IsL xs r
end
end
section
variable {K : PySem.W.Frag} {H H' : Hp}
theorem ext_seqL {a : Addr} {vs : List V} (e : Ext H H') (h : SqL K H a vs) : SqL K H' a vs := SqL.ext h e
theorem ext_seqT {a : Addr} {vs : List V} (e : Ext H H') (h : SqT K H a vs) : SqT K H' a vs := SqT.ext h e
mutual
theorem Is.mono (e : Ext H H') : ∀ (d : D) {v : V}, Is K H d v → Is K H' d v
  | .non, _, h => h
  | .bl _, _, h => h
  | .int _, _, h => h
  | .str _, _, h => h
  | .lst xs, _, h => let ⟨a, vs, e1, e2, e3⟩ := h; ⟨a, vs, e1, e _ _ e2, IsL.mono e xs e3⟩
  | .rdl xs, _, h => let ⟨a, vs, e1, e2, e3⟩ := h; ⟨a, vs, e1, ext_seqL e e2, IsL.mono e xs e3⟩
  | .tup xs, _, h => let ⟨a, vs, e1, e2, e3⟩ := h; ⟨a, vs, e1, ext_seqT e e2, IsL.mono e xs e3⟩
  | .ins C ns xs, _, h => let ⟨a, dx, fs, e1, e2, e3, e4⟩ := h; ⟨a, dx, fs, e1, e _ _ e2, e3, IsL.mono e xs e4⟩
  | .dct ks xs, _, h => let ⟨a, kvs, e1, e2, e3, e4⟩ := h; ⟨a, kvs, e1, e _ _ e2, e3, IsL.mono e xs e4⟩
  | .exc C ns xs, _, h => let ⟨a, od, fs, e1, e2, e3, e4, e5, e6⟩ := h; ⟨a, od, fs, e1, e _ _ e2, e3, IsL.mono e xs e4, fun d q => e _ _ (e5 d q), e6⟩
  | .adr _, _, h => h
  | .ty _, _, h => h
theorem IsL.mono (e : Ext H H') : ∀ (ds : List D) {vs : List V}, IsL K H ds vs → IsL K H' ds vs
  | [], _, h => h
  | x :: xs, _, h => let ⟨v, r, e1, e2, e3⟩ := h; ⟨v, r, e1, Is.mono e x e2, IsL.mono e xs e3⟩
end
theorem IsL.length : ∀ {ds : List D} {vs : List V}, IsL K H ds vs → vs.length = ds.length
  | [], _, h => by cases (show _ = _ from h); rfl
  | x :: xs, _, h => by obtain ⟨v, r, rfl, _, h⟩ := h; simp [IsL.length h]
theorem IsL.nil : IsL K H [] [] := rfl
theorem IsL.cons {x : D} {xs : List D} {v : V} {vs : List V} (h : Is K H x v) (t : IsL K H xs vs) : IsL K H (x :: xs) (v :: vs) := ⟨v, vs, rfl, h, t⟩
theorem IsL.get : ∀ {ds : List D} {vs : List V} {i : Nat} {v : V}, IsL K H ds vs → vs[i]? = some v → ∃ x, ds[i]? = some x ∧ Is K H x v
  | [], _, i, _, h, e => by cases (show _ = _ from h); simp at e
  | x :: xs, _, 0, v, h, e => by obtain ⟨v', r, rfl, h1, h⟩ := h; simp at e; subst e; exact ⟨x, rfl, h1⟩
  | x :: xs, _, i + 1, v, h, e => by obtain ⟨v', r, rfl, h1, h⟩ := h; simp at e; obtain ⟨y, e1, e2⟩ := IsL.get h e; exact ⟨y, by simpa using e1, e2⟩
theorem IsL.get' : ∀ {ds : List D} {vs : List V} {i : Nat} {x : D}, IsL K H ds vs → ds[i]? = some x → ∃ v, vs[i]? = some v ∧ Is K H x v
  | [], _, i, _, h, e => by simp at e
  | x :: xs, _, 0, y, h, e => by obtain ⟨v', r, rfl, h1, h⟩ := h; simp at e; subst e; exact ⟨v', rfl, h1⟩
  | x :: xs, _, i + 1, y, h, e => by obtain ⟨v', r, rfl, h1, h⟩ := h; simp at e; obtain ⟨y, e1, e2⟩ := IsL.get' h e; exact ⟨y, by simpa using e1, e2⟩
theorem IsL.append : ∀ {ds es : List D} {vs us : List V}, IsL K H ds vs → IsL K H es us → IsL K H (ds ++ es) (vs ++ us)
  | [], _, _, _, h, g => by cases (show _ = _ from h); exact g
  | x :: xs, _, _, _, h, g => by obtain ⟨v, r, rfl, h1, h⟩ := h; exact ⟨v, _, rfl, h1, IsL.append h g⟩
theorem IsL.take : ∀ {ds : List D} {vs : List V} (n : Nat), IsL K H ds vs → IsL K H (ds.take n) (vs.take n)
  | _, _, 0, _ => rfl
  | [], _, n + 1, h => by cases (show _ = _ from h); exact rfl
  | x :: xs, _, n + 1, h => by obtain ⟨v, r, rfl, h1, h⟩ := h; exact ⟨v, _, rfl, h1, IsL.take n h⟩
theorem IsL.drop : ∀ {ds : List D} {vs : List V} (n : Nat), IsL K H ds vs → IsL K H (ds.drop n) (vs.drop n)
  | _, _, 0, h => h
  | [], _, n + 1, h => by cases (show _ = _ from h); exact rfl
  | x :: xs, _, n + 1, h => by obtain ⟨v, r, rfl, h1, h⟩ := h; exact IsL.drop n h
theorem IsL.snoc {ds : List D} {vs : List V} {x : D} {v : V} (h : IsL K H ds vs) (g : Is K H x v) : IsL K H (ds ++ [x]) (vs ++ [v]) := h.append (.cons g .nil)
theorem Is.int_of {i : Int} {v : V} (h : Is K H (.int i) v) : v = .int i := h
end

/-! ### the state -/
inductive S where
  /-- nothing is known -/
  | no
  /-- a datum that is never changed -/
  | d (x : D)
  /-- a list of one's own -/
  | own (xs : List D)
  /-- an object of one's own -/
  | obj (C : Addr) (ns : List Str) (xs : List D)
  /-- a dict of one's own -/
  | dic (ks : List Key) (xs : List D)
abbrev SS := List S
def S.mine : S → Bool
  | .own _ => true | .obj _ _ _ => true | .dic _ _ => true | _ => false
section
variable (K : PySem.W.Frag)
/-- what a slot holds: F the heap of what is never changed, H the whole -/
def SlotIs (F H : Hp) : S → Option V → Prop
  | .no, _ => True
  | .d x, o => ∃ v, o = some v ∧ Is K F x v
  | .own xs, o => ∃ p vs, o = some (.ref p) ∧ F p = none ∧ H p = some (.lst vs) ∧ IsL K F xs vs
  | .obj C ns xs, o => ∃ p dx fs, o = some (.ref p) ∧ F p = none ∧ H p = some (.ins C dx fs) ∧ fs.map (·.1) = ns ∧ IsL K F xs (fs.map (·.2))
  | .dic ks xs, o => ∃ p kvs, o = some (.ref p) ∧ F p = none ∧ H p = some (.dK kvs) ∧ kvs.map (·.1) = ks ∧ IsL K F xs (kvs.map (·.2))
/-- new objects alone were added -/
structure Nx (F H F1 H1 : Hp) : Prop where
  f : Ext F F1
  h : Ext H H1
  s : Ext F1 H1
  n : ∀ p o, F1 p = some o → F p ≠ none ∨ H p = none
structure StR (B : Hp × Hp) (F H : Hp) (σ : L2.St) (ss : SS) : Prop where
  len : σ.length = ss.length
  bF : Ext B.1 F
  bH : ∀ p o, B.2 p = some o → H p = some o
  sub : Ext F H
  new : ∀ p o, F p = some o → B.1 p ≠ none ∨ B.2 p = none
  slots : ∀ (i : Nat) (s : S) (o : Option V), ss[i]? = some s → σ[i]? = some o → SlotIs K F H s o
  own : ∀ (i : Nat) (s : S) (p : Addr), ss[i]? = some s → s.mine = true → σ[i]? = some (some (.ref p)) → B.2 p = none
  dis : ∀ (i j : Nat) (s t : S) (p : Addr), ss[i]? = some s → ss[j]? = some t → s.mine = true → t.mine = true → σ[i]? = some (some (.ref p)) → σ[j]? = some (some (.ref p)) → i = j
end
section
variable {K : PySem.W.Frag} {B : Hp × Hp} {F H F1 H1 F2 H2 : Hp} {σ : L2.St} {ss : SS}
theorem Nx.refl (s : Ext F H) : Nx F H F H := ⟨fun _ _ h => h, fun _ _ h => h, s, fun p o h => .inl (by rw [h]; exact fun z => nomatch z)⟩
theorem Nx.trans (a : Nx F H F1 H1) (b : Nx F1 H1 F2 H2) : Nx F H F2 H2 := ⟨a.f.trans b.f, a.h.trans b.h, b.s, fun p o h => by
  rcases b.n p o h with z | z
  · cases e : F1 p with
    | none => exact absurd e z
    | some u => exact a.n p u e
  · exact .inr (by
      cases e : H p with
      | none => rfl
      | some u => rw [a.h p u e] at z; cases z)⟩
theorem Nx.alloc {p : Addr} {o : HO} (s : Ext F H) (h : H p = none) : Nx F H (upd F p o) (upd H p o) := by
  have hF : F p = none := by
    cases e : F p with
    | none => rfl
    | some u => rw [s p u e] at h; cases h
  refine ⟨Ext.upd hF, Ext.upd h, fun a u e => ?_, fun a u e => ?_⟩
  · by_cases q : a = p
    · subst q; rw [upd_same] at e ⊢; exact e
    · rw [upd_ne q] at e ⊢; exact s a u e
  · by_cases q : a = p
    · subst q; exact .inr h
    · rw [upd_ne q] at e; exact .inl (by rw [e]; exact fun z => nomatch z)
/-- a new object that is not among the data -/
theorem Nx.allocH {p : Addr} {o : HO} (s : Ext F H) (h : H p = none) : Nx F H F (upd H p o) :=
  ⟨fun _ _ h => h, Ext.upd h, fun a u e => by rw [upd_ne (ne_of_none (s a u e) h)]; exact s a u e, fun p o h => .inl (by rw [h]; exact fun z => nomatch z)⟩
theorem SlotIs.grow {s : S} {o : Option V} (a : Nx F H F1 H1) (h : SlotIs K F H s o) : SlotIs K F1 H1 s o := by
  have free : ∀ {p : Addr} {u : HO}, F p = none → H p = some u → F1 p = none := fun {p u} e1 e2 => by
    cases e : F1 p with
    | none => rfl
    | some w =>
      rcases a.n p w e with z | z
      · exact absurd e1 z
      · rw [e2] at z; cases z
  cases s with
  | no => exact True.intro
  | d x => obtain ⟨v, e, h⟩ := h; exact ⟨v, e, Is.mono a.f x h⟩
  | own xs => obtain ⟨p, vs, e, e1, e2, h⟩ := h; exact ⟨p, vs, e, free e1 e2, a.h _ _ e2, IsL.mono a.f xs h⟩
  | obj C ns xs => obtain ⟨p, dx, fs, e, e1, e2, e3, h⟩ := h; exact ⟨p, dx, fs, e, free e1 e2, a.h _ _ e2, e3, IsL.mono a.f xs h⟩
  | dic ks xs => obtain ⟨p, kvs, e, e1, e2, e3, h⟩ := h; exact ⟨p, kvs, e, free e1 e2, a.h _ _ e2, e3, IsL.mono a.f xs h⟩
theorem StR.grow (R : StR K B F H σ ss) (a : Nx F H F1 H1) : StR K B F1 H1 σ ss where
  len := R.len
  bF := R.bF.trans a.f
  bH := fun p o e => a.h p o (R.bH p o e)
  sub := a.s
  new := fun p o e => by
    rcases a.n p o e with z | z
    · cases q : F p with
      | none => exact absurd q z
      | some u => exact R.new p u q
    · exact .inr (by
        cases q : B.2 p with
        | none => rfl
        | some u => rw [R.bH p u q] at z; cases z)
  slots := fun i s o e1 e2 => (R.slots i s o e1 e2).grow a
  own := R.own
  dis := R.dis
theorem StR.nx (R : StR K B F H σ ss) : Nx F H F H := Nx.refl R.sub
theorem StR.alloc {p : Addr} {o : HO} (R : StR K B F H σ ss) (h : H p = none) : StR K B (upd F p o) (upd H p o) σ ss := R.grow (Nx.alloc R.sub h)
theorem StR.get {i : Nat} {x : D} (R : StR K B F H σ ss) (h : ss[i]? = some (.d x)) : ∃ v, σ[i]? = some (some v) ∧ Is K F x v := by
  have hi : i < ss.length := (List.getElem?_eq_some_iff.mp h).1
  have hs : i < σ.length := by rw [R.len]; exact hi
  obtain ⟨v, e, q⟩ := R.slots i _ _ h (List.getElem?_eq_getElem hs)
  exact ⟨v, by rw [List.getElem?_eq_getElem hs, e], q⟩
theorem set_get {α : Type} {l : List α} {i j : Nat} {a x : α} (h : (l.set i a)[j]? = some x) : (i = j ∧ x = a) ∨ (i ≠ j ∧ l[j]? = some x) := by
  by_cases e : i = j
  · subst e
    have hl : i < l.length := by
      have := (List.getElem?_eq_some_iff.mp h).1
      simpa using this
    rw [List.getElem?_set_self hl] at h
    exact .inl ⟨rfl, (Option.some.inj h).symm⟩
  · rw [List.getElem?_set_ne e] at h
    exact .inr ⟨e, h⟩
/-- a slot is given a datum -/
theorem StR.put {i : Nat} {x : D} {v : V} (R : StR K B F H σ ss) (h : Is K F x v) : StR K B F H (σ.set i (some v)) (ss.set i (.d x)) where
  len := by simp [R.len]
  bF := R.bF
  bH := R.bH
  sub := R.sub
  new := R.new
  slots := fun j s o e1 e2 => by
    rcases set_get e1 with ⟨q, rfl⟩ | ⟨q, e1⟩
    · rcases set_get e2 with ⟨_, rfl⟩ | ⟨q2, _⟩
      · exact ⟨v, rfl, h⟩
      · exact absurd q q2
    · rcases set_get e2 with ⟨q2, _⟩ | ⟨_, e2⟩
      · exact absurd q2 q
      · exact R.slots j s o e1 e2
  own := fun j s p e1 m e2 => by
    rcases set_get e1 with ⟨q, rfl⟩ | ⟨q, e1⟩
    · cases m
    · rcases set_get e2 with ⟨q2, _⟩ | ⟨_, e2⟩
      · exact absurd q2 q
      · exact R.own j s p e1 m e2
  dis := fun j k s t p e1 e2 m1 m2 e3 e4 => by
    rcases set_get e1 with ⟨q, rfl⟩ | ⟨q, e1⟩
    · cases m1
    · rcases set_get e2 with ⟨q', rfl⟩ | ⟨q', e2⟩
      · cases m2
      · rcases set_get e3 with ⟨q2, _⟩ | ⟨_, e3⟩
        · exact absurd q2 q
        · rcases set_get e4 with ⟨q2, _⟩ | ⟨_, e4⟩
          · exact absurd q2 q'
          · exact R.dis j k s t p e1 e2 m1 m2 e3 e4
/-- a slot is forgotten -/
theorem StR.forget {i : Nat} {o : Option V} (R : StR K B F H σ ss) : StR K B F H (σ.set i o) (ss.set i .no) where
  len := by simp [R.len]
  bF := R.bF
  bH := R.bH
  sub := R.sub
  new := R.new
  slots := fun j s o e1 e2 => by
    rcases set_get e1 with ⟨q, rfl⟩ | ⟨q, e1⟩
    · exact True.intro
    · rcases set_get e2 with ⟨q2, _⟩ | ⟨_, e2⟩
      · exact absurd q2 q
      · exact R.slots j s o e1 e2
  own := fun j s p e1 m e2 => by
    rcases set_get e1 with ⟨q, rfl⟩ | ⟨q, e1⟩
    · cases m
    · rcases set_get e2 with ⟨q2, _⟩ | ⟨_, e2⟩
      · exact absurd q2 q
      · exact R.own j s p e1 m e2
  dis := fun j k s t p e1 e2 m1 m2 e3 e4 => by
    rcases set_get e1 with ⟨q, rfl⟩ | ⟨q, e1⟩
    · cases m1
    · rcases set_get e2 with ⟨q', rfl⟩ | ⟨q', e2⟩
      · cases m2
      · rcases set_get e3 with ⟨q2, _⟩ | ⟨_, e3⟩
        · exact absurd q2 q
        · rcases set_get e4 with ⟨q2, _⟩ | ⟨_, e4⟩
          · exact absurd q2 q'
          · exact R.dis j k s t p e1 e2 m1 m2 e3 e4
/-- a slot of which less is known -/
theorem StR.less {i : Nat} {s : S} (R : StR K B F H σ ss) (h : ss[i]? = some s) (hm : s.mine = false ∨ True) : StR K B F H σ (ss.set i .no) where
  len := by simp [R.len]
  bF := R.bF
  bH := R.bH
  sub := R.sub
  new := R.new
  slots := fun j s o e1 e2 => by
    rcases set_get e1 with ⟨q, rfl⟩ | ⟨q, e1⟩
    · exact True.intro
    · exact R.slots j s o e1 e2
  own := fun j s p e1 m e2 => by
    rcases set_get e1 with ⟨q, rfl⟩ | ⟨q, e1⟩
    · cases m
    · exact R.own j s p e1 m e2
  dis := fun j k s t p e1 e2 m1 m2 e3 e4 => by
    rcases set_get e1 with ⟨q, rfl⟩ | ⟨q, e1⟩
    · cases m1
    · rcases set_get e2 with ⟨q', rfl⟩ | ⟨q', e2⟩
      · cases m2
      · exact R.dis j k s t p e1 e2 m1 m2 e3 e4
end

/-! ### what an expression makes: canonical readings -/
section
variable (K : PySem.W.Frag)
/-- from ss the datum d; Rl : which ss, d -/
def tEv (Rl : SS → D → Prop) : TE := fun σ H Q => ∃ B F ss d, Rl ss d ∧ StR K B F H σ ss ∧ ∀ v F1 H1, Nx F H F1 H1 → StR K B F1 H1 σ ss → Is K F1 d v → Q v H1
def tEvs (Rl : SS → List D → Prop) : TA := fun σ H Q => ∃ B F ss ds, Rl ss ds ∧ StR K B F H σ ss ∧ ∀ vs F1 H1, Nx F H F1 H1 → StR K B F1 H1 σ ss → IsL K F1 ds vs → Q vs H1
def tTv (Rl : SS → Bool → Prop) : TT := fun σ H Q => ∃ B F ss b, Rl ss b ∧ StR K B F H σ ss ∧ ∀ F1 H1, Nx F H F1 H1 → StR K B F1 H1 σ ss → Q b H1
end
section
variable {X : Cx}
theorem PE.imp {e : Expr} {t t' : TE} (h : PE X e t) (k : ∀ σ H Q, t' σ H Q → t σ H Q) : PE X e t' := ⟨fun pins s σ H Q I q => h.run pins s σ H Q I (k σ H Q q)⟩
theorem PT.imp {e : Expr} {t t' : TT} (h : PT X e t) (k : ∀ σ H Q, t' σ H Q → t σ H Q) : PT X e t' := ⟨fun pins s σ H Q I q => h.run pins s σ H Q I (k σ H Q q)⟩
theorem PA.imp {es : List Expr} {t t' : TA} (h : PA X es t) (k : ∀ σ H Q, t' σ H Q → t σ H Q) : PA X es t' := ⟨fun pos pins s σ H Q I q => h.run pos pins s σ H Q I (k σ H Q q)⟩
theorem PS.imp {e : Stmt} {t t' : TS} (h : PS X e t) (k : ∀ D σ H, t' D σ H → t D σ H) : PS X e t' := ⟨fun pins s σ H D I q => h.run pins s σ H D I (k D σ H q)⟩
theorem PSs.imp {e : List Stmt} {t t' : TS} (h : PSs X e t) (k : ∀ D σ H, t' D σ H → t D σ H) : PSs X e t' := ⟨fun pins s σ H D I q => h.run pins s σ H D I (k D σ H q)⟩
/-- e makes of the state ss the datum d -/
def EV (X : Cx) (e : Expr) (ss : SS) (d : D) : Prop := PE X e (tEv X.K fun ss' d' => ss' = ss ∧ d' = d)
def EVs (X : Cx) (es : List Expr) (ss : SS) (ds : List D) : Prop := PA X es (tEvs X.K fun ss' d' => ss' = ss ∧ d' = ds)
def TV (X : Cx) (e : Expr) (ss : SS) (b : Bool) : Prop := PT X e (tTv X.K fun ss' b' => ss' = ss ∧ b' = b)
abbrev EvP (K : PySem.W.Frag) (ss : SS) (d : D) : TE := tEv K fun ss' d' => ss' = ss ∧ d' = d
abbrev EvsP (K : PySem.W.Frag) (ss : SS) (ds : List D) : TA := tEvs K fun ss' d' => ss' = ss ∧ d' = ds
abbrev TvP (K : PySem.W.Frag) (ss : SS) (b : Bool) : TT := tTv K fun ss' d' => ss' = ss ∧ d' = b
/-- a family of readings -/
theorem pe_fam {e : Expr} {Rl : SS → D → Prop} (h : ∀ ss d, Rl ss d → EV X e ss d) : PE X e (tEv X.K Rl) := ⟨fun pins s σ H Q I q => by
  obtain ⟨B, F, ss, d, r, R, k⟩ := q
  exact (h ss d r).run pins s σ H Q I ⟨B, F, ss, d, ⟨rfl, rfl⟩, R, k⟩⟩
theorem pt_fam {e : Expr} {Rl : SS → Bool → Prop} (h : ∀ ss d, Rl ss d → TV X e ss d) : PT X e (tTv X.K Rl) := ⟨fun pins s σ H Q I q => by
  obtain ⟨B, F, ss, d, r, R, k⟩ := q
  exact (h ss d r).run pins s σ H Q I ⟨B, F, ss, d, ⟨rfl, rfl⟩, R, k⟩⟩
/-- from any reading -/
theorem EV.of {e : Expr} {t : TE} {ss : SS} {d : D} (h : PE X e t)
    (k : ∀ B F H σ Q, StR X.K B F H σ ss → (∀ v F1 H1, Nx F H F1 H1 → StR X.K B F1 H1 σ ss → Is X.K F1 d v → Q v H1) → t σ H Q) : EV X e ss d :=
  PE.imp h fun σ H Q ⟨B, F, ss', d', ⟨e1, e2⟩, R, q⟩ => by subst e1; subst e2; exact k B F H σ Q R q
theorem TV.of {e : Expr} {t : TT} {ss : SS} {b : Bool} (h : PT X e t)
    (k : ∀ B F H σ Q, StR X.K B F H σ ss → (∀ F1 H1, Nx F H F1 H1 → StR X.K B F1 H1 σ ss → Q b H1) → t σ H Q) : TV X e ss b :=
  PT.imp h fun σ H Q ⟨B, F, ss', d', ⟨e1, e2⟩, R, q⟩ => by subst e1; subst e2; exact k B F H σ Q R q
theorem EVs.of {es : List Expr} {t : TA} {ss : SS} {ds : List D} (h : PA X es t)
    (k : ∀ B F H σ Q, StR X.K B F H σ ss → (∀ vs F1 H1, Nx F H F1 H1 → StR X.K B F1 H1 σ ss → IsL X.K F1 ds vs → Q vs H1) → t σ H Q) : EVs X es ss ds :=
  PA.imp h fun σ H Q ⟨B, F, ss', d', ⟨e1, e2⟩, R, q⟩ => by subst e1; subst e2; exact k B F H σ Q R q
/-- use of one -/
theorem ev_go {K : PySem.W.Frag} {B : Hp × Hp} {F H : Hp} {σ : L2.St} {ss : SS} {d : D} {Q : VK} (R : StR K B F H σ ss) (k : ∀ v F1 H1, Nx F H F1 H1 → StR K B F1 H1 σ ss → Is K F1 d v → Q v H1) : EvP K ss d σ H Q := ⟨B, F, ss, d, ⟨rfl, rfl⟩, R, k⟩
theorem evs_go {K : PySem.W.Frag} {B : Hp × Hp} {F H : Hp} {σ : L2.St} {ss : SS} {ds : List D} {Q : List V → Hp → Prop} (R : StR K B F H σ ss) (k : ∀ vs F1 H1, Nx F H F1 H1 → StR K B F1 H1 σ ss → IsL K F1 ds vs → Q vs H1) : EvsP K ss ds σ H Q := ⟨B, F, ss, ds, ⟨rfl, rfl⟩, R, k⟩
theorem tv_go {K : PySem.W.Frag} {B : Hp × Hp} {F H : Hp} {σ : L2.St} {ss : SS} {b : Bool} {Q : Bool → Hp → Prop} (R : StR K B F H σ ss) (k : ∀ F1 H1, Nx F H F1 H1 → StR K B F1 H1 σ ss → Q b H1) : TvP K ss b σ H Q := ⟨B, F, ss, b, ⟨rfl, rfl⟩, R, k⟩
end

/-! ### expressions -/
section
variable {X : Cx} {ss : SS} {a b c e : Expr} {es : List Expr} {pos : Pos} {d : D} {ds : List D}
theorem ev_var (i : Nat) {x : Str} (h : ss[i]? = some (.d d)) (hN : X.N[i]? = some x := by rfl) (hv : Vis X.env.scope x := by first | exact Or.inl rfl | exact Or.inr (Or.inl rfl) | exact Or.inr (Or.inr rfl)) (hd : (x == ("__debug__" : Str)) = false := by decide)
    (hcd : (x == ("__classdict__" : Str)) = false := by decide) : EV X (.Name x pos) ss d := EV.of (pe_var hN hv hd hcd) fun B F H σ Q R k => by
  obtain ⟨v, e, q⟩ := R.get h
  exact ⟨v, e, k v F H R.nx R q⟩
theorem ev_int {i : Int} {j} : EV X (.Constant (.int i) j pos) ss (.int i) := EV.of pe_int fun B F H σ Q R k => k _ F H R.nx R rfl
theorem ev_bl {i : Bool} {j} : EV X (.Constant (.bool i) j pos) ss (.bl i) := EV.of pe_bl fun B F H σ Q R k => k _ F H R.nx R rfl
theorem ev_non {j} : EV X (.Constant .none j pos) ss .non := EV.of pe_non fun B F H σ Q R k => k _ F H R.nx R rfl
theorem ev_str {x : Str} {j} : EV X (.Constant (.str x) j pos) ss (.str x) := EV.of pe_str fun B F H σ Q R k => k _ F H R.nx R rfl
/-- two in a row, by a rule of values -/
theorem ev_op {op : Operator} {r : R2} {x y : D} (ho : OpR X (binaryOp op) r) (ha : EV X a ss x) (hb : EV X b ss y)
    (k : ∀ B F H σ v u Q, StR X.K B F H σ ss → Is X.K F x v → Is X.K F y u → (∀ z F1 H1, Nx F H F1 H1 → StR X.K B F1 H1 σ ss → Is X.K F1 d z → Q z H1) → r v u H Q) : EV X (.BinOp a op b pos) ss d :=
  EV.of (pe_op ho ha hb) fun B F H σ Q R q => ev_go R fun v F1 H1 n1 R1 i1 => ev_go R1 fun u F2 H2 n2 R2 i2 =>
    k B F2 H2 σ v u Q R2 (Is.mono n2.f _ i1) i2 fun z F3 H3 n3 R3 i3 => q z F3 H3 ((n1.trans n2).trans n3) R3 i3
theorem ev_cmp {op : CmpOp} {r : R2} {x y : D} (ho : OpR X (compareOp op) r) (ha : EV X a ss x) (hb : EV X b ss y)
    (k : ∀ B F H σ v u Q, StR X.K B F H σ ss → Is X.K F x v → Is X.K F y u → (∀ z F1 H1, Nx F H F1 H1 → StR X.K B F1 H1 σ ss → Is X.K F1 d z → Q z H1) → r v u H Q)
    (h1 : behindInMarks op b = false := by first | exact nomark _ | rfl) : EV X (.Compare a [op] [b] pos) ss d :=
  EV.of (pe_cmpR ho ha hb h1) fun B F H σ Q R q => ev_go R fun v F1 H1 n1 R1 i1 => ev_go R1 fun u F2 H2 n2 R2 i2 =>
    k B F2 H2 σ v u Q R2 (Is.mono n2.f _ i1) i2 fun z F3 H3 n3 R3 i3 => q z F3 H3 ((n1.trans n2).trans n3) R3 i3
theorem ev_add {i j : Int} (ha : EV X a ss (.int i)) (hb : EV X b ss (.int j)) : EV X (.BinOp a .Add b pos) ss (.int (i + j)) :=
  ev_op op_add ha hb fun B F H σ v u Q R i1 i2 q => ⟨i, j, i1, i2, q _ F H R.nx R rfl⟩
theorem ev_sub {i j : Int} (ha : EV X a ss (.int i)) (hb : EV X b ss (.int j)) : EV X (.BinOp a .Sub b pos) ss (.int (i - j)) :=
  ev_op op_sub ha hb fun B F H σ v u Q R i1 i2 q => ⟨i, j, i1, i2, q _ F H R.nx R rfl⟩
theorem ev_mod {i j : Int} (hj : 0 < j) (ha : EV X a ss (.int i)) (hb : EV X b ss (.int j)) : EV X (.BinOp a .Mod b pos) ss (.int (i % j)) :=
  ev_op op_mod ha hb fun B F H σ v u Q R i1 i2 q => ⟨i, j, i1, i2, hj, q _ F H R.nx R rfl⟩
theorem ev_pow {i j : Int} (hj : CPow i j) (ha : EV X a ss (.int i)) (hb : EV X b ss (.int j)) : EV X (.BinOp a .Pow b pos) ss (.int (i ^ j.toNat)) :=
  ev_op op_pow ha hb fun B F H σ v u Q R i1 i2 q => ⟨i, j, i1, i2, hj, q _ F H R.nx R rfl⟩
theorem ev_neg {i : Int} (ha : EV X a ss (.int i)) : EV X (.UnaryOp .USub a pos) ss (.int (-i)) :=
  EV.of (pe_un un_neg ha) fun B F H σ Q R q => ev_go R fun v F1 H1 n1 R1 i1 => ⟨i, i1, q _ F1 H1 n1 R1 rfl⟩
theorem ev_addS {x y : Str} (hl : x.length + y.length ≤ sizeLine) (ha : EV X a ss (.str x)) (hb : EV X b ss (.str y)) : EV X (.BinOp a .Add b pos) ss (.str (x ++ y)) :=
  ev_op op_add_str ha hb fun B F H σ v u Q R i1 i2 q => ⟨x, y, i1, i2, hl, q _ F H R.nx R rfl⟩
theorem ev_lt {i j : Int} (ha : EV X a ss (.int i)) (hb : EV X b ss (.int j)) : EV X (.Compare a [.Lt] [b] pos) ss (.bl (decide (i < j))) :=
  ev_cmp op_lt ha hb fun B F H σ v u Q R i1 i2 q => ⟨i, j, i1, i2, q _ F H R.nx R rfl⟩
theorem ev_le {i j : Int} (ha : EV X a ss (.int i)) (hb : EV X b ss (.int j)) : EV X (.Compare a [.LtE] [b] pos) ss (.bl (decide (i ≤ j))) :=
  ev_cmp op_le ha hb fun B F H σ v u Q R i1 i2 q => ⟨i, j, i1, i2, q _ F H R.nx R rfl⟩
theorem ev_gt {i j : Int} (ha : EV X a ss (.int i)) (hb : EV X b ss (.int j)) : EV X (.Compare a [.Gt] [b] pos) ss (.bl (decide (j < i))) :=
  ev_cmp op_gt ha hb fun B F H σ v u Q R i1 i2 q => ⟨i, j, i1, i2, q _ F H R.nx R rfl⟩
theorem ev_ge {i j : Int} (ha : EV X a ss (.int i)) (hb : EV X b ss (.int j)) : EV X (.Compare a [.GtE] [b] pos) ss (.bl (decide (j ≤ i))) :=
  ev_cmp op_ge ha hb fun B F H σ v u Q R i1 i2 q => ⟨i, j, i1, i2, q _ F H R.nx R rfl⟩
theorem ev_eqI {i j : Int} (ha : EV X a ss (.int i)) (hb : EV X b ss (.int j)) : EV X (.Compare a [.Eq] [b] pos) ss (.bl (decide (i = j))) :=
  ev_cmp op_eq ha hb fun B F H σ v u Q R i1 i2 q => by
    cases i1; cases i2
    exact ⟨rfl, q _ F H R.nx R (by show V.bl _ = V.bl _; rw [dec_int, Bool.beq_eq_decide_eq])⟩
theorem ev_neI {i j : Int} (ha : EV X a ss (.int i)) (hb : EV X b ss (.int j)) : EV X (.Compare a [.NotEq] [b] pos) ss (.bl (!decide (i = j))) :=
  ev_cmp op_ne ha hb fun B F H σ v u Q R i1 i2 q => by
    cases i1; cases i2
    exact ⟨rfl, q _ F H R.nx R (by show V.bl _ = V.bl _; rw [dec_int, Bool.beq_eq_decide_eq])⟩
theorem ev_eqS {i j : Str} (ha : EV X a ss (.str i)) (hb : EV X b ss (.str j)) : EV X (.Compare a [.Eq] [b] pos) ss (.bl (decide (i = j))) :=
  ev_cmp op_eq ha hb fun B F H σ v u Q R i1 i2 q => by
    cases i1; cases i2
    exact ⟨rfl, q _ F H R.nx R (by show V.bl _ = V.bl _; rw [dec_str, Bool.beq_eq_decide_eq])⟩
/-! arguments, displays -/
theorem evs_nil : EVs X [] ss [] := EVs.of pa_nil fun B F H σ Q R k => k [] F H R.nx R rfl
theorem evs_cons (ha : EV X e ss d) (hr : EVs X es ss ds) (hs : starEach (e :: es) X.env = (false, eval e X.env) :: starEach es X.env := by rfl) : EVs X (e :: es) ss (d :: ds) :=
  EVs.of (pa_cons ha hr hs) fun B F H σ Q R k => ev_go R fun v F1 H1 n1 R1 i1 => evs_go R1 fun vs F2 H2 n2 R2 i2 =>
    k (v :: vs) F2 H2 (n1.trans n2) R2 ⟨v, vs, rfl, Is.mono n2.f _ i1, i2⟩
theorem small_len {n : Nat} (h : n ≤ 100000) : n ≤ sizeLine := by rw [sizeLine_eq]; omega
theorem ev_tup {x1} (h : EVs X es ss ds) (hl : ds.length ≤ 100000 := by exact Nat.le_of_ble_eq_true rfl) : EV X (.Tuple es x1 pos) ss (.tup ds) :=
  EV.of (pe_tup h) fun B F H σ Q R k => evs_go R fun vs F1 H1 n1 R1 i1 => ⟨by rw [i1.length]; exact small_len hl, fun p hp =>
    k _ _ _ (n1.trans (Nx.alloc R1.sub hp)) (R1.alloc hp) ⟨p, vs, rfl, SqT.of upd_same, IsL.mono (Nx.alloc R1.sub hp).f _ i1⟩⟩
theorem ev_lst (h : EVs X es ss ds) (hl : ds.length ≤ 100000 := by exact Nat.le_of_ble_eq_true rfl) : EV X (.List es pos) ss (.lst ds) :=
  EV.of (pe_lst h) fun B F H σ Q R k => evs_go R fun vs F1 H1 n1 R1 i1 => ⟨by rw [i1.length]; exact small_len hl, fun p hp =>
    k _ _ _ (n1.trans (Nx.alloc R1.sub hp)) (R1.alloc hp) ⟨p, vs, rfl, upd_same, IsL.mono (Nx.alloc R1.sub hp).f _ i1⟩⟩
/-! items -/
theorem ev_ixL {xs : List D} {i : Int} (hi : ∃ n : Nat, i = n ∧ xs[n]? = some d) (ha : EV X a ss (.lst xs)) (hb : EV X b ss (.int i)) (hs : PlainIx b := by exact fun _ _ => rfl) : EV X (.Subscript a b pos) ss d :=
  EV.of (pe_ix ix_list ha hb hs) fun B F H σ Q R q => ev_go R fun v F1 H1 n1 R1 i1 => ev_go R1 fun u F2 H2 n2 R2 i2 => by
    obtain ⟨p, vs, rfl, e2, e3⟩ := i1
    obtain ⟨n, rfl, hn⟩ := hi
    obtain ⟨w, hw, iw⟩ := IsL.get' e3 hn
    exact ⟨p, vs, _, w, rfl, i2, SqL.of (R2.sub _ _ (n2.f _ _ e2)), atI_nat hw, q _ _ _ (n1.trans n2) R2 (Is.mono n2.f _ iw)⟩
theorem ev_ixR {xs : List D} {i : Int} (hi : ∃ n : Nat, i = n ∧ xs[n]? = some d) (ha : EV X a ss (.rdl xs)) (hb : EV X b ss (.int i)) (hs : PlainIx b := by exact fun _ _ => rfl) : EV X (.Subscript a b pos) ss d :=
  EV.of (pe_ix ix_list ha hb hs) fun B F H σ Q R q => ev_go R fun v F1 H1 n1 R1 i1 => ev_go R1 fun u F2 H2 n2 R2 i2 => by
    obtain ⟨p, vs, rfl, e2, e3⟩ := i1
    obtain ⟨n, rfl, hn⟩ := hi
    obtain ⟨w, hw, iw⟩ := IsL.get' e3 hn
    exact ⟨p, vs, _, w, rfl, i2, ext_seqL (n2.f.trans R2.sub) e2, atI_nat hw, q _ _ _ (n1.trans n2) R2 (Is.mono n2.f _ iw)⟩
theorem ev_ixT {xs : List D} {i : Int} (hi : ∃ n : Nat, i = n ∧ xs[n]? = some d) (ha : EV X a ss (.tup xs)) (hb : EV X b ss (.int i)) (hs : PlainIx b := by exact fun _ _ => rfl) : EV X (.Subscript a b pos) ss d :=
  EV.of (pe_ix ix_tup ha hb hs) fun B F H σ Q R q => ev_go R fun v F1 H1 n1 R1 i1 => ev_go R1 fun u F2 H2 n2 R2 i2 => by
    obtain ⟨p, vs, rfl, e2, e3⟩ := i1
    obtain ⟨n, rfl, hn⟩ := hi
    obtain ⟨w, hw, iw⟩ := IsL.get' e3 hn
    exact ⟨p, vs, _, w, rfl, i2, ext_seqT (n2.f.trans R2.sub) e2, atI_nat hw, q _ _ _ (n1.trans n2) R2 (Is.mono n2.f _ iw)⟩
/-! tests -/
theorem tv_of {b : Bool} (h : EV X e ss (.bl b)) (he : ∀ whole, isTrue e X.env whole = (do let v ← whole; standAt e.pos; holding [v] (truthy v)) := by intro _; rfl) : TV X e ss b :=
  TV.of (pt_val h he) fun B F H σ Q R q => ev_go R fun v F1 H1 n1 R1 i1 => ⟨b, i1, q F1 H1 n1 R1⟩
theorem tv_cmp {op : CmpOp} {r : R2} {x y : D} {k : Bool} (ho : OpR X (compareOp op) r) (ha : EV X a ss x) (hb : EV X b ss y)
    (kk : ∀ B F H σ v u Q, StR X.K B F H σ ss → Is X.K F x v → Is X.K F y u → (∀ F1 H1, Nx F H F1 H1 → StR X.K B F1 H1 σ ss → Q (.bl k) H1) → r v u H Q)
    (h1 : behindInMarks op b = false := by first | exact nomark _ | rfl) : TV X (.Compare a [op] [b] pos) ss k :=
  TV.of (pt_cmpR ho ha hb h1) fun B F H σ Q R q => ev_go R fun v F1 H1 n1 R1 i1 => ev_go R1 fun u F2 H2 n2 R2 i2 =>
    kk B F2 H2 σ v u _ R2 (Is.mono n2.f _ i1) i2 fun F3 H3 n3 R3 => ⟨k, rfl, q F3 H3 ((n1.trans n2).trans n3) R3⟩
theorem tv_lt {i j : Int} (ha : EV X a ss (.int i)) (hb : EV X b ss (.int j)) : TV X (.Compare a [.Lt] [b] pos) ss (decide (i < j)) :=
  tv_cmp op_lt ha hb fun B F H σ v u Q R i1 i2 q => ⟨i, j, i1, i2, q F H R.nx R⟩
theorem tv_le {i j : Int} (ha : EV X a ss (.int i)) (hb : EV X b ss (.int j)) : TV X (.Compare a [.LtE] [b] pos) ss (decide (i ≤ j)) :=
  tv_cmp op_le ha hb fun B F H σ v u Q R i1 i2 q => ⟨i, j, i1, i2, q F H R.nx R⟩
theorem tv_gt {i j : Int} (ha : EV X a ss (.int i)) (hb : EV X b ss (.int j)) : TV X (.Compare a [.Gt] [b] pos) ss (decide (j < i)) :=
  tv_cmp op_gt ha hb fun B F H σ v u Q R i1 i2 q => ⟨i, j, i1, i2, q F H R.nx R⟩
theorem tv_ge {i j : Int} (ha : EV X a ss (.int i)) (hb : EV X b ss (.int j)) : TV X (.Compare a [.GtE] [b] pos) ss (decide (j ≤ i)) :=
  tv_cmp op_ge ha hb fun B F H σ v u Q R i1 i2 q => ⟨i, j, i1, i2, q F H R.nx R⟩
theorem tv_eqI {i j : Int} (ha : EV X a ss (.int i)) (hb : EV X b ss (.int j)) : TV X (.Compare a [.Eq] [b] pos) ss (decide (i = j)) :=
  tv_cmp op_eq ha hb fun B F H σ v u Q R i1 i2 q => by
    cases i1; cases i2
    refine ⟨rfl, ?_⟩
    rw [dec_int, Bool.beq_eq_decide_eq]
    exact q F H R.nx R
theorem tv_neI {i j : Int} (ha : EV X a ss (.int i)) (hb : EV X b ss (.int j)) : TV X (.Compare a [.NotEq] [b] pos) ss (!decide (i = j)) :=
  tv_cmp op_ne ha hb fun B F H σ v u Q R i1 i2 q => by
    cases i1; cases i2
    refine ⟨rfl, ?_⟩
    rw [dec_int, Bool.beq_eq_decide_eq]
    exact q F H R.nx R
theorem tv_not {k : Bool} (h : TV X a ss k) : TV X (.UnaryOp .Not a pos) ss (!k) := TV.of (pt_not h) fun B F H σ Q R q => tv_go R q
def TW (X : Cx) (e : Expr) (ss : SS) (b : Bool) : Prop := PW X e (tTv X.K fun ss' b' => ss' = ss ∧ b' = b)
theorem PW.imp {e : Expr} {t t' : TT} (h : PW X e t) (k : ∀ σ H Q, t' σ H Q → t σ H Q) : PW X e t' := ⟨fun wh pins s σ H Q I q => h.run wh pins s σ H Q I (k σ H Q q)⟩
theorem TW.tv {k : Bool} (h : TW X e ss k) : TV X e ss k := PW.pt h
theorem tw_and1 {k : Bool} (h : TV X a ss k) : TW X (.BoolOp .And [a] pos) ss k := pw_and1 h
theorem tw_or1 {k : Bool} (h : TV X a ss k) : TW X (.BoolOp .Or [a] pos) ss k := pw_or1 h
theorem tw_andT {k : Bool} (h : TV X a ss true) (g : TW X (.BoolOp .And (b :: es) pos) ss k) : TW X (.BoolOp .And (a :: b :: es) pos) ss k :=
  PW.imp (pw_and h g) fun σ H Q ⟨B, F, ss', d', ⟨e1, e2⟩, R, q⟩ => by
    subst e1; subst e2
    exact tv_go R fun F1 H1 n1 R1 => iteT (tv_go R1 fun F2 H2 n2 R2 => q F2 H2 (n1.trans n2) R2)
theorem tw_andF {t : TT} (h : TV X a ss false) (g : PW X (.BoolOp .And (b :: es) pos) t) : TW X (.BoolOp .And (a :: b :: es) pos) ss false :=
  PW.imp (pw_and h g) fun σ H Q ⟨B, F, ss', d', ⟨e1, e2⟩, R, q⟩ => by
    subst e1; subst e2
    exact tv_go R fun F1 H1 n1 R1 => iteF (q F1 H1 n1 R1)
end
end Fd

set_option Elab.async false
set_option linter.all false
set_option maxRecDepth 100000
set_option maxHeartbeats 2000000
/-! Fd2: statements, loops, comprehensions, calls of defs. -/
namespace Fd
open PySem PySem.Spec PyProof.Rows L2
/-! ### statements -/
structure Post where
  nx : SS → Prop
  rt : D → Prop
  bk : SS → Prop := fun _ => False
  ct : SS → Prop := fun _ => False
def tSv (K : PySem.W.Frag) (Rl : SS → Post → Prop) : TS := fun Dn σ H => ∃ B F ss P, Rl ss P ∧ StR K B F H σ ss ∧ (∀ ss' σ' F1 H1, P.nx ss' → StR K B F1 H1 σ' ss' → Dn.nx σ' H1) ∧
  (∀ d v ss' σ' F1 H1, P.rt d → StR K B F1 H1 σ' ss' → Is K F1 d v → Dn.rt v H1) ∧ (∀ ss' σ' F1 H1, P.bk ss' → StR K B F1 H1 σ' ss' → Dn.bk σ' H1) ∧ (∀ ss' σ' F1 H1, P.ct ss' → StR K B F1 H1 σ' ss' → Dn.ct σ' H1)
def SV (X : Cx) (st : Stmt) (ss : SS) (P : Post) : Prop := PS X st (tSv X.K fun ss' P' => ss' = ss ∧ P' = P)
def SVs (X : Cx) (st : List Stmt) (ss : SS) (P : Post) : Prop := PSs X st (tSv X.K fun ss' P' => ss' = ss ∧ P' = P)
section
variable {X : Cx} {ss : SS} {P : Post} {st : Stmt} {sts rest : List Stmt} {e : Expr} {d : D} {pos : Pos}
/-- the ends of a statement from a state -/
structure Go (K : PySem.W.Frag) (B : Hp × Hp) (P : Post) (Dn : Ends) : Prop where
  nx : ∀ ss' σ' F1 H1, P.nx ss' → StR K B F1 H1 σ' ss' → Dn.nx σ' H1
  rt : ∀ d v ss' σ' F1 H1, P.rt d → StR K B F1 H1 σ' ss' → Is K F1 d v → Dn.rt v H1
  bk : ∀ ss' σ' F1 H1, P.bk ss' → StR K B F1 H1 σ' ss' → Dn.bk σ' H1
  ct : ∀ ss' σ' F1 H1, P.ct ss' → StR K B F1 H1 σ' ss' → Dn.ct σ' H1
theorem SV.of {t : TS} (h : PS X st t) (k : ∀ B F H σ Dn, StR X.K B F H σ ss → Go X.K B P Dn → t Dn σ H) : SV X st ss P :=
  PS.imp h fun Dn σ H ⟨B, F, ss', P', ⟨e1, e2⟩, R, q1, q2, q3, q4⟩ => by subst e1; subst e2; exact k B F H σ Dn R ⟨q1, q2, q3, q4⟩
theorem SVs.of {t : TS} (h : PSs X sts t) (k : ∀ B F H σ Dn, StR X.K B F H σ ss → Go X.K B P Dn → t Dn σ H) : SVs X sts ss P :=
  PSs.imp h fun Dn σ H ⟨B, F, ss', P', ⟨e1, e2⟩, R, q1, q2, q3, q4⟩ => by subst e1; subst e2; exact k B F H σ Dn R ⟨q1, q2, q3, q4⟩
theorem pss_fam {Rl : SS → Post → Prop} (h : ∀ ss P, Rl ss P → SVs X sts ss P) : PSs X sts (tSv X.K Rl) := ⟨fun pins s σ H Dn I q => by
  obtain ⟨B, F, ss, P, r, R, q⟩ := q
  exact (h ss P r).run pins s σ H Dn I ⟨B, F, ss, P, ⟨rfl, rfl⟩, R, q⟩⟩
abbrev AllSv (X : Cx) (sts : List Stmt) : TS := tSv X.K fun ss P => SVs X sts ss P
theorem pss_all : PSs X sts (AllSv X sts) := pss_fam fun _ _ h => h
theorem sv_go {B : Hp × Hp} {F H : Hp} {σ : L2.St} {Dn : Ends} (h : SVs X sts ss P) (R : StR X.K B F H σ ss) (g : Go X.K B P Dn) : AllSv X sts Dn σ H := ⟨B, F, ss, P, h, R, g.nx, g.rt, g.bk, g.ct⟩
theorem svs_nil (h : P.nx ss) : SVs X [] ss P := SVs.of pss_nil fun B F H σ Dn R g => g.nx _ _ _ _ h R
theorem svs_cons (h : SV X st ss ⟨fun ss' => SVs X rest ss' P, P.rt, P.bk, P.ct⟩) : SVs X (st :: rest) ss P :=
  SVs.of (pss_cons h pss_all) fun B F H σ Dn R g => ⟨B, F, ss, _, ⟨rfl, rfl⟩, R, fun ss' σ' F1 H1 q R1 => sv_go q R1 g, g.rt, g.bk, g.ct⟩
theorem svs_one (h : SV X st ss P) : SVs X [st] ss P := SVs.of (pss_one h) fun B F H σ Dn R g => ⟨B, F, ss, P, ⟨rfl, rfl⟩, R, g.nx, g.rt, g.bk, g.ct⟩
theorem SV.post {P' : Post} (h : SV X st ss P') (h1 : ∀ s, P'.nx s → P.nx s) (h2 : ∀ d, P'.rt d → P.rt d) (h3 : ∀ s, P'.bk s → P.bk s) (h4 : ∀ s, P'.ct s → P.ct s) : SV X st ss P :=
  SV.of h fun B F H σ Dn R g => ⟨B, F, ss, P', ⟨rfl, rfl⟩, R, fun ss' σ' F1 H1 q => g.nx ss' σ' F1 H1 (h1 _ q), fun d v ss' σ' F1 H1 q => g.rt d v ss' σ' F1 H1 (h2 _ q), fun ss' σ' F1 H1 q => g.bk ss' σ' F1 H1 (h3 _ q), fun ss' σ' F1 H1 q => g.ct ss' σ' F1 H1 (h4 _ q)⟩
theorem SVs.post {P' : Post} (h : SVs X sts ss P') (h1 : ∀ s, P'.nx s → P.nx s) (h2 : ∀ d, P'.rt d → P.rt d) (h3 : ∀ s, P'.bk s → P.bk s) (h4 : ∀ s, P'.ct s → P.ct s) : SVs X sts ss P :=
  SVs.of h fun B F H σ Dn R g => ⟨B, F, ss, P', ⟨rfl, rfl⟩, R, fun ss' σ' F1 H1 q => g.nx ss' σ' F1 H1 (h1 _ q), fun d v ss' σ' F1 H1 q => g.rt d v ss' σ' F1 H1 (h2 _ q), fun ss' σ' F1 H1 q => g.bk ss' σ' F1 H1 (h3 _ q), fun ss' σ' F1 H1 q => g.ct ss' σ' F1 H1 (h4 _ q)⟩
theorem sv_pass (h : P.nx ss) : SV X (.Pass pos) ss P := SV.of ps_pass fun B F H σ Dn R g => g.nx _ _ _ _ h R
theorem sv_break (h : P.bk ss) : SV X (.Break pos) ss P := SV.of ps_break fun B F H σ Dn R g => g.bk _ _ _ _ h R
theorem sv_continue (h : P.ct ss) : SV X (.Continue pos) ss P := SV.of ps_continue fun B F H σ Dn R g => g.ct _ _ _ _ h R
theorem sv_ret (h : EV X e ss d) (k : P.rt d) : SV X (.Return (some e) pos) ss P := SV.of (ps_ret h) fun B F H σ Dn R g => ev_go R fun v F1 H1 n1 R1 i1 => g.rt d v ss σ F1 H1 k R1 i1
theorem sv_retN (k : P.rt .non) : SV X (.Return none pos) ss P := SV.of ps_retN fun B F H σ Dn R g => g.rt .non _ ss σ F H k R rfl
theorem sv_expr (h : EV X e ss d) (k : P.nx ss) (hs : swapsWith e none pos.line X.env = pure false := by rfl) : SV X (.Expr e pos) ss P := SV.of (ps_expr h hs) fun B F H σ Dn R g => ev_go R fun v F1 H1 n1 R1 i1 => g.nx ss σ F1 H1 k R1
theorem sv_if {c : Expr} {a b : List Stmt} {t : Bool} (hc : TV X c ss t) (h1 : t = true → SVs X a ss P) (h2 : t = false → SVs X b ss P) : SV X (.If c a b pos) ss P :=
  SV.of (ps_if hc pss_all pss_all) fun B F H σ Dn R g => tv_go R fun F1 H1 n1 R1 => by
    cases t with
    | true => exact iteT (sv_go (h1 rfl) R1 g)
    | false => exact iteF (sv_go (h2 rfl) R1 g)
theorem sv_set (i : Nat) {x : Str} {pos' : Pos} (he : EV X e ss d) (k : P.nx (ss.set i (.d d))) (hN : X.N.Nodup) (hi : X.N[i]? = some x := by rfl) (hx : Loc X.env.scope x := by first | exact Or.inl rfl | exact Or.inr rfl)
    (hs : swapsWith e (some (.Name x pos')) pos.line X.env = pure false := by rfl) (hf : X.fn x = true ∨ X.env.scope.names.lookup x = some .local := by first | exact .inl rfl | exact .inr rfl | assumption) : SV X (.Assign [.Name x pos'] e pos) ss P :=
  SV.of (ps_set hN hi hx he hs hf) fun B F H σ Dn R g => ev_go R fun v F1 H1 n1 R1 i1 => g.nx _ _ F1 H1 k (R1.put i1)
end
/-! ### lists of one's own -/
section
variable {K : PySem.W.Frag} {B : Hp × Hp} {F H F1 H1 F2 H2 : Hp} {σ : L2.St} {ss : SS}
/-- B.2 p = none for what is new -/
theorem StR.base_none (R : StR K B F H σ ss) {p : Addr} (h : H p = none) : B.2 p = none := by
  cases e : B.2 p with
  | none => rfl
  | some u => rw [R.bH p u e] at h; cases h
theorem StR.free (R : StR K B F H σ ss) {p : Addr} (h : H p = none) : F p = none := by
  cases e : F p with
  | none => rfl
  | some u => rw [R.sub p u e] at h; cases h
/-- own slots stand in the heap -/
theorem StR.mine_at (R : StR K B F H σ ss) {i : Nat} {s : S} (h : ss[i]? = some s) (m : s.mine = true) : ∃ p, σ[i]? = some (some (.ref p)) ∧ F p = none ∧ H p ≠ none := by
  have hi : i < ss.length := (List.getElem?_eq_some_iff.mp h).1
  have hs : i < σ.length := by rw [R.len]; exact hi
  have q := R.slots i _ _ h (List.getElem?_eq_getElem hs)
  rw [List.getElem?_eq_getElem hs]
  cases s with
  | own xs => obtain ⟨p, vs, e, e1, e2, _⟩ := q; exact ⟨p, by rw [e], e1, by rw [e2]; exact fun z => nomatch z⟩
  | obj C ns xs => obtain ⟨p, dx, fs, e, e1, e2, _⟩ := q; exact ⟨p, by rw [e], e1, by rw [e2]; exact fun z => nomatch z⟩
  | dic ks xs => obtain ⟨p, kvs, e, e1, e2, _⟩ := q; exact ⟨p, by rw [e], e1, by rw [e2]; exact fun z => nomatch z⟩
  | _ => cases m
/-- a change at p of the whole heap alone, p no own slot's -/
theorem StR.updH {p : Addr} {o : HO} (R : StR K B F H σ ss) (hF : F p = none) (hB : B.2 p = none) (ho : ∀ (i : Nat) (s : S), ss[i]? = some s → s.mine = true → σ[i]? ≠ some (some (.ref p))) : StR K B F (upd H p o) σ ss where
  len := R.len
  bF := R.bF
  bH := fun q u e => by rw [upd_ne (ne_of_none e hB)]; exact R.bH q u e
  sub := fun q u e => by rw [upd_ne (ne_of_none e hF)]; exact R.sub q u e
  new := R.new
  slots := fun i s oo e1 e2 => by
    have q := R.slots i s oo e1 e2
    have ne : ∀ {p' : Addr}, s.mine = true → oo = some (.ref p') → p' ≠ p := fun {p'} m e z => ho i s e1 m (by rw [e2, e, z])
    cases s with
    | no => exact True.intro
    | d x => exact q
    | own xs => obtain ⟨p', vs, e, e3, e4, h⟩ := q; exact ⟨p', vs, e, e3, by rw [upd_ne (ne rfl e)]; exact e4, h⟩
    | obj C ns xs => obtain ⟨p', dx, fs, e, e3, e4, h⟩ := q; exact ⟨p', dx, fs, e, e3, by rw [upd_ne (ne rfl e)]; exact e4, h⟩
    | dic ks xs => obtain ⟨p', kvs, e, e3, e4, h⟩ := q; exact ⟨p', kvs, e, e3, by rw [upd_ne (ne rfl e)]; exact e4, h⟩
  own := R.own
  dis := R.dis
/-- a slot is given an object of its own -/
theorem StR.putOwn {i : Nat} {s : S} {p : Addr} (R : StR K B F H σ ss) (m : s.mine = true) (h : SlotIs K F H s (some (.ref p))) (hB : B.2 p = none) (ho : ∀ (j : Nat) (t : S), j ≠ i → ss[j]? = some t → t.mine = true → σ[j]? ≠ some (some (.ref p))) :
    StR K B F H (σ.set i (some (.ref p))) (ss.set i s) where
  len := by simp [R.len]
  bF := R.bF
  bH := R.bH
  sub := R.sub
  new := R.new
  slots := fun j t o e1 e2 => by
    rcases set_get e1 with ⟨q, rfl⟩ | ⟨q, e1⟩
    · rcases set_get e2 with ⟨_, rfl⟩ | ⟨q2, _⟩
      · exact h
      · exact absurd q q2
    · rcases set_get e2 with ⟨q2, _⟩ | ⟨_, e2⟩
      · exact absurd q2 q
      · exact R.slots j t o e1 e2
  own := fun j t p' e1 m' e2 => by
    rcases set_get e1 with ⟨q, rfl⟩ | ⟨q, e1⟩
    · rcases set_get e2 with ⟨_, z⟩ | ⟨q2, _⟩
      · cases z; exact hB
      · exact absurd q q2
    · rcases set_get e2 with ⟨q2, _⟩ | ⟨_, e2⟩
      · exact absurd q2 q
      · exact R.own j t p' e1 m' e2
  dis := fun j k s' t p' e1 e2 m1 m2 e3 e4 => by
    rcases set_get e3 with ⟨q, z⟩ | ⟨q, e3⟩
    · cases z
      rcases set_get e4 with ⟨q', z⟩ | ⟨q', e4⟩
      · exact q.symm.trans q'
      · rcases set_get e2 with ⟨q2, _⟩ | ⟨_, e2⟩
        · exact absurd q2 q'
        · exact absurd e4 (ho k t (fun z => q' z.symm) e2 m2)
    · rcases set_get e1 with ⟨q2, _⟩ | ⟨_, e1⟩
      · exact absurd q2 q
      · rcases set_get e4 with ⟨q', z⟩ | ⟨q', e4⟩
        · cases z
          exact absurd e3 (ho j s' (fun z => q z.symm) e1 m1)
        · rcases set_get e2 with ⟨q2, _⟩ | ⟨_, e2⟩
          · exact absurd q2 q'
          · exact R.dis j k s' t p' e1 e2 m1 m2 e3 e4
/-- a fresh object laid and given to a slot -/
theorem StR.newOwn {i : Nat} {s : S} {p : Addr} {o : HO} (R : StR K B F H σ ss) (hp : H p = none) (m : s.mine = true) (h : SlotIs K F (upd H p o) s (some (.ref p))) : StR K B F (upd H p o) (σ.set i (some (.ref p))) (ss.set i s) := by
  have no : ∀ (j : Nat) (t : S), ss[j]? = some t → t.mine = true → σ[j]? ≠ some (some (.ref p)) := fun j t e mt z => by
    obtain ⟨p', e1, _, e3⟩ := R.mine_at e mt
    rw [z] at e1
    cases e1
    exact e3 hp
  exact (R.updH (R.free hp) (R.base_none hp) no).putOwn m h (R.base_none hp) fun j t _ => no j t
theorem set_self {α : Type} {l : List α} {i : Nat} {a : α} (h : l[i]? = some a) : l.set i a = l := by
  apply List.ext_getElem?
  intro j
  by_cases e : i = j
  · subst e
    rw [List.getElem?_set_self (List.getElem?_eq_some_iff.mp h).1, h]
  · rw [List.getElem?_set_ne e]
/-- an own object is changed -/
theorem StR.chg {i : Nat} {s s' : S} {p : Addr} {o : HO} (R : StR K B F H σ ss) (hs : ss[i]? = some s) (m : s.mine = true) (hσ : σ[i]? = some (some (.ref p))) (m' : s'.mine = true) (hF : F p = none) (h : SlotIs K F (upd H p o) s' (some (.ref p))) :
    StR K B F (upd H p o) σ (ss.set i s') := by
  have hB := R.own i s p hs m hσ
  have R1 : StR K B F H σ (ss.set i .no) := R.less hs (.inr trivial)
  have hil : i < ss.length := (List.getElem?_eq_some_iff.mp hs).1
  have no : ∀ (j : Nat) (t : S), (ss.set i .no)[j]? = some t → t.mine = true → σ[j]? ≠ some (some (.ref p)) := fun j t e mt z => by
    rcases set_get e with ⟨_, rfl⟩ | ⟨q, e⟩
    · cases mt
    · exact q (R.dis i j s t p hs e m mt hσ z)
  have R2 := (R1.updH (o := o) hF hB no).putOwn (i := i) m' h hB fun j t _ => no j t
  rw [set_self hσ, List.set_set] at R2
  exact R2
/-- what was one's own is never changed again: a datum -/
theorem StR.freeze {i : Nat} {xs : List D} (R : StR K B F H σ ss) (h : ss[i]? = some (.own xs)) : ∃ F', Ext F F' ∧ Nx F H F' H ∨ True := ⟨F, .inr trivial⟩
theorem StR.freezeL {i : Nat} {xs : List D} (R : StR K B F H σ ss) (h : ss[i]? = some (.own xs)) : ∃ F', Ext F F' ∧ StR K B F' H σ (ss.set i (.d (.lst xs))) := by
  have hi : i < ss.length := (List.getElem?_eq_some_iff.mp h).1
  have hs : i < σ.length := by rw [R.len]; exact hi
  obtain ⟨p, vs, e, e1, e2, hx⟩ := R.slots i _ _ h (List.getElem?_eq_getElem hs)
  have hσ : σ[i]? = some (some (.ref p)) := by rw [List.getElem?_eq_getElem hs, e]
  have hB := R.own i _ p h rfl hσ
  have xF : Ext F (upd F p (.lst vs)) := Ext.upd e1
  refine ⟨upd F p (.lst vs), xF, ⟨by simp [R.len], R.bF.trans xF, R.bH, fun q u z => ?_, fun q u z => ?_, fun j s o z1 z2 => ?_, fun j s q z1 m z2 => ?_, fun j k s t q z1 z2 m1 m2 z3 z4 => ?_⟩⟩
  · by_cases hq : q = p
    · subst hq; rw [upd_same] at z; rw [e2]; exact z
    · rw [upd_ne hq] at z; exact R.sub q u z
  · by_cases hq : q = p
    · subst hq; exact .inr hB
    · rw [upd_ne hq] at z; exact R.new q u z
  · rcases set_get z1 with ⟨q, rfl⟩ | ⟨q, z1⟩
    · subst q
      rw [hσ] at z2
      cases z2
      exact ⟨.ref p, rfl, p, vs, rfl, upd_same, IsL.mono xF _ hx⟩
    · have w := R.slots j s o z1 z2
      have ne : ∀ {p' : Addr}, s.mine = true → o = some (.ref p') → p' ≠ p := fun {p'} m e' z => q (R.dis i j _ s p h z1 rfl m hσ (by rw [z2, e', z]))
      cases s with
      | no => exact True.intro
      | d x => obtain ⟨v, w1, w2⟩ := w; exact ⟨v, w1, Is.mono xF x w2⟩
      | own ys => obtain ⟨p', us, w1, w2, w3, w4⟩ := w; exact ⟨p', us, w1, by rw [upd_ne (ne rfl w1)]; exact w2, w3, IsL.mono xF _ w4⟩
      | obj C ns ys => obtain ⟨p', dx, fs, w1, w2, w3, w4, w5⟩ := w; exact ⟨p', dx, fs, w1, by rw [upd_ne (ne rfl w1)]; exact w2, w3, w4, IsL.mono xF _ w5⟩
      | dic ks ys => obtain ⟨p', kvs, w1, w2, w3, w4, w5⟩ := w; exact ⟨p', kvs, w1, by rw [upd_ne (ne rfl w1)]; exact w2, w3, w4, IsL.mono xF _ w5⟩
  · rcases set_get z1 with ⟨_, rfl⟩ | ⟨_, z1⟩
    · cases m
    · exact R.own j s q z1 m z2
  · rcases set_get z1 with ⟨_, rfl⟩ | ⟨_, z1⟩
    · cases m1
    · rcases set_get z2 with ⟨_, rfl⟩ | ⟨_, z2⟩
      · cases m2
      · exact R.dis j k s t q z1 z2 m1 m2 z3 z4
theorem StR.rebase (R : StR K B F H σ ss) : StR K (F, B.2) F H σ ss := ⟨R.len, fun _ _ h => h, R.bH, R.sub, fun p o e => .inl (by show F p ≠ none; rw [e]; exact fun z => nomatch z), R.slots, R.own, R.dis⟩
theorem StR.unbase {σ' : L2.St} {ss' : SS} (R : StR K B F H σ ss) (R' : StR K (F, B.2) F1 H1 σ' ss') : StR K B F1 H1 σ' ss' := ⟨R'.len, R.bF.trans R'.bF, R'.bH, R'.sub, fun p o e => by
  rcases R'.new p o e with z | z
  · cases q : F p with
    | none => exact absurd q z
    | some u => exact R.new p u q
  · exact .inr z, R'.slots, R'.own, R'.dis⟩
end
section
variable {X : Cx} {ss : SS} {P : Post} {st : Stmt} {sts rest : List Stmt} {e : Expr} {d : D} {ds : List D} {es : List Expr} {pos : Pos}
/-- an own list is a datum from here on -/
theorem sv_freeze (i : Nat) {xs : List D} (hi : ss[i]? = some (.own xs)) (h : SV X st (ss.set i (.d (.lst xs))) P) : SV X st ss P :=
  SV.of h fun B F H σ Dn R g => let ⟨F', _, R'⟩ := R.freezeL hi; ⟨B, F', _, P, ⟨rfl, rfl⟩, R', g.nx, g.rt, g.bk, g.ct⟩
theorem svs_freeze (i : Nat) {xs : List D} (hi : ss[i]? = some (.own xs)) (h : SVs X sts (ss.set i (.d (.lst xs))) P) : SVs X sts ss P :=
  SVs.of h fun B F H σ Dn R g => let ⟨F', _, R'⟩ := R.freezeL hi; ⟨B, F', _, P, ⟨rfl, rfl⟩, R', g.nx, g.rt, g.bk, g.ct⟩
/-- x = [..]: a list of one's own -/
theorem sv_setOwn (i : Nat) {x : Str} {pos' pl : Pos} (he : EVs X es ss ds) (k : P.nx (ss.set i (.own ds))) (hN : X.N.Nodup) (hl : ds.length ≤ 100000 := by exact Nat.le_of_ble_eq_true rfl) (hi : X.N[i]? = some x := by rfl) (hx : Loc X.env.scope x := by first | exact Or.inl rfl | exact Or.inr rfl)
    (hs : swapsWith (.List es pl) (some (.Name x pos')) pos.line X.env = pure false := by rfl) (hf : X.fn x = true ∨ X.env.scope.names.lookup x = some .local := by first | exact .inl rfl | exact .inr rfl | assumption) :
    SV X (.Assign [.Name x pos'] (.List es pl) pos) ss P :=
  SV.of (ps_set hN hi hx (pe_lst he) hs hf) fun B F H σ Dn R g => evs_go R fun vs F1 H1 n1 R1 i1 => ⟨by rw [i1.length]; exact small_len hl, fun p hp =>
    g.nx _ _ _ _ k (R1.newOwn hp rfl ⟨p, vs, rfl, R1.free hp, upd_same, i1⟩)⟩
/-- x.append(e) -/
theorem sv_append (i : Nat) {xs : List D} {x : Str} {px ap cp : Pos} (hx : ss[i]? = some (.own xs)) (he : EV X e ss d) (k : P.nx (ss.set i (.own (xs ++ [d])))) (hl : xs.length ≤ 100000)
    (hp : ∀ {te : TE}, PE X e te → PE X (.Call (.Attribute (.Name x px) "append" ap) [e] [] cp) (tBM X.K "list" rAppend (tVar i) (tCons te tNil)) := by
      intro te h; exact pe_bm PySem.F.plainAttrs_list PySem.F.slot_list_append PySem.F.type_list_append mt_append (pv _) (pa_cons h pa_nil))
    (hs : swapsWith (.Call (.Attribute (.Name x px) "append" ap) [e] [] cp) none pos.line X.env = pure false := by rfl) :
    SV X (.Expr (.Call (.Attribute (.Name x px) "append" ap) [e] [] cp) pos) ss P := by
  refine SV.of (ps_expr (hp he) hs) fun B F H σ Dn R g => ?_
  have hi : i < ss.length := (List.getElem?_eq_some_iff.mp hx).1
  have hsl : i < σ.length := by rw [R.len]; exact hi
  obtain ⟨p, vs, e1, e2, e3, e4⟩ := R.slots i _ _ hx (List.getElem?_eq_getElem hsl)
  have hσ : σ[i]? = some (some (.ref p)) := by rw [List.getElem?_eq_getElem hsl, e1]
  refine ⟨.ref p, hσ, .inl ⟨rfl, vs, SqL.of e3⟩, ev_go R fun v F1 H1 n1 R1 i1 => ?_⟩
  obtain ⟨p', vs', q1, q2, q3, q4⟩ := R1.slots i _ _ hx (List.getElem?_eq_getElem hsl)
  rw [q1] at e1
  cases e1
  refine ⟨p, _, v, rfl, rfl, q3, ?_, g.nx _ _ _ _ k (R1.chg hx rfl hσ rfl q2 ⟨p, _, rfl, q2, upd_same, q4.snoc i1⟩)⟩
  rw [q4.length, sizeLine_eq]; omega
end
end Fd

set_option Elab.async false
set_option linter.all false
set_option maxRecDepth 100000
set_option maxHeartbeats 2000000
/-! Fd3: loops, comprehensions, calls of defs. -/
namespace Fd
open PySem PySem.Spec PyProof.Rows L2
/-! ### what is walked -/
/-- J yields the data xs, one after another; it may lay new objects -/
structure Yl (K : PySem.W.Frag) (J : It) (F1 : Hp) (xs : List D) : Prop where
  item : ∀ (i : Nat) (F H : Hp), Ext F1 F → Ext F H → i < xs.length → J.go i H ∧ ∀ x H', J.yld i H x H' → ∃ F' d, Nx F H F' H' ∧ xs[i]? = some d ∧ Is K F' d x
  stop : ∀ (F H : Hp), Ext F1 F → Ext F H → J.stop xs.length H
def tIv (K : PySem.W.Frag) (ss : SS) (xs : List D) : TI := fun σ H R => ∃ B F, StR K B F H σ ss ∧ ∀ J F1 H1, Nx F H F1 H1 → StR K B F1 H1 σ ss → Yl K J F1 xs → R J H1
def IV (X : Cx) (tg e : Expr) (ss : SS) (xs : List D) : Prop := PI X tg e (tIv X.K ss xs)
section
variable {X : Cx} {ss : SS} {tg e : Expr} {xs : List D} {d : D}
theorem PI.imp {t t' : TI} (h : PI X tg e t) (k : ∀ σ H R, t' σ H R → t σ H R) : PI X tg e t' := ⟨fun pins s σ H R I q => h.run pins s σ H R I (k σ H R q)⟩
theorem IV.of {t : TI} (h : PI X tg e t) (k : ∀ B F H σ R, StR X.K B F H σ ss → (∀ J F1 H1, Nx F H F1 H1 → StR X.K B F1 H1 σ ss → Yl X.K J F1 xs → R J H1) → t σ H R) : IV X tg e ss xs :=
  PI.imp h fun σ H R ⟨B, F, R0, q⟩ => k B F H σ R R0 q
theorem iv_list (he : EV X e ss (.lst xs)) : IV X tg e ss xs := IV.of (pi_list he) fun B F H σ R R0 q => ev_go R0 fun v F1 H1 n1 R1 i1 => by
  obtain ⟨a, vs, rfl, e2, e3⟩ := i1
  refine ⟨a, rfl, ⟨vs, SqL.of (R1.sub _ _ e2)⟩, q _ F1 H1 n1 R1 ⟨fun i F H x1 x2 hi => ?_, fun F H x1 x2 => ⟨vs, SqL.of (x2 _ _ (x1 _ _ e2)), by rw [e3.length]; exact Nat.le_refl _⟩⟩⟩
  obtain ⟨v, hv, iv⟩ := IsL.get' e3 (List.getElem?_eq_getElem hi)
  refine ⟨⟨vs, v, SqL.of (x2 _ _ (x1 _ _ e2)), hv⟩, fun x H' y => ?_⟩
  obtain ⟨rfl, y⟩ := y
  have := y vs (SqL.of (x2 _ _ (x1 _ _ e2)))
  rw [hv] at this
  cases this
  exact ⟨F, _, Nx.refl x2, List.getElem?_eq_getElem hi, Is.mono x1 _ iv⟩
theorem iv_rdl (he : EV X e ss (.rdl xs)) : IV X tg e ss xs := IV.of (pi_list he) fun B F H σ R R0 q => ev_go R0 fun v F1 H1 n1 R1 i1 => by
  obtain ⟨a, vs, rfl, e2, e3⟩ := i1
  refine ⟨a, rfl, ⟨vs, ext_seqL R1.sub e2⟩, q _ F1 H1 n1 R1 ⟨fun i F H x1 x2 hi => ?_, fun F H x1 x2 => ⟨vs, ext_seqL (x1.trans x2) e2, by rw [e3.length]; exact Nat.le_refl _⟩⟩⟩
  obtain ⟨v, hv, iv⟩ := IsL.get' e3 (List.getElem?_eq_getElem hi)
  refine ⟨⟨vs, v, ext_seqL (x1.trans x2) e2, hv⟩, fun x H' y => ?_⟩
  obtain ⟨rfl, y⟩ := y
  have := y vs (ext_seqL (x1.trans x2) e2)
  rw [hv] at this
  cases this
  exact ⟨F, _, Nx.refl x2, List.getElem?_eq_getElem hi, Is.mono x1 _ iv⟩
theorem iv_tup (he : EV X e ss (.tup xs)) : IV X tg e ss xs := IV.of (pi_tup he) fun B F H σ R R0 q => ev_go R0 fun v F1 H1 n1 R1 i1 => by
  obtain ⟨a, vs, rfl, e2, e3⟩ := i1
  refine ⟨a, rfl, ⟨vs, ext_seqT R1.sub e2⟩, q _ F1 H1 n1 R1 ⟨fun i F H x1 x2 hi => ?_, fun F H x1 x2 => ⟨vs, ext_seqT (x1.trans x2) e2, by rw [e3.length]; exact Nat.le_refl _⟩⟩⟩
  obtain ⟨v, hv, iv⟩ := IsL.get' e3 (List.getElem?_eq_getElem hi)
  refine ⟨⟨vs, v, ext_seqT (x1.trans x2) e2, hv⟩, fun x H' y => ?_⟩
  obtain ⟨rfl, y⟩ := y
  have := y vs (ext_seqT (x1.trans x2) e2)
  rw [hv] at this
  cases this
  exact ⟨F, _, Nx.refl x2, List.getElem?_eq_getElem hi, Is.mono x1 _ iv⟩
/-- lo, lo + 1, .. -/
def rng (lo : Int) (n : Nat) : List D := (List.range n).map fun (i : Nat) => D.int (lo + (i : Int))
theorem rng_len (lo : Int) (n : Nat) : (rng lo n).length = n := by simp [rng]
theorem rng_get {lo : Int} {n i : Nat} (h : i < n) : (rng lo n)[i]? = some (.int (lo + (i : Int))) := by
  unfold rng
  rw [List.getElem?_map, List.getElem?_range h]
  rfl
theorem yl_range (K : PySem.W.Frag) (F1 : Hp) (lo : Int) (n : Nat) : Yl K (Itr lo n) F1 (rng lo n) := by
  refine ⟨fun i F H x1 x2 hi => ?_, fun F H x1 x2 => by show n ≤ _; rw [rng_len]; exact Nat.le_refl _⟩
  rw [rng_len] at hi
  refine ⟨hi, fun x H' y => ?_⟩
  obtain ⟨rfl, rfl⟩ := y
  exact ⟨F, _, Nx.refl x2, rng_get hi, rfl⟩
theorem iv_range1 {a : Expr} {n : Int} {p pos : Pos} (ha : EV X a ss (.int n)) (hb : -(2 ^ 62) ≤ n ∧ n < 2 ^ 62) (hm : X.mg "range" = none) (hg : Gl X "range" := by rfl) (hs : starEach [a] X.env = [(false, eval a X.env)] := by rfl) :
    IV X tg (.Call (.Name "range" p) [a] [] pos) ss (rng 0 n.toNat) :=
  IV.of (pi_range1 hg hm (pa_cons ha pa_nil hs) hs) fun B F H σ R R0 q => ev_go R0 fun v F1 H1 n1 R1 i1 => ⟨n, by cases i1; rfl, hb.1, hb.2, q _ F1 H1 n1 R1 (yl_range _ _ _ _)⟩
theorem iv_range2 {a b : Expr} {m n : Int} {p pos : Pos} (ha : EV X a ss (.int m)) (hb' : EV X b ss (.int n)) (hb : -(2 ^ 62) ≤ m ∧ m < 2 ^ 62 ∧ -(2 ^ 62) ≤ n ∧ n < 2 ^ 62) (hm : X.mg "range" = none) (hg : Gl X "range" := by rfl)
    (hs : starEach [a, b] X.env = [(false, eval a X.env), (false, eval b X.env)] := by rfl) (hs2 : starEach [b] X.env = [(false, eval b X.env)] := by rfl) :
    IV X tg (.Call (.Name "range" p) [a, b] [] pos) ss (rng m (n - m).toNat) :=
  IV.of (pi_range2 hg hm (pa_cons ha (pa_cons hb' pa_nil hs2) (by rw [hs, hs2])) hs hs2) fun B F H σ R R0 q => ev_go R0 fun v F1 H1 n1 R1 i1 => ev_go R1 fun u F2 H2 n2 R2 i2 =>
    ⟨m, n, by cases i1; cases i2; rfl, hb, q _ F2 H2 (n1.trans n2) R2 (yl_range _ _ _ _)⟩
/-- a text's signs -/
def signs (x : Str) : List D := x.cps.toList.map fun c => .str ⟨#[c]⟩
theorem iv_str {x : Str} (he : EV X e ss (.str x)) : IV X tg e ss (signs x) := IV.of (pi_str he) fun B F H σ R R0 q => ev_go R0 fun v F1 H1 n1 R1 i1 => by
  refine ⟨x, i1, q _ F1 H1 n1 R1 ⟨fun i F H x1 x2 hi => ?_, fun F H x1 x2 => by show _ ≤ _; simp [signs]⟩⟩
  have hi' : i < x.cps.size := by simpa [signs] using hi
  refine ⟨hi', fun y H' z => ?_⟩
  obtain ⟨rfl, c, hc, rfl⟩ := z
  refine ⟨F, .str ⟨#[c]⟩, Nx.refl x2, ?_, rfl⟩
  unfold signs
  rw [List.getElem?_map, Array.getElem?_toList, hc]
  rfl
/-! ### targets -/
inductive Tg where
  | one (j : Nat)
  | many (js : List Nat)
def gNames : List Nat → TGs
  | [] => gNil
  | j :: js => gCons (gName j) (gNames js)
def gOf (K : PySem.W.Frag) : Tg → TG
  | .one j => gName j
  | .many js => gTup K js.length (gNames js)
def putMany : List Nat → List D → SS → SS
  | j :: js, x :: xs, ss => putMany js xs (ss.set j (.d x))
  | _, _, ss => ss
def Tg.put : Tg → D → SS → SS
  | .one j, x, ss => ss.set j (.d x)
  | .many js, .tup xs, ss => putMany js xs ss
  | _, _, ss => ss
def Tg.fits : Tg → D → Bool
  | .one _, _ => true
  | .many js, .tup xs => js.length == xs.length
  | _, _ => false
def Tg.slots : Tg → List Nat
  | .one j => [j]
  | .many js => js
end
section
theorem wipe_get (σ : L2.St) (i : Nat) : ∀ vs : List Nat, (wipe σ vs)[i]? = if i ∈ vs then (σ[i]?).map fun _ => none else σ[i]?
  | [] => by simp [wipe]
  | v :: vs => by
    have ih := wipe_get σ i vs
    unfold wipe
    by_cases e : v = i
    · subst e
      rw [if_pos List.mem_cons_self]
      by_cases h : v < (wipe σ vs).length
      · rw [List.getElem?_set_self h]
        rw [wipe_length] at h
        rw [List.getElem?_eq_getElem h]
        rfl
      · rw [List.getElem?_eq_none (by simpa using h)]
        rw [wipe_length] at h
        rw [List.getElem?_eq_none (by omega)]
        rfl
    · rw [List.getElem?_set_ne e, ih]
      by_cases h : i ∈ vs
      · rw [if_pos h, if_pos (List.mem_cons_of_mem _ h)]
      · rw [if_neg h, if_neg (by simp only [List.mem_cons, not_or]; exact ⟨fun z => e z.symm, h⟩)]
theorem wipe_set {σ : L2.St} {vs : List Nat} {j : Nat} {o : Option V} (h : j ∈ vs) : wipe (σ.set j o) vs = wipe σ vs := by
  apply List.ext_getElem?
  intro i
  rw [wipe_get, wipe_get]
  by_cases e : j = i
  · subst e
    rw [if_pos h, if_pos h]
    by_cases hl : j < σ.length
    · rw [List.getElem?_set_self hl, List.getElem?_eq_getElem hl]; rfl
    · rw [List.getElem?_eq_none (by simpa using hl), List.getElem?_eq_none (by simpa using hl)]
  · rw [List.getElem?_set_ne e]
theorem wipe_wipe {σ : L2.St} {vs : List Nat} : wipe (wipe σ vs) vs = wipe σ vs := by
  apply List.ext_getElem?
  intro i
  rw [wipe_get, wipe_get]
  split
  · rename_i h
    cases σ[i]? <;> rfl
  · rfl
/-- the same of what is known -/
def wipeS (ss : SS) : List Nat → SS
  | [] => ss
  | v :: vs => (wipeS ss vs).set v .no
variable {K : PySem.W.Frag} {B : Hp × Hp} {F H F1 H1 F2 H2 : Hp} {σ : L2.St} {ss : SS}
theorem StR.wipe (R : StR K B F H σ ss) : ∀ vs : List Nat, StR K B F H (L2.wipe σ vs) (wipeS ss vs)
  | [] => R
  | v :: vs => (StR.wipe R vs).forget
theorem names_go : ∀ {js : List Nat} {xs : List D} {vs : List V} {σ : L2.St} {ss : SS} {Q : L2.St → Hp → Prop} {ws : List Nat}, StR K B F H σ ss → IsL K F xs vs → js.length = xs.length → (∀ j ∈ js, j ∈ ws ∨ ws = []) →
    (∀ σ', StR K B F H σ' (putMany js xs ss) → (ws ≠ [] → L2.wipe σ' ws = L2.wipe σ ws) → Q σ' H) → gNames js vs σ H Q
  | [], [], _, σ, ss, Q, ws, R, h, _, _, k => by
    cases (show _ = _ from h)
    exact ⟨rfl, k σ R fun _ => rfl⟩
  | j :: js, x :: xs, _, σ, ss, Q, ws, R, h, hl, hw, k => by
    obtain ⟨v, r, rfl, h1, h2⟩ := h
    refine ⟨v, r, rfl, ?_⟩
    show gNames js r (σ.set j (some v)) H Q
    refine names_go (ws := ws) (R.put h1) h2 (by simpa using hl) (fun i hi => hw i (List.mem_cons_of_mem _ hi)) fun σ' R' e => k σ' R' fun hne => ?_
    rw [e hne]
    rcases hw j List.mem_cons_self with q | q
    · exact wipe_set q
    · exact absurd q hne
theorem tg_go {t : Tg} {d : D} {v : V} {Q : L2.St → Hp → Prop} {ws : List Nat} (R : StR K B F H σ ss) (h : Is K F d v) (hf : t.fits d = true) (hw : ∀ j ∈ t.slots, j ∈ ws ∨ ws = []) (k : ∀ σ', StR K B F H σ' (t.put d ss) → (ws ≠ [] → L2.wipe σ' ws = L2.wipe σ ws) → Q σ' H) : gOf K t v σ H Q := by
  cases t with
  | one j => exact k _ (R.put h) fun hne => (hw j List.mem_cons_self).elim (fun q => wipe_set q) fun q => absurd q hne
  | many js =>
    cases d with
    | tup xs =>
      obtain ⟨a, vs, rfl, e1, e2⟩ := h
      have hl : js.length = xs.length := by simpa [Tg.fits] using hf
      exact ⟨a, vs, rfl, ext_seqT R.sub e1, by rw [e2.length, hl], names_go R e2 hl hw k⟩
    | _ => cases hf
end
/-! ### loops -/
section
variable {X : Cx} {ss : SS} {P : Post} {tg e c : Expr} {body : List Stmt} {xs : List D} {d : D} {pos : Pos}
theorem sv_for (t : Tg) (I : Nat → SS → Prop) (hi : IV X tg e ss xs) (hg : PG X tg (gOf X.K t)) (h0 : I 0 ss)
    (hs : ∀ i x ss', xs[i]? = some x → I i ss' → t.fits x = true ∧ SVs X body (t.put x ss') ⟨I (i + 1), P.rt, P.nx, I (i + 1)⟩)
    (hd : ∀ ss', I xs.length ss' → P.nx ss') (hp : PassesOwn (model X.prog X.w) X.A X.env X.xe := by exact PassesOwn.never) (hc : X.calm = true := by rfl) (hf : ∀ x, foldedSetIterable e X.env x = pure x := by intro _; rfl) : SV X (.For tg e body [] pos) ss P := by
  refine SV.of (ps_for hp hc hi hg (pss_all (sts := body)) hf) fun B F H σ Dn R g => ⟨B, F, R, fun J F1 H1 n1 R1 Y => ?_⟩
  refine ⟨fun i m σ' H' => m = xs.length - i ∧ i ≤ xs.length ∧ ∃ F' ss', StR X.K (F1, B.2) F' H' σ' ss' ∧ I i ss', ⟨xs.length, by simp, Nat.zero_le _, F1, ss, R1.rebase, h0⟩, ?_⟩
  rintro i m σ' H' ⟨rfl, hi', F', ss', R', hI⟩
  by_cases hlt : i < xs.length
  · obtain ⟨go, yl⟩ := Y.item i F' H' R'.bF R'.sub hlt
    refine .inr ⟨go, fun σ2 H2 => ∃ F2 ss2, StR X.K (F1, B.2) F2 H2 σ2 ss2 ∧ I (i + 1) ss2, fun σ2 H2 ⟨F2, ss2, R2, h2⟩ => ⟨xs.length - (i + 1), by omega, rfl, hlt, F2, ss2, R2, h2⟩, fun v H2 y => ?_⟩
    obtain ⟨F2, x, n2, hx, ix⟩ := yl v H2 y
    obtain ⟨hfit, hbody⟩ := hs i x ss' hx hI
    refine tg_go (ws := []) (R'.grow n2) ix hfit (fun j _ => .inr rfl) fun σ3 R3 _ => ?_
    exact sv_go hbody R3 ⟨fun ss4 σ4 F4 H4 q R4 => ⟨F4, ss4, R4, q⟩, fun d v ss4 σ4 F4 H4 q R4 i4 => g.rt d v ss4 σ4 F4 H4 q (R1.unbase R4) i4, fun ss4 σ4 F4 H4 q R4 => g.nx ss4 σ4 F4 H4 q (R1.unbase R4), fun ss4 σ4 F4 H4 q R4 => ⟨F4, ss4, R4, q⟩⟩
  · have e : i = xs.length := by omega
    subst e
    exact .inl ⟨Y.stop F' H' R'.bF R'.sub, g.nx ss' σ' F' H' (hd ss' hI) (R1.unbase R')⟩
theorem sv_while (I : SS → Prop) (μ : SS → Nat) (h0 : I ss) (hs : ∀ ss', I ss' → ∃ b, TV X c ss' b ∧ (b = true → SVs X body ss' ⟨fun s2 => I s2 ∧ μ s2 < μ ss', P.rt, P.nx, fun s2 => I s2 ∧ μ s2 < μ ss'⟩) ∧ (b = false → P.nx ss'))
    (hp : PassesOwn (model X.prog X.w) X.A X.env X.xe := by exact PassesOwn.never) : SV X (.While c body [] pos) ss P := by
  have hc : PT X c (tTv X.K fun ss' b => TV X c ss' b) := pt_fam fun ss' b h => h
  refine SV.of (ps_while hp hc (pss_all (sts := body))) fun B F H σ Dn R g => ⟨fun m σ' H' => ∃ F' ss', StR X.K B F' H' σ' ss' ∧ I ss' ∧ m = μ ss', ⟨_, F, ss, R, h0, rfl⟩, ?_⟩
  rintro m σ' H' ⟨F', ss', R', hI, rfl⟩
  obtain ⟨b, tv, ht, hf⟩ := hs ss' hI
  refine ⟨B, F', ss', b, tv, R', fun F1 H1 n1 R1 => ?_⟩
  cases b with
  | true =>
    refine iteT ⟨fun σ2 H2 => ∃ F2 ss2, StR X.K B F2 H2 σ2 ss2 ∧ I ss2 ∧ μ ss2 < μ ss', fun σ2 H2 ⟨F2, ss2, R2, h2, l2⟩ => ⟨μ ss2, l2, F2, ss2, R2, h2, rfl⟩, ?_⟩
    exact sv_go (ht rfl) R1 ⟨fun ss4 σ4 F4 H4 q R4 => ⟨F4, ss4, R4, q⟩, g.rt, g.nx, fun ss4 σ4 F4 H4 q R4 => ⟨F4, ss4, R4, q⟩⟩
  | false => exact iteF (g.nx _ _ _ _ (hf rfl) R1)
end
/-! ### comprehensions -/
section
variable {X : Cx} {ss : SS} {tg e elt : Expr} {ifs : List Expr} {xs : List D} {pos : Pos}
def TsV (X : Cx) (ifs : List Expr) (ss : SS) (b : Bool) : Prop := PTs X ifs (tTv X.K fun ss' b' => ss' = ss ∧ b' = b)
theorem PTs.imp {t t' : TT} (h : PTs X ifs t) (k : ∀ σ H Q, t' σ H Q → t σ H Q) : PTs X ifs t' := ⟨fun pins s σ H Q I q => h.run pins s σ H Q I (k σ H Q q)⟩
theorem ts_nil : TsV X [] ss true := PTs.imp pts_nil fun σ H Q ⟨B, F, ss', b', ⟨e1, e2⟩, R, q⟩ => by subst e1; subst e2; exact q F H R.nx R
theorem ts_one {c : Expr} {b : Bool} (h : TV X c ss b) : TsV X [c] ss b := pts_one h
theorem pts_fam {Rl : SS → Bool → Prop} (h : ∀ ss d, Rl ss d → TsV X ifs ss d) : PTs X ifs (tTv X.K Rl) := ⟨fun pins s σ H Q I q => by
  obtain ⟨B, F, ss, d, r, R, k⟩ := q
  exact (h ss d r).run pins s σ H Q I ⟨B, F, ss, d, ⟨rfl, rfl⟩, R, k⟩⟩
/-- what the block's items give: keep x, then f x -/
def outs (keep : D → Bool) (f : D → D) (xs : List D) : List D := (xs.filter keep).map f
theorem outs_take {keep : D → Bool} {f : D → D} {xs : List D} {i : Nat} {x : D} (h : xs[i]? = some x) : outs keep f (xs.take (i + 1)) = if keep x = true then outs keep f (xs.take i) ++ [f x] else outs keep f (xs.take i) := by
  have e : xs.take (i + 1) = xs.take i ++ [x] := by
    rw [List.take_succ, h]; rfl
  unfold outs
  rw [e, List.filter_append, List.map_append]
  by_cases hk : keep x = true
  · rw [if_pos hk, List.filter_cons, if_pos hk]; rfl
  · rw [if_neg hk, List.filter_cons, if_neg hk]
    simp
theorem outs_len (keep : D → Bool) (f : D → D) (xs : List D) : (outs keep f xs).length ≤ xs.length := by
  unfold outs
  rw [List.length_map]
  exact List.length_filter_le _ _
/-- the reading's proof, for the value and for the store -/
theorem lc_go {K : PySem.W.Frag} {B : Hp × Hp} {F H : Hp} {σ : L2.St} {vs : List Nat} {t : Tg} {keep : D → Bool} {f : D → D} {Q : VK} (hv : vs ≠ []) (ht : ∀ j ∈ t.slots, j ∈ vs) (hfit : ∀ x ∈ xs, t.fits x = true) (hlen : xs.length ≤ 100000) (R : StR K B F H σ ss)
    (q : ∀ D vs' F1 H1, Nx F H F1 H1 → StR K B F1 H1 σ ss → F1 D = none → B.2 D = none → H D = none → H1 D = some (.lst vs') → IsL K F1 (outs keep f xs) vs' → Q (.ref D) H1) :
    tLc (tIv K ss xs) (gOf K t) (tTv K fun ss' b => ∃ x ∈ xs, ss' = t.put x (wipeS ss vs) ∧ b = keep x) (tEv K fun ss' d => ∃ x ∈ xs, keep x = true ∧ ss' = t.put x (wipeS ss vs) ∧ d = f x) vs σ H Q := by
  refine ⟨B, F, R, fun J F1 H1 n1 R1 Y D hD => ?_⟩
  have HD : H D = none := by
    cases e : H D with
    | none => rfl
    | some u => rw [n1.h D u e] at hD; cases hD
  refine ⟨fun i m H' => m = xs.length - i ∧ i ≤ xs.length ∧ ∃ F' acc, Nx F1 H1 F' H' ∧ F' D = none ∧ H' D = some (.lst acc) ∧ IsL K F' (outs keep f (xs.take i)) acc, ⟨xs.length, by simp, Nat.zero_le _, F1, [], Nx.allocH R1.sub hD, R1.free hD, upd_same, by simp [outs]; exact rfl⟩, ?_⟩
  rintro i m H' ⟨rfl, hi', F', acc, n2, fD, eD, hacc⟩
  by_cases hlt : i < xs.length
  · obtain ⟨go, yl⟩ := Y.item i F' H' n2.f n2.s hlt
    refine .inr ⟨go, fun H2 => ∃ F2 acc', Nx F1 H1 F2 H2 ∧ F2 D = none ∧ H2 D = some (.lst acc') ∧ IsL K F2 (outs keep f (xs.take (i + 1))) acc', fun H2 ⟨F2, acc', h⟩ => ⟨xs.length - (i + 1), by omega, rfl, hlt, F2, acc', h⟩, fun v H2 y => ?_⟩
    obtain ⟨F2, x, n3, hx, ix⟩ := yl v H2 y
    have hmem : x ∈ xs := List.mem_of_getElem? hx
    have noD : ∀ {Fa Ha Fb Hb : Hp}, Nx Fa Ha Fb Hb → Fa D = none → Ha D ≠ none → Fb D = none := fun {Fa Ha Fb Hb} n e1 e2 => by
      cases e : Fb D with
      | none => rfl
      | some u =>
        rcases n.n D u e with z | z
        · exact absurd e1 z
        · exact absurd z e2
    have fD2 : F2 D = none := noD n3 fD (by rw [eD]; exact fun z => nomatch z)
    have n12 := n2.trans n3
    have eD2 := n3.h _ _ eD
    have R2 : StR K B F2 H2 (L2.wipe σ vs) (wipeS ss vs) := (R1.wipe vs).grow n12
    refine tg_go (ws := vs) R2 ix (hfit x hmem) (fun j hj => .inl (ht j hj)) fun σ3 R3 hw => ⟨by rw [hw hv, wipe_wipe], ?_⟩
    refine ⟨B, F2, _, keep x, ⟨x, hmem, rfl, rfl⟩, R3, fun F3 H3 n4 R4 => ?_⟩
    have fD3 : F3 D = none := noD n4 fD2 (by rw [eD2]; exact fun z => nomatch z)
    have eD3 := n4.h _ _ eD2
    have n13 := n12.trans n4
    have hacc3 := IsL.mono (n3.f.trans n4.f) _ hacc
    cases hk : keep x with
    | true =>
      refine iteT ⟨B, F3, _, f x, ⟨x, hmem, hk, rfl, rfl⟩, R4, fun w F4 H4 n5 R5 i5 => ?_⟩
      have fD4 : F4 D = none := noD n5 fD3 (by rw [eD3]; exact fun z => nomatch z)
      have n14 := n13.trans n5
      refine ⟨acc, n5.h _ _ eD3, ?_, F4, acc ++ [w], ⟨n14.f, fun p o e => ?_, fun p o e => ?_, fun p o e => n14.n p o e⟩, fD4, upd_same, ?_⟩
      · have := hacc.length
        have h2 := outs_len keep f (xs.take i)
        rw [List.length_take] at h2
        rw [sizeLine_eq]; omega
      · rw [upd_ne (ne_of_none e hD)]; exact n14.h p o e
      · rw [upd_ne (ne_of_none e fD4)]; exact n14.s p o e
      · rw [outs_take hx, if_pos hk]
        exact (IsL.mono n5.f _ hacc3).snoc i5
    | false =>
      refine iteF ⟨F3, acc, n13, fD3, eD3, ?_⟩
      rw [outs_take hx, if_neg (by rw [hk]; decide)]
      exact hacc3
  · have e : i = xs.length := by omega
    subst e
    refine .inl ⟨Y.stop F' H' n2.f n2.s, q D acc F' H' (n1.trans n2) (R1.grow n2) fD ?_ HD eD ?_⟩
    · exact R.base_none HD
    · rw [List.take_length] at hacc
      exact hacc
theorem Nx.told {F H F1 H1 : Hp} {D : Addr} {o : HO} (n : Nx F H F1 H1) (h1 : F1 D = none) (h2 : H D = none) (h3 : H1 D = some o) : Nx F H (upd F1 D o) H1 where
  f := n.f.trans (Ext.upd h1)
  h := n.h
  s := fun p u e => by
    by_cases q : p = D
    · subst q; rw [upd_same] at e; rw [h3]; exact e
    · rw [upd_ne q] at e; exact n.s p u e
  n := fun p u e => by
    by_cases q : p = D
    · subst q; exact .inr h2
    · rw [upd_ne q] at e; exact n.n p u e
/-- [elt for target in iter if ..] -/
theorem ev_lc {scope : Scope} (own : List (Str × Nat)) (t : Tg) (keep : D → Bool) (f : D → D) (hi : IV X tg e ss xs) (ok : BlkOk X.N X.env.scope scope own)
    (hg : ∀ (s : Shared) (H : Hp) (C : Addr) (cl : List (Str × Addr)) (fp : List Addr), PG (X.blk s H scope (compEnvC scope cl C X.env) fp) tg (gOf X.K t))
    (ht : ∀ (s : Shared) (H : Hp) (C : Addr) (cl : List (Str × Addr)) (fp : List Addr) x, x ∈ xs → TsV (X.blk s H scope (compEnvC scope cl C X.env) fp) ifs (t.put x (wipeS ss (own.map (·.2)))) (keep x))
    (he : ∀ (s : Shared) (H : Hp) (C : Addr) (cl : List (Str × Addr)) (fp : List Addr) x, x ∈ xs → keep x = true → EV (X.blk s H scope (compEnvC scope cl C X.env) fp) elt (t.put x (wipeS ss (own.map (·.2)))) (f x))
    (hN : X.N.Nodup) (hfit : ∀ x ∈ xs, t.fits x = true) (hlen : xs.length ≤ 100000) (hv : own.map (·.2) ≠ [] := by decide) (hsl : ∀ j ∈ t.slots, j ∈ own.map (·.2) := by decide) (hc : X.calm = true := by rfl) (hs : ∀ x, foldedSetIterable e X.env x = pure x := by intro _; rfl) :
    EV X (.ListComp elt [⟨tg, e, ifs, 0⟩] scope pos) ss (.lst (outs keep f xs)) := by
  refine EV.of (pe_lc (tt := tTv X.K fun ss' b => ∃ x ∈ xs, ss' = t.put x (wipeS ss (own.map (·.2))) ∧ b = keep x) (te := tEv X.K fun ss' d => ∃ x ∈ xs, keep x = true ∧ ss' = t.put x (wipeS ss (own.map (·.2))) ∧ d = f x) hc hN hi ok hg (fun s H C cl fp => pts_fam (X := X.blk s H scope (compEnvC scope cl C X.env) fp) (Rl := fun ss' b => ∃ x ∈ xs, ss' = t.put x (wipeS ss (own.map (·.2))) ∧ b = keep x) fun ss' b ⟨x, hx, e1, e2⟩ => by rw [e1, e2]; exact ht s H C cl fp x hx)
    (fun s H C cl fp => pe_fam (X := X.blk s H scope (compEnvC scope cl C X.env) fp) (Rl := fun ss' d => ∃ x ∈ xs, keep x = true ∧ ss' = t.put x (wipeS ss (own.map (·.2))) ∧ d = f x) fun ss' d ⟨x, hx, hk, e1, e2⟩ => by rw [e1, e2]; exact he s H C cl fp x hx hk) hs) fun B F H σ Q R q => ?_
  exact lc_go hv hsl hfit hlen R fun D vs' F1 H1 n1 R1 f1 b1 h1 d1 i1 => by
    have n2 := n1.told f1 h1 d1
    exact q _ _ H1 n2 (R.grow n2) ⟨D, vs', rfl, upd_same, IsL.mono (Ext.upd f1) _ i1⟩
end
end Fd

set_option Elab.async false
set_option linter.all false
set_option maxRecDepth 100000
set_option maxHeartbeats 2000000
/-! Fd4: defs by what they make of data; objects; built-in functions. -/
namespace Fd
open PySem PySem.Spec PyProof.Rows L2
/-! ### defs -/
/-- a def that hands back, of the data ds, the datum d, wherever pre ds d -/
def spD (K : PySem.W.Frag) (n : Nat) (pre : List D → D → Prop) : Sp := fun vs H Q _ => ∃ F ds d, Ext F H ∧ IsL K F ds vs ∧ ds.length = n ∧ pre ds d ∧ ∀ v F1 H1, Nx F H F1 H1 → Is K F1 d v → Q v H1
/-- the def under the module's name x (level k, n parameters) -/
def FD (P : Program) (w : World) (K : PySem.W.Frag) (mg : Str → Option Value) (base : Heap) (x : Str) (n k : Nat) (pre : List D → D → Prop) : Prop :=
  ∃ f fd ps, mg x = some (.ref f) ∧ PySem.W.keepIn K (.ref f) = true ∧ Binds K fd ps [] ∧ ps.length = n ∧ FnOk P w K mg base CX0 k f fd ps (spD K n pre)
def startS (N : List Str) (ds : List D) : SS := ds.map S.d ++ List.replicate (N.length - ds.length) S.no
abbrev bodyX (CX : CXT) (P : Program) (w : World) (K : PySem.W.Frag) (mg : Str → Option Value) (base : Heap) (N : List Str) (qual : Str) (st : Stmt) (f : Addr) (cdv : Value) (A : Around) (outer : List Env) (s : Shared) (H : Hp) (E : XK) : Cx :=
  (cxOf CX P w K mg base N qual (defScope st) f cdv A outer s H E).nox
section
variable {P : Program} {w : World} {K : PySem.W.Frag} {mg : Str → Option Value} {base : Heap}
theorem start_slots {N : List Str} {F H : Hp} : ∀ {ds : List D} {vs : List V} (m : Nat) (i : Nat) (s : S) (o : Option V), IsL K F ds vs → (ds.map S.d ++ List.replicate m S.no)[i]? = some s → (vs.map some ++ List.replicate m none)[i]? = some o → SlotIs K F H s o
  | [], _, m, i, s, o, h, e1, e2 => by
    cases (show _ = _ from h)
    simp only [List.map_nil, List.nil_append] at e1 e2
    have : s = S.no := by
      rw [List.getElem?_replicate] at e1
      split at e1 <;> simp at e1
      exact e1.symm
    subst this
    exact True.intro
  | x :: xs, _, m, 0, s, o, h, e1, e2 => by
    obtain ⟨v, r, rfl, h1, _⟩ := h
    simp at e1 e2
    subst e1; subst e2
    exact ⟨v, rfl, h1⟩
  | x :: xs, _, m, i + 1, s, o, h, e1, e2 => by
    obtain ⟨v, r, rfl, _, h⟩ := h
    simp only [List.map_cons, List.cons_append, List.getElem?_cons_succ] at e1 e2
    exact start_slots (N := N) m i s o h e1 e2
theorem start_mine {ds : List D} {m i : Nat} {s : S} (h : (ds.map S.d ++ List.replicate m S.no)[i]? = some s) : s.mine = false := by
  have := List.mem_of_getElem? h
  rcases List.mem_append.mp this with q | q
  · obtain ⟨x, _, rfl⟩ := List.mem_map.mp q; rfl
  · rw [(List.mem_replicate.mp q).2]; rfl
theorem start_str {N : List Str} {F H : Hp} {ds : List D} {vs : List V} (x : Ext F H) (h : IsL K F ds vs) : StR K (F, H) F H (L2.start N vs) (startS N ds) where
  len := by unfold L2.start startS; simp [h.length]
  bF := fun _ _ h => h
  bH := fun _ _ h => h
  sub := x
  new := fun p o e => .inl (by show F p ≠ none; rw [e]; exact fun z => nomatch z)
  slots := fun i s o e1 e2 => by
    unfold L2.start at e2
    unfold startS at e1
    rw [h.length] at e2
    exact start_slots (N := N) _ i s o h e1 e2
  own := fun i s p e1 m _ => by
    unfold startS at e1
    rw [start_mine e1] at m; cases m
  dis := fun i j s t p e1 _ m _ _ _ => by
    unfold startS at e1
    rw [start_mine e1] at m; cases m
theorem StR.back {B : Hp × Hp} {F H : Hp} {σ : L2.St} {ss : SS} (R : StR K B F H σ ss) : Nx B.1 B.2 F H := ⟨R.bF, R.bH, R.sub, fun p o e => R.new p o e⟩
/-- THE RULE for a def -/
theorem fd_ok {x qual : Str} {st : Stmt} {f : Addr} {fd : FuncData} {N ps : List Str} {k n : Nat} {pre : List D → D → Prop} (F : Fun K x qual st f fd) (S : FnScope N ps (defScope st)) (hn : ps.length = n)
    (h : ∀ (cdv : Value) (A : Around) (outer : List Env) (s : Shared) (H : Hp) (E : XK) (ds : List D) (d : D), Room k (A.deeper (envOfC qual (defScope st) s.heap.objs.size f cdv)) → ds.length = n → pre ds d →
      SVs (bodyX CX0 P w K mg base N qual st f cdv A outer s H E) (defBody st) (startS N ds) { nx := fun _ => d = .non, rt := fun d' => d' = d }) : FnOk P w K mg base CX0 (k + 1) f fd ps (spD K n pre) := by
  refine F.ok S (fun vs H Q E ⟨F, ds, d, _, i, l, _⟩ => by rw [i.length, l, hn]) (fun cdv A outer s H vs Q E hr hsp => ?_)
  obtain ⟨F0, ds, d, x, i, l, p, q⟩ := hsp
  refine ⟨_, h cdv A outer s H E ds d hr l p, (F0, H), F0, _, _, ⟨rfl, rfl⟩, start_str x i, fun ss' σ' F1 H1 e R1 => ?_, fun d' v ss' σ' F1 H1 e R1 i1 => ?_, fun _ _ _ _ z => z.elim, fun _ _ _ _ z => z.elim⟩
  · subst e
    exact q .non F1 H1 R1.back rfl
  · subst e
    exact q v F1 H1 R1.back i1
theorem FD.mk {x : Str} {f : Addr} {fd : FuncData} {ps : List Str} {n k : Nat} {pre : List D → D → Prop} (h1 : mg x = some (.ref f)) (h2 : PySem.W.keepIn K (.ref f) = true) (h3 : Binds K fd ps []) (h4 : ps.length = n) (h5 : FnOk P w K mg base CX0 k f fd ps (spD K n pre)) : FD P w K mg base x n k pre :=
  ⟨f, fd, ps, h1, h2, h3, h4, h5⟩
end
section
variable {X : Cx} {ss : SS} {e a b c o : Expr} {es : List Expr} {d : D} {ds : List D} {x m : Str} {p pos apos : Pos} {n k : Nat} {pre : List D → D → Prop}
/-- f(..) -/
theorem ev_call (G : FD X.prog X.w X.K X.mg X.base x n k pre) (hr : Room k X.A) (ha : EVs X (e :: es) ss ds) (hp : pre ds d) (hn : ds.length = n := by rfl) (hg : Gl X x := by rfl) (hdb : (x == ("__debug__" : Str)) = false := by decide)
    (he : starEach (e :: es) X.env = (false, eval e X.env) :: starEach es X.env := by rfl) (hpl : (backTo pos (starEach es X.env)).any (·.1) = false := by rfl) : EV X (.Call (.Name x p) (e :: es) [] pos) ss d := by
  obtain ⟨f, fd, ps, h1, h2, h3, h4, h5⟩ := G
  refine EV.of (pe_call h5 hr hg h1 h2 h3 .nil pass0 ha hdb he hpl) fun B F H σ Q R q => evs_go R fun vs F1 H1 n1 R1 i1 => ?_
  show spD X.K n pre (vs ++ []) H1 Q E0
  rw [List.append_nil]
  exact ⟨F1, ds, d, R1.sub, i1, hn, hp, fun v F2 H2 n2 i2 => q v F2 H2 (n1.trans n2) (R1.grow n2) i2⟩
theorem ev_call0 (G : FD X.prog X.w X.K X.mg X.base x 0 k pre) (hr : Room k X.A) (hp : pre [] d) (hg : Gl X x := by rfl) (hdb : (x == ("__debug__" : Str)) = false := by decide) : EV X (.Call (.Name x p) [] [] pos) ss d := by
  obtain ⟨f, fd, ps, h1, h2, h3, h4, h5⟩ := G
  refine EV.of (pe_call0 h5 hr hg h1 h2 h3 .nil pass0 hdb) fun B F H σ Q R q => ?_
  show spD X.K 0 pre ([] ++ []) H Q E0
  exact ⟨F, [], d, R.sub, rfl, rfl, hp, fun v F2 H2 n2 i2 => q v F2 H2 n2 (R.grow n2) i2⟩
/-- o.f -/
theorem ev_fld {C : Addr} {ns : List Str} {xs : List D} {f : Str} (he : EV X o ss (.ins C ns xs)) (cl : Cls X.K C) (na : NoAttr X.K C f) (i : Nat) (hn : ns[i]? = some f) (hx : xs[i]? = some d) (nd : ns.Nodup)
    (hb : attributeBase o f X.env (eval o X.env) = eval o X.env := by rfl) : EV X (.Attribute o f pos) ss d :=
  EV.of (pe_fld he hb) fun B F H σ Q R q => ev_go R fun v F1 H1 n1 R1 i1 => by
    obtain ⟨a, dx, fs, rfl, e1, e2, e3⟩ := i1
    obtain ⟨w, hw, iw⟩ := IsL.get' e3 hx
    refine ⟨a, C, dx, fs, w, rfl, R1.sub _ _ e1, cl, na, ?_, q w F1 H1 n1 R1 iw⟩
    have look : ∀ {l : List (Str × V)} {j : Nat}, (l.map (·.1)).Nodup → (l.map (·.1))[j]? = some f → (l.map (·.2))[j]? = some w → l.lookup f = some w := by
      intro l
      induction l with
      | nil => intro j _ h; simp at h
      | cons y r ih =>
        intro j nd h1 h2
        cases j with
        | zero =>
          simp at h1 h2
          subst h1; subst h2
          simp [List.lookup]
        | succ j =>
          simp at h1 h2
          have nd' : (y.1 :: r.map (·.1)).Nodup := nd
          obtain ⟨n1, n2⟩ := List.nodup_cons.mp nd'
          have ne : ¬ f = y.1 := fun z => n1 (by rw [← z]; exact List.mem_of_getElem? (l := r.map (·.1)) (by simpa using h1))
          have hb : (f == y.1) = false := beq_eq_false_iff_ne.mpr ne
          simp only [List.lookup, hb]
          exact ih n2 (by simpa using h1) (by simpa using h2)
    subst e2
    exact look nd hn hw
/-! built-in functions -/
theorem ev_blt {id : String} {r : List V → Hp → VK → Prop} (hc : CallR X (.builtin id) r) (ha : EVs X (e :: es) ss ds) (hm : X.mg x = none) (hv : bootBuiltins x = some (.builtin id))
    (k : ∀ B F H σ vs Q, StR X.K B F H σ ss → IsL X.K F ds vs → (∀ z F1 H1, Nx F H F1 H1 → StR X.K B F1 H1 σ ss → Is X.K F1 d z → Q z H1) → r vs H Q) (hg : Gl X x := by rfl) (hn : x ≠ "__name__" := by decide) (hdb : (x == ("__debug__" : Str)) = false := by decide)
    (he : starEach (e :: es) X.env = (false, eval e X.env) :: starEach es X.env := by rfl) (hpl : (backTo pos (starEach es X.env)).any (·.1) = false := by rfl) : EV X (.Call (.Name x p) (e :: es) [] pos) ss d :=
  EV.of (pe_callB hc hg hm hv ha hn hdb he hpl) fun B F H σ Q R q => evs_go R fun vs F1 H1 n1 R1 i1 => k B F1 H1 σ vs Q R1 i1 fun z F2 H2 n2 R2 i2 => q z F2 H2 (n1.trans n2) R2 i2
theorem ev_bty {T : String} {r : List V → Hp → VK → Prop} (hc : CallR X (.type T) r) (ha : EVs X (e :: es) ss ds) (hm : X.mg x = none) (hv : bootBuiltins x = some (.type T))
    (k : ∀ B F H σ vs Q, StR X.K B F H σ ss → IsL X.K F ds vs → (∀ z F1 H1, Nx F H F1 H1 → StR X.K B F1 H1 σ ss → Is X.K F1 d z → Q z H1) → r vs H Q) (hg : Gl X x := by rfl) (hn : x ≠ "__name__" := by decide) (hdb : (x == ("__debug__" : Str)) = false := by decide)
    (he : starEach (e :: es) X.env = (false, eval e X.env) :: starEach es X.env := by rfl) (hpl : (backTo pos (starEach es X.env)).any (·.1) = false := by rfl) : EV X (.Call (.Name x p) (e :: es) [] pos) ss d :=
  EV.of (pe_callTy hc hg hm hv ha hn hdb he hpl) fun B F H σ Q R q => evs_go R fun vs F1 H1 n1 R1 i1 => k B F1 H1 σ vs Q R1 i1 fun z F2 H2 n2 R2 i2 => q z F2 H2 (n1.trans n2) R2 i2
/-- f(..), f a module's name for a built-in function -/
theorem ev_blf {id : String} {r : List V → Hp → VK → Prop} (hc : CallR X (.builtin id) r) (ha : EVs X (e :: es) ss ds) (hm : X.mg x = some (.builtin id))
    (k : ∀ B F H σ vs Q, StR X.K B F H σ ss → IsL X.K F ds vs → (∀ z F1 H1, Nx F H F1 H1 → StR X.K B F1 H1 σ ss → Is X.K F1 d z → Q z H1) → r vs H Q) (hg : Gl X x := by rfl) (hdb : (x == ("__debug__" : Str)) = false := by decide)
    (he : starEach (e :: es) X.env = (false, eval e X.env) :: starEach es X.env := by rfl) (hpl : (backTo pos (starEach es X.env)).any (·.1) = false := by rfl) : EV X (.Call (.Name x p) (e :: es) [] pos) ss d :=
  EV.of (pe_callBfun hc hg hm ha hdb he hpl) fun B F H σ Q R q => evs_go R fun vs F1 H1 n1 R1 i1 => k B F1 H1 σ vs Q R1 i1 fun z F2 H2 n2 R2 i2 => q z F2 H2 (n1.trans n2) R2 i2
theorem isL1 {K : PySem.W.Frag} {F : Hp} {x : D} {vs : List V} (h : IsL K F [x] vs) : ∃ v, vs = [v] ∧ Is K F x v := by
  obtain ⟨v, r, rfl, h1, h2⟩ := h
  cases (show _ = _ from h2)
  exact ⟨v, rfl, h1⟩
theorem isL2 {K : PySem.W.Frag} {F : Hp} {x y : D} {vs : List V} (h : IsL K F [x, y] vs) : ∃ v w, vs = [v, w] ∧ Is K F x v ∧ Is K F y w := by
  obtain ⟨v, r, rfl, h1, h2⟩ := h
  obtain ⟨w, rfl, h3⟩ := isL1 h2
  exact ⟨v, w, rfl, h1, h3⟩
theorem ev_abs {i : Int} (ha : EV X e ss (.int i)) (hm : X.mg "abs" = none) (hg : Gl X "abs" := by rfl) (he : starEach [e] X.env = [(false, eval e X.env)] := by rfl) : EV X (.Call (.Name "abs" p) [e] [] pos) ss (.int (if i < 0 then -i else i)) :=
  ev_blt call_abs (evs_cons ha evs_nil he) hm (by decide +kernel) (fun B F H σ vs Q R i1 q => by
    obtain ⟨v, rfl, h⟩ := isL1 i1
    cases h
    exact ⟨i, rfl, q _ F H R.nx R rfl⟩) hg (he := he)
theorem ev_int1 {i : Int} (ha : EV X e ss (.int i)) (hm : X.mg "int" = none) (hg : Gl X "int" := by rfl) (he : starEach [e] X.env = [(false, eval e X.env)] := by rfl) : EV X (.Call (.Name "int" p) [e] [] pos) ss (.int i) :=
  ev_bty call_int1 (evs_cons ha evs_nil he) hm (by decide +kernel) (fun B F H σ vs Q R i1 q => by
    obtain ⟨v, rfl, h⟩ := isL1 i1
    cases h
    exact .inl ⟨i, rfl, q _ F H R.nx R rfl⟩) hg (he := he)
theorem ev_strI {i : Int} (hz : i.natAbs.log2 < 1920) (ha : EV X e ss (.int i)) (hm : X.mg "str" = none) (hg : Gl X "str" := by rfl) (he : starEach [e] X.env = [(false, eval e X.env)] := by rfl) : EV X (.Call (.Name "str" p) [e] [] pos) ss (.str (toString i)) :=
  ev_bty call_str_int (evs_cons ha evs_nil he) hm (by decide +kernel) (fun B F H σ vs Q R i1 q => by
    obtain ⟨v, rfl, h⟩ := isL1 i1
    cases h
    exact ⟨i, rfl, hz, q _ F H R.nx R rfl⟩) hg (he := he)
theorem ev_gcd {i j : Int} (ha : EV X a ss (.int i)) (hb : EV X b ss (.int j)) (hm : X.mg x = some (.builtin "math.gcd")) (hg : Gl X x := by rfl) (hdb : (x == ("__debug__" : Str)) = false := by decide) (he : starEach [a, b] X.env = (false, eval a X.env) :: starEach [b] X.env := by rfl) (he2 : starEach [b] X.env = [(false, eval b X.env)] := by rfl) (hpl : (backTo pos (starEach [b] X.env)).any (·.1) = false := by rfl) :
    EV X (.Call (.Name x p) [a, b] [] pos) ss (.int ((Nat.gcd i.natAbs j.natAbs : Nat) : Int)) :=
  ev_blf cr_gcd (evs_cons ha (evs_cons hb evs_nil he2) he) hm (fun B F H σ vs Q R i1 q => by
    obtain ⟨v, w, rfl, h, h2⟩ := isL2 i1
    cases h; cases h2
    exact ⟨i, j, rfl, q _ F H R.nx R rfl⟩) hg hdb he hpl
/-- len of a list, a tuple, a text -/
def D.len : D → Option Nat
  | .lst xs => some xs.length
  | .rdl xs => some xs.length
  | .tup xs => some xs.length
  | .str x => if x.length ≤ sizeLine then some x.length else none
  | _ => none
theorem ev_len {y : D} {n : Nat} (h : y.len = some n) (ha : EV X e ss y) (hm : X.mg "len" = none) (hg : Gl X "len" := by rfl) (he : starEach [e] X.env = [(false, eval e X.env)] := by rfl) : EV X (.Call (.Name "len" p) [e] [] pos) ss (.int n) :=
  ev_blt call_len (evs_cons ha evs_nil he) hm PySem.boot_len (fun B F H σ vs Q R i1 q => by
    obtain ⟨v, rfl, i⟩ := isL1 i1
    refine ⟨v, n, rfl, ?_, q _ F H R.nx R rfl⟩
    cases y with
    | lst xs =>
      obtain ⟨a, us, rfl, e1, e2⟩ := i
      have : xs.length = n := Option.some.inj h
      exact .inl ⟨us, SqL.of (R.sub _ _ e1), by rw [e2.length, this]⟩
    | rdl xs =>
      obtain ⟨a, us, rfl, e1, e2⟩ := i
      have : xs.length = n := Option.some.inj h
      exact .inl ⟨us, ext_seqL R.sub e1, by rw [e2.length, this]⟩
    | tup xs =>
      obtain ⟨a, us, rfl, e1, e2⟩ := i
      have : xs.length = n := Option.some.inj h
      exact .inr ⟨us, ext_seqT R.sub e1, by rw [e2.length, this]⟩
    | str z =>
      cases i
      have h' : (if z.length ≤ sizeLine then some z.length else none) = some n := h
      split at h'
      · cases h'; exact ⟨by assumption, rfl⟩
      · cases h'
    | _ => cases h) hg (he := he)
/-- % and // by great divisors, * of great ints -/
theorem ev_mul {i j : Int} (hc : CMul i j) (ha : EV X a ss (.int i)) (hb : EV X b ss (.int j)) : EV X (.BinOp a .Mult b pos) ss (.int (i * j)) :=
  ev_op op_mul ha hb fun B F H σ v u Q R i1 i2 q => ⟨i, j, i1, i2, hc, q _ F H R.nx R rfl⟩
theorem ev_mulW {i j : Int} (hc : CMulW i j) (ha : EV X a ss (.int i)) (hb : EV X b ss (.int j)) : EV X (.BinOp a .Mult b pos) ss (.int (i * j)) :=
  ev_op op_mulW ha hb fun B F H σ v u Q R i1 i2 q => ⟨i, j, i1, i2, hc, q _ F H R.nx R rfl⟩
theorem ev_fdivW {i j : Int} (hc : CDivW i j) (ha : EV X a ss (.int i)) (hb : EV X b ss (.int j)) : EV X (.BinOp a .FloorDiv b pos) ss (.int (i / j)) :=
  ev_op op_fdivW ha hb fun B F H σ v u Q R i1 i2 q => ⟨i, j, i1, i2, hc, q _ F H R.nx R rfl⟩
/-! a if t else b, and, or -/
theorem ev_if {t : Bool} (hc : TV X c ss t) (h1 : t = true → EV X a ss d) (h2 : t = false → EV X b ss d) : EV X (.IfExp c a b pos) ss d := by
  have p1 : PE X a (tEv X.K fun ss' d' => EV X a ss' d') := pe_fam fun _ _ h => h
  have p2 : PE X b (tEv X.K fun ss' d' => EV X b ss' d') := pe_fam fun _ _ h => h
  refine EV.of (pe_ifExp hc p1 p2) fun B F H σ Q R q => tv_go R fun F1 H1 n1 R1 => ?_
  cases t with
  | true => exact iteT ⟨B, F1, ss, d, h1 rfl, R1, fun v F2 H2 n2 R2 i2 => q v F2 H2 (n1.trans n2) R2 i2⟩
  | false => exact iteF ⟨B, F1, ss, d, h2 rfl, R1, fun v F2 H2 n2 R2 i2 => q v F2 H2 (n1.trans n2) R2 i2⟩
theorem tv_if {t u : Bool} {e : Expr} (h : EV X (.IfExp c a b pos) ss (.bl u)) (he : ∀ whole, isTrue (.IfExp c a b pos) X.env whole = (do let v ← whole; standAt (Expr.IfExp c a b pos).pos; holding [v] (truthy v)) := by intro _; rfl) : TV X (.IfExp c a b pos) ss u := tv_of h he
theorem ev_not {t : Bool} (h : EV X a ss (.bl t)) : EV X (.UnaryOp .Not a pos) ss (.bl (!t)) :=
  EV.of (pe_not h) fun B F H σ Q R q => ev_go R fun v F1 H1 n1 R1 i1 => ⟨t, i1, q _ F1 H1 n1 R1 rfl⟩
theorem ev_one {op} {d : D} (h : EV X a ss d) : EV X (.BoolOp op [a] pos) ss d := pe_one h
theorem ev_andB {t u : Bool} (h : EV X a ss (.bl t)) (g : t = true → EV X (.BoolOp .And (b :: es) pos) ss (.bl u)) : EV X (.BoolOp .And (a :: b :: es) pos) ss (.bl (t && u)) := by
  have p2 : PE X (.BoolOp .And (b :: es) pos) (tEv X.K fun ss' d' => EV X (.BoolOp .And (b :: es) pos) ss' d') := pe_fam fun _ _ h => h
  refine EV.of (pe_and h p2) fun B F H σ Q R q => ev_go R fun v F1 H1 n1 R1 i1 => ⟨t, i1, ?_⟩
  cases t with
  | true => exact iteT ⟨B, F1, ss, .bl u, g rfl, R1, fun v F2 H2 n2 R2 i2 => q v F2 H2 (n1.trans n2) R2 i2⟩
  | false => exact iteF (q _ F1 H1 n1 R1 rfl)
theorem ev_orB {t u : Bool} (h : EV X a ss (.bl t)) (g : t = false → EV X (.BoolOp .Or (b :: es) pos) ss (.bl u)) : EV X (.BoolOp .Or (a :: b :: es) pos) ss (.bl (t || u)) := by
  have p2 : PE X (.BoolOp .Or (b :: es) pos) (tEv X.K fun ss' d' => EV X (.BoolOp .Or (b :: es) pos) ss' d') := pe_fam fun _ _ h => h
  refine EV.of (pe_or h p2) fun B F H σ Q R q => ev_go R fun v F1 H1 n1 R1 i1 => ⟨t, i1, ?_⟩
  cases t with
  | true => exact iteT (q _ F1 H1 n1 R1 rfl)
  | false => exact iteF ⟨B, F1, ss, .bl u, g rfl, R1, fun v F2 H2 n2 R2 i2 => q v F2 H2 (n1.trans n2) R2 i2⟩
theorem tw_andB {t u : Bool} (h : TV X a ss t) (g : t = true → TW X (.BoolOp .And (b :: es) pos) ss u) : TW X (.BoolOp .And (a :: b :: es) pos) ss (t && u) := by
  have p2 : PW X (.BoolOp .And (b :: es) pos) (tTv X.K fun ss' d' => TW X (.BoolOp .And (b :: es) pos) ss' d') := ⟨fun wh pins s σ H Q I ⟨B, F, ss, d, r, R, k⟩ => r.run wh pins s σ H Q I ⟨B, F, ss, d, ⟨rfl, rfl⟩, R, k⟩⟩
  refine PW.imp (pw_and h p2) fun σ H Q ⟨B, F, ss', d', ⟨e1, e2⟩, R, q⟩ => ?_
  subst e1; subst e2
  refine tv_go R fun F1 H1 n1 R1 => ?_
  cases t with
  | true => exact iteT ⟨B, F1, _, u, g rfl, R1, fun F2 H2 n2 R2 => q F2 H2 (n1.trans n2) R2⟩
  | false => exact iteF (q F1 H1 n1 R1)
theorem tw_orB {t u : Bool} (h : TV X a ss t) (g : t = false → TW X (.BoolOp .Or (b :: es) pos) ss u) : TW X (.BoolOp .Or (a :: b :: es) pos) ss (t || u) := by
  have p2 : PW X (.BoolOp .Or (b :: es) pos) (tTv X.K fun ss' d' => TW X (.BoolOp .Or (b :: es) pos) ss' d') := ⟨fun wh pins s σ H Q I ⟨B, F, ss, d, r, R, k⟩ => r.run wh pins s σ H Q I ⟨B, F, ss, d, ⟨rfl, rfl⟩, R, k⟩⟩
  refine PW.imp (pw_or h p2) fun σ H Q ⟨B, F, ss', d', ⟨e1, e2⟩, R, q⟩ => ?_
  subst e1; subst e2
  refine tv_go R fun F1 H1 n1 R1 => ?_
  cases t with
  | true => exact iteT (q F1 H1 n1 R1)
  | false => exact iteF ⟨B, F1, _, u, g rfl, R1, fun F2 H2 n2 R2 => q F2 H2 (n1.trans n2) R2⟩
theorem EV.cast {d d' : D} (h : EV X e ss d) (q : d = d') : EV X e ss d' := q ▸ h
theorem TV.cast {t u : Bool} (h : TV X e ss t) (q : t = u) : TV X e ss u := q ▸ h
end
end Fd

set_option Elab.async false
set_option linter.all false
set_option maxRecDepth 100000
set_option maxHeartbeats 4000000
/-! Fd5: operators of own classes, by the library's own terms: an int to the left, ==, !=. -/
namespace FdS
open PySem PySem.Spec PyProof.Rows PySem.W
/-- an int's method that declines an instance -/
abbrev Decl (x C dx : Addr) : PySem.Spec := fun _ R s => s.heap.get? x = some (PySem.W.instObj C dx) ∧ R (.ok (.ret Value.notImplemented)) s
theorem int_add_inst (a : Int) (t : Tok) (x C dx : Addr) : Meets (Builtin.«int.__add__» ⟨[.int a t, .ref x], []⟩) (Decl x C dx) :=
  .of_wp fun prog w A R s h => by obtain ⟨hp, g, d, tk, os⟩ := s; obtain ⟨hl, h⟩ := h; simp only [PySem.W.instObj] at hl; wp_walk; exact ⟨_, rfl, h⟩
theorem int_sub_inst (a : Int) (t : Tok) (x C dx : Addr) : Meets (Builtin.«int.__sub__» ⟨[.int a t, .ref x], []⟩) (Decl x C dx) :=
  .of_wp fun prog w A R s h => by obtain ⟨hp, g, d, tk, os⟩ := s; obtain ⟨hl, h⟩ := h; simp only [PySem.W.instObj] at hl; wp_walk; exact ⟨_, rfl, h⟩
theorem int_mul_inst (a : Int) (t : Tok) (x C dx : Addr) : Meets (Builtin.«int.__mul__» ⟨[.int a t, .ref x], []⟩) (Decl x C dx) :=
  .of_wp fun prog w A R s h => by obtain ⟨hp, g, d, tk, os⟩ := s; obtain ⟨hl, h⟩ := h; simp only [PySem.W.instObj] at hl; wp_walk; exact ⟨_, rfl, h⟩
theorem int_eq_inst (a : Int) (t : Tok) (x C dx : Addr) : Meets (Builtin.«int.__eq__» ⟨[.int a t, .ref x], []⟩) (Decl x C dx) :=
  .of_wp fun prog w A R s h => by obtain ⟨hp, g, d, tk, os⟩ := s; obtain ⟨hl, h⟩ := h; simp only [PySem.W.instObj] at hl; wp_walk; exact ⟨_, rfl, h⟩
theorem int_ne_inst (a : Int) (t : Tok) (x C dx : Addr) : Meets (Builtin.«int.__ne__» ⟨[.int a t, .ref x], []⟩) (Decl x C dx) :=
  .of_wp fun prog w A R s h => by obtain ⟨hp, g, d, tk, os⟩ := s; obtain ⟨hl, h⟩ := h; simp only [PySem.W.instObj] at hl; wp_walk; exact ⟨_, rfl, h⟩
section
variable {prog : Program} {w : World} {A : Around} {E : Value → Shared → Prop} {s : Shared} {K : Frag} {x C dx f f0 : Addr} {od : Option Obj}
/-- the left int declines, the instance's reflected method gives -/
theorem bin_int {op : Operator} {id : String} {B : Builtin} {i : Int} {t : Tok} {Q : Value → Shared → Prop} (X : K.In s.heap) (I : InstAt s.heap x (PySem.W.instObj C dx) C od) (slot : Slot "int" (PySem.dunder op.info.2) id) (entry : entryFor table id = some B) (args : argsOk id ⟨[.int i t, .ref x], []⟩)
    (g : Meets (B ⟨[.int i t, .ref x], []⟩) (Decl x C dx)) (fills : fillsNumberSlot (.type "int") op.info.2 = pure true) (hc : selfFirst K C = true) (hs : findIn K (.ref C) (PySem.dunder op.info.2) = some (some (.ref f0)))
    (hr : findIn K (.ref C) (dunderR op.info.2) = some (some (.ref f))) (hf : isFn K (.ref f) = true) (hsub : subIn K (.ref C) (.type "int") = some false)
    (h : wpAny (model prog w) A (call (.ref f) [.ref x, .int i t]) (PySem.W.CmpBack Q) E s) : wpAny (model prog w) A (binaryOp op (.int i t) (.ref x)) Q E s := by
  obtain ⟨cd, rest, hcd, hm⟩ := ksp_first hc
  rcases hi : op.info with ⟨sym, nm'⟩
  rw [hi] at hs hr fills slot
  dsimp only at hs hr fills slot
  have one := ksp_try (name := dunderR nm') X I hr hf h
  have hx : s.heap.get? x = some (PySem.W.instObj C dx) := I.1
  have L3 : Looks (model prog w) s.heap (fillsNumberSlot (.ref C) nm') true := fills_K X hcd hm hs
  simp only [binaryOp, hi]
  refine wpAny_holding (wpAny_bind ?_)
  unfold binaryOp1
  refine wpAny_bind (wpAny_typeOf (typeIs_int s i t) (wpAny_bind (I.type.here (wpAny_bind (wpAny_of_eq fills ?_)))))
  have hne : (Value.type "int" == Value.ref C) = false := Bool.eq_false_iff.mpr fun q => by cases beq_iff_eq.mp q
  simp only [hne, Bool.false_eq_true, if_false]
  refine wpAny_bind (L3.here ?_)
  simp only [Bool.and_self, if_true]
  refine wpAny_bind ((looks_subIn X hsub).here ?_)
  have hpy : numberSlotInPython (.type "int") nm' = pure false := rfl
  simp only [Bool.false_eq_true, if_false, pure_bind, Bool.not_false, Bool.and_self, if_true, hpy]
  refine wpAny_bind (wpAny_tryMethod_declines (typeIs_int s i t) slot (call_meets slot (typeIs_int s i t) entry args g ⟨hx, rfl, ?_⟩))
  simp only []
  refine wpAny_bind (wpAny_mono one (fun r s' hr' => ?_) fun _ _ e => e)
  obtain ⟨v, rfl, hq⟩ := hr'
  exact wpAny_bind (wpAny_rule (wpAny_pure (wpAny_pure hq)))
/-- tryCompare by an own method -/
theorem try_own {b : Value} {name : Str} {Q : Value → Shared → Prop} {ox : Obj} (X : K.In s.heap) (I : InstAt s.heap x ox C od) (hs : findIn K (.ref C) name = some (some (.ref f))) (hf : isFn K (.ref f) = true)
    (h : wpAny (model prog w) A (call (.ref f) [.ref x, b]) (PySem.W.CmpBack Q) E s) : wpAny (model prog w) A (tryCompare (.ref x) name b) (fun r s' => ∃ v, r = some v ∧ Q v s') E s := by
  unfold tryCompare
  refine wpAny_bind (ifBound_K X I hs hf (wpAny_mono h (fun v s' hv => ?_) fun _ _ e => e))
  cases v <;> first | exact hv.elim | exact wpAny_pure ⟨_, rfl, hv⟩
/-- tryCompare "__ne__" by object.__ne__ over an own __eq__ that gives a bool -/
theorem try_ne {b : Value} {Q : Value → Shared → Prop} {ox : Obj} (hu : A.units + 1 < cLine) (X : K.In s.heap) (I : InstAt s.heap x ox C od) (hn : findIn K (.ref C) "__ne__" = some (some (.builtin "object.__ne__"))) (hob : subIn K (.ref C) (.type "object") = some true)
    (hs : findIn K (.ref C) "__eq__" = some (some (.ref f))) (hf : isFn K (.ref f) = true)
    (h : wpAny (model prog w) A.in1 (call (.ref f) [.ref x, b]) (fun v s' => ∃ k, v = .bool k ∧ Q (.bool (!k)) s') E s) : wpAny (model prog w) A (tryCompare (.ref x) "__ne__" b) (fun r s' => ∃ v, r = some v ∧ Q v s') E s := by
  unfold tryCompare
  refine wpAny_bind ?_
  simp only [callSpecialIfBound?, bindSpecialIfBound?]
  refine wpAny_holding (wpAny_bind (wpAny_bind (wpAny_bind (I.type.here ((looks_findIn X hn).here ?_)))))
  have run : wpAny (model prog w) A (call (.builtin "object.__ne__") ([.ref x] ++ [b])) (fun v s' => ∃ k, v = .bool k ∧ Q (.bool k) s') E s := by
    refine wpAny_call (codeAny_call_builtin F.cmp_object.ne.plain F.cmpEntry_ne (check_slot F.cmpKind_ne F.cmpSplit_ne (I.type.andThen (looks_subIn X hob)) (F.cmpArgs_ne _ _) ?_))
    show wpAny _ A.in1 (Builtin.«object.__ne__» ⟨[.ref x, b], []⟩) _ _ s
    unfold Builtin.«object.__ne__»
    refine wpAny_bind (wpAny_of_eq (a := (.ref x, [b])) rfl ?_)
    refine wpAny_bind (wpAny_cRoomFor hu ?_)
    refine wpAny_bind (ifBound_K X I hs hf (wpAny_mono h (fun v s' hv => ?_) fun _ _ e => e))
    obtain ⟨k, rfl, hq⟩ := hv
    refine wpAny_bind (wpAny_truthy_bool ?_)
    exact wpAny_pure ⟨_, rfl, hq⟩
  have fin : wpAny (model prog w) A (call (.builtin "object.__ne__") ([.ref x] ++ [b]) >>= fun v => pure (some v)) (fun a s₁ => wpAny (model prog w) A (match a with | some .notImplemented | none => pure none | some v => pure (some v)) (fun r s' => ∃ v, r = some v ∧ Q v s') E s₁) E s :=
    wpAny_bind (wpAny_mono run (fun v s' hv => by obtain ⟨k, rfl, hq⟩ := hv; exact wpAny_pure (wpAny_pure ⟨_, rfl, hq⟩)) fun _ _ e => e)
  simp only [F.cmp_object.ne.bind]
  refine wpAny_bind (wpAny_askSetting (wpAny_ite ?_))
  split
  · exact wpAny_bind (wpAny_pure (wpAny_pure fin))
  · exact wpAny_tryCatch (wpAny_bind (wpAny_pure (wpAny_pure fin)))
/-- x op b, the left an instance: its own answer is taken -/
theorem cmp_left {op : CmpOp} {b tb : Value} {Q : Value → Shared → Prop} {ox : Obj} (hu : A.units < cLine) (X : K.In s.heap) (I : InstAt s.heap x ox C od) (hb : Looks (model prog w) s.heap (typeOf b) tb) (hn : notFirst K C tb = true)
    (one : wpAny (model prog w) A (tryCompare (.ref x) (cmpInfo op).2.1 b) (fun r s' => ∃ v, r = some v ∧ Q v s') E s) : wpAny (model prog w) A (richCompare op (.ref x) b) Q E s := by
  unfold richCompare
  simp only [oneThing_ref]
  refine wpAny_holding (wpAny_bind (wpAny_cRoomFor hu ?_))
  refine wpAny_bind (I.type.here (wpAny_bind (hb.here ?_)))
  split
  · rename_i q
    have e : subIn K tb (.ref C) = some false := by
      rcases Bool.or_eq_true_iff.mp hn with e | e
      · rw [beq_iff_eq.mp e] at q; simp at q
      · exact beq_iff_eq.mp e
    refine wpAny_bind ((looks_subIn X e).here ?_)
    simp only [Bool.false_eq_true, if_false]
    refine wpAny_bind (wpAny_mono one (fun r s' z => ?_) fun _ _ e => e)
    obtain ⟨v, rfl, hq⟩ := z
    exact wpAny_pure hq
  · refine wpAny_bind (wpAny_pure ?_)
    simp only [Bool.false_eq_true, if_false]
    refine wpAny_bind (wpAny_mono one (fun r s' z => ?_) fun _ _ e => e)
    obtain ⟨v, rfl, hq⟩ := z
    exact wpAny_pure hq
/-- i op x, the right an instance: the int declines -/
theorem cmp_int {op : CmpOp} {id : String} {B : Builtin} {i : Int} {t : Tok} {Q : Value → Shared → Prop} (hu : A.units < cLine) (X : K.In s.heap) (I : InstAt s.heap x (PySem.W.instObj C dx) C od) (slot : Slot "int" (cmpInfo op).2.1 id) (entry : entryFor table id = some B) (args : argsOk id ⟨[.int i t, .ref x], []⟩)
    (g : Meets (B ⟨[.int i t, .ref x], []⟩) (Decl x C dx)) (hsub : subIn K (.ref C) (.type "int") = some false)
    (one : wpAny (model prog w) A (tryCompare (.ref x) (cmpInfo op).2.2 (.int i t)) (fun r s' => ∃ v, r = some v ∧ Q v s') E s) : wpAny (model prog w) A (richCompare op (.int i t) (.ref x)) Q E s := by
  have hx : s.heap.get? x = some (PySem.W.instObj C dx) := I.1
  unfold richCompare
  have h1 : oneThing? op (.int i t) (.ref x) = none := rfl
  simp only [h1]
  refine wpAny_holding (wpAny_bind (wpAny_cRoomFor hu ?_))
  refine wpAny_bind (wpAny_typeOf (typeIs_int s i t) (wpAny_bind (I.type.here ?_)))
  have hne : (Value.type "int" != Value.ref C) = true := rfl
  simp only [hne, if_true]
  refine wpAny_bind ((looks_subIn X hsub).here ?_)
  simp only [Bool.false_eq_true, if_false, Bool.not_false, if_true]
  refine wpAny_bind (wpAny_tryCompare_declines (typeIs_int s i t) slot (call_meets slot (typeIs_int s i t) entry args g ⟨hx, rfl, ?_⟩))
  refine wpAny_bind (wpAny_mono one (fun r s' z => ?_) fun _ _ e => e)
  obtain ⟨v, rfl, hq⟩ := z
  exact wpAny_pure hq
end
end FdS

set_option Elab.async false
set_option linter.all false
set_option maxRecDepth 100000
set_option maxHeartbeats 4000000
/-! Fd6: operators of own classes on data. -/
namespace Fd
open PySem PySem.Spec PyProof.Rows L2
/-- a two-place operation on data -/
def rD (K : PySem.W.Frag) (pre : D → D → D → Prop) : R2 := fun x y H Q => ∃ F dx dy d, Ext F H ∧ Is K F dx x ∧ Is K F dy y ∧ pre dx dy d ∧ ∀ v F1 H1, Nx F H F1 H1 → Is K F1 d v → Q v H1
def OpD (X : Cx) (f : Value → Value → Sem Value) (pre : D → D → D → Prop) : Prop := OpR X f (rD X.K pre)
section
variable {X : Cx} {ss : SS} {a b : Expr} {pos : Pos} {x y d : D} {pre pre' : D → D → D → Prop}
theorem OpD.or {f : Value → Value → Sem Value} (h : OpD X f pre) (h' : OpD X f pre') : OpD X f (fun x y d => pre x y d ∨ pre' x y d) := fun pins s σ H x y v u Q I rx ry ⟨F, dx, dy, d, e, i1, i2, p, q⟩ => by
  rcases p with p | p
  · exact h pins s σ H x y v u Q I rx ry ⟨F, dx, dy, d, e, i1, i2, p, q⟩
  · exact h' pins s σ H x y v u Q I rx ry ⟨F, dx, dy, d, e, i1, i2, p, q⟩
theorem ev_opD {op : Operator} (ho : OpD X (binaryOp op) pre) (ha : EV X a ss x) (hb : EV X b ss y) (hp : pre x y d) : EV X (.BinOp a op b pos) ss d :=
  ev_op ho ha hb fun B F H σ v u Q R i1 i2 q => ⟨F, x, y, d, R.sub, i1, i2, hp, fun z F1 H1 n1 iz => q z F1 H1 n1 (R.grow n1) iz⟩
theorem ev_cmpD {op : CmpOp} (ho : OpD X (compareOp op) pre) (ha : EV X a ss x) (hb : EV X b ss y) (hp : pre x y d) (h1 : behindInMarks op b = false := by first | exact nomark _ | rfl) : EV X (.Compare a [op] [b] pos) ss d :=
  ev_cmp ho ha hb (fun B F H σ v u Q R i1 i2 q => ⟨F, x, y, d, R.sub, i1, i2, hp, fun z F1 H1 n1 iz => q z F1 H1 n1 (R.grow n1) iz⟩) h1
theorem tv_cmpD {op : CmpOp} {k : Bool} (ho : OpD X (compareOp op) pre) (ha : EV X a ss x) (hb : EV X b ss y) (hp : pre x y (.bl k)) (h1 : behindInMarks op b = false := by first | exact nomark _ | rfl) : TV X (.Compare a [op] [b] pos) ss k :=
  tv_cmp ho ha hb (fun B F H σ v u Q R i1 i2 q => ⟨F, x, y, .bl k, R.sub, i1, i2, hp, fun z F1 H1 n1 iz => by cases iz; exact q F1 H1 n1 (R.grow n1)⟩) h1
theorem opD_I0 {f : Value → Value → Sem Value} {g : Int → Int → Int} (h : OpR X f (rI0 fun i j => .int (g i j))) : OpD X f (fun x y d => ∃ i j, x = .int i ∧ y = .int j ∧ d = .int (g i j)) := fun pins s σ H x y v u Q I rx ry ⟨F, dx, dy, d, e, i1, i2, ⟨i, j, e1, e2, e3⟩, q⟩ => by
  subst e1; subst e2; subst e3
  exact h pins s σ H x y v u Q I rx ry ⟨i, j, i1, i2, q _ F H (Nx.refl e) rfl⟩
theorem opD_I {f : Value → Value → Sem Value} {C : Int → Int → Prop} {g : Int → Int → Int} (h : OpR X f (rI C fun i j => .int (g i j))) : OpD X f (fun x y d => ∃ i j, x = .int i ∧ y = .int j ∧ C i j ∧ d = .int (g i j)) := fun pins s σ H x y v u Q I rx ry ⟨F, dx, dy, d, e, i1, i2, ⟨i, j, e1, e2, c, e3⟩, q⟩ => by
  subst e1; subst e2; subst e3
  exact h pins s σ H x y v u Q I rx ry ⟨i, j, i1, i2, c, q _ F H (Nx.refl e) rfl⟩
end
/-! ### the types of data -/
def D.ty? : D → Option Value
  | .non => some (.type "NoneType") | .bl _ => some (.type "bool") | .int _ => some (.type "int") | .str _ => some (.type "str") | .lst _ => some (.type "list") | .tup _ => some (.type "tuple")
  | .ins C _ _ => some (.ref C) | .dct _ _ => some (.type "dict") | _ => none
section
variable {X : Cx} {pins : List (Addr × Obj)} {σ : L2.St} {F H : Hp} {s : Shared}
theorem looks_ty {d : D} {v : V} {u t : Value} (I : Inv X pins σ H s) (e : Ext F H) (i : Is X.K F d v) (r : RelV v u) (h : d.ty? = some t) : PySem.W.Looks (model X.prog X.w) s.heap (typeOf u) t := by
  cases d with
  | non => cases i; cases r; cases h; exact PySem.W.Looks.of_pure rfl
  | bl b => cases i; cases r; cases h; exact PySem.W.Looks.of_pure rfl
  | int z => cases i; obtain ⟨t', rfl⟩ := r; cases h; exact PySem.W.Looks.of_pure rfl
  | str z => cases i; obtain ⟨t', rfl⟩ := r; cases h; exact PySem.W.Looks.of_pure rfl
  | lst xs =>
    obtain ⟨a, vs, rfl, e1, _⟩ := i
    cases r; cases h
    obtain ⟨its, _, ⟨o, n, e2, e3, _⟩, _⟩ := I.list (SqL.of (e _ _ e1))
    have : PySem.W.Looks (model X.prog X.w) s.heap (typeOf (.ref a)) o.cls := (PySem.W.Looks.ld e2).andThen .now
    rw [e3] at this
    exact this
  | tup xs =>
    obtain ⟨a, vs, rfl, e1, _⟩ := i
    cases r; cases h
    obtain ⟨its, _, ⟨o, e2, e3, _⟩, _⟩ := I.tuple (ext_seqT e e1)
    have : PySem.W.Looks (model X.prog X.w) s.heap (typeOf (.ref a)) o.cls := (PySem.W.Looks.ld e2).andThen .now
    rw [e3] at this
    exact this
  | ins C ns xs =>
    obtain ⟨a, dx, fs, rfl, e1, _⟩ := i
    cases r; cases h
    obtain ⟨mA, O, _⟩ := ins_get I.hok (e _ _ e1)
    obtain ⟨od, J, _⟩ := O.look
    exact J.type
  | dct ks xs =>
    obtain ⟨a, kvs, rfl, e1, _⟩ := i
    cases r; cases h
    obtain ⟨_, _, vs, _, o, es, ep, h1, h2, _⟩ := (show ObjOk X.prog X.w H s.heap a (.dK kvs) from I.hok a _ (e _ _ e1))
    have : PySem.W.Looks (model X.prog X.w) s.heap (typeOf (.ref a)) o.cls := (PySem.W.Looks.ld h1).andThen .now
    rw [h2.1] at this
    exact this
  | _ => cases h
/-- one level down -/
abbrev Cx.in1 (X : Cx) : Cx := { X with A := X.A.in1 }
theorem Inv.in1 (I : Inv X pins σ H s) : Inv (Cx.in1 X) pins σ H s :=
  ⟨⟨I.ok.mod, I.ok.kind, I.ok.glob, I.ok.blt, I.ok.above, I.ok.inj, I.ok.has, I.ok.cab, I.ok.hd, I.ok.frames, I.ok.stk, I.ok.exf, I.ok.bs, I.ok.bsz, I.ok.noex, I.ok.exfs, I.ok.funs, I.ok.frf⟩, I.os, I.bare, I.base, I.loc, I.cell, I.free, I.freeC, I.pin, I.hok, I.len⟩
theorem Inv.out1 (I : Inv (Cx.in1 X) pins σ H s) : Inv X pins σ H s :=
  ⟨⟨I.ok.mod, I.ok.kind, I.ok.glob, I.ok.blt, I.ok.above, I.ok.inj, I.ok.has, I.ok.cab, I.ok.hd, I.ok.frames, I.ok.stk, I.ok.exf, I.ok.bs, I.ok.bsz, I.ok.noex, I.ok.exfs, I.ok.funs, I.ok.frf⟩, I.os, I.bare, I.base, I.loc, I.cell, I.free, I.freeC, I.pin, I.hok, I.len⟩
theorem back_of {Q : VK} {u : Value} {s' : Shared} (h : EP X pins σ Q u s') : PySem.W.CmpBack (EP X pins σ Q) u s' := by
  obtain ⟨v, H', I', r, q⟩ := id h
  cases v with
  | non => cases (show u = Value.none from r); exact h
  | bl b => cases (show u = Value.bool b from r); exact h
  | int i => obtain ⟨t, e⟩ := (show ∃ t, u = Value.int i t from r); cases e; exact h
  | str x => obtain ⟨t, e⟩ := (show ∃ t, u = Value.str x t from r); cases e; exact h
  | byt b => obtain ⟨t, e⟩ := (show ∃ t, u = Value.bytes b t from r); cases e; exact h
  | flt b => obtain ⟨t, e⟩ := (show ∃ t, u = Value.float b t from r); cases e; exact h
  | ref a => cases (show u = Value.ref a from r); exact h
  | ty n => cases (show u = Value.type n from r); exact h
end
/-! ### a method that an operator calls -/
structure OwnM (P : Program) (w : World) (K : PySem.W.Frag) (mg : Str → Option Value) (base : Heap) (C : Addr) (m : Str) (n k : Nat) (pre : List D → D → Prop) (f : Addr) : Prop where
  at_ : PySem.W.findIn K (.ref C) m = some (some (.ref f))
  fn : PySem.W.isFn K (.ref f) = true
  kp : PySem.W.keepIn K (.ref f) = true
  ok : ∃ fd ps, Binds K fd ps [] ∧ ps.length = n ∧ FnOk P w K mg base CX0 k f fd ps (spD K n pre)
section
variable {X : Cx} {pins : List (Addr × Obj)} {σ : L2.St} {F H : Hp} {s : Shared} {C f f0 : Addr} {k n : Nat} {pre : List D → D → Prop} {m : Str}
theorem OwnM.run {P : Program} {w : World} {K : PySem.W.Frag} {mg : Str → Option Value} {base : Heap} (M : OwnM X.prog X.w X.K X.mg X.base C m n k pre f) (hr : Room k X.A) (I : Inv X pins σ H s) {us : List Value} {vs : List V} {ds : List D} {d : D} {Q : VK} (r : Vals vs us) (e : Ext F H) (i : IsL X.K F ds vs) (hn : ds.length = n)
    (hp : pre ds d) (q : ∀ v F1 H1, Nx F H F1 H1 → Is X.K F1 d v → Q v H1) : wpAny (model X.prog X.w) X.A (call (.ref f) us) (EP X pins σ Q) X.xe s := by
  obtain ⟨fd, ps, hb, hl, F0⟩ := M.ok
  refine run_fn (dvs := []) (ds := []) F0 hr hb .nil pass0 I r ?_
  rw [List.append_nil]
  exact ⟨F, ds, d, e, i, hn, hp, q⟩
/-- -x -/
theorem un_own (M : OwnM X.prog X.w X.K X.mg X.base C "__neg__" 1 k pre f) (hr : Room k X.A) : UnR X (unaryOp .USub) (fun x H Q => ∃ F ns xs d, Ext F H ∧ Is X.K F (.ins C ns xs) x ∧ pre [.ins C ns xs] d ∧ ∀ v F1 H1, Nx F H F1 H1 → Is X.K F1 d v → Q v H1) := by
  intro pins s σ H x v Q I rx ⟨F, ns, xs, d, e, i, p, q⟩
  obtain ⟨a, dx, fs, rfl, e1, e2, e3⟩ := id i
  cases rx
  obtain ⟨mA, J, _⟩ := ins_get I.hok (e _ _ e1)
  obtain ⟨od, J, _⟩ := J.look
  obtain ⟨mm, hF⟩ := I.fr
  exact PySem.W.ksp_neg hF I.ok.mod.kin J M.at_ M.fn (M.run (P := X.prog) (w := X.w) (K := X.K) (mg := X.mg) (base := X.base) hr I (vs := [.ref a]) (.cons rfl .nil) e (.cons i .nil) rfl p q)
/-- x op y, x of one's own class, y too -/
theorem bin_own {op : Operator} (M : OwnM X.prog X.w X.K X.mg X.base C (PySem.dunder op.info.2) 2 k pre f) (hr : Room k X.A) (hc : PySem.W.selfFirst X.K C = true) :
    OpD X (binaryOp op) (fun x y d => ∃ ns xs ms ys, x = .ins C ns xs ∧ y = .ins C ms ys ∧ pre [x, y] d) := by
  intro pins s σ H x y v u Q I rx ry ⟨F, dx, dy, d, e, i1, i2, ⟨ns, xs, ms, ys, h1, h2, p⟩, q⟩
  subst h1; subst h2
  have lb := looks_ty I e i2 ry (t := .ref C) rfl
  obtain ⟨a, da, fs, rfl, e1, _⟩ := id i1
  cases rx
  obtain ⟨mA, J, _⟩ := ins_get I.hok (e _ _ e1)
  obtain ⟨od, J, _⟩ := J.look
  obtain ⟨mm, hF⟩ := I.fr
  exact PySem.W.binop_K hF I.ok.mod.kin J lb hc M.at_ M.fn (wpAny_mono (M.run (P := X.prog) (w := X.w) (K := X.K) (mg := X.mg) (base := X.base) hr I (vs := [.ref a, y]) (.cons rfl (.cons ry .nil)) e (.cons i1 (.cons i2 .nil)) rfl p q) (fun v s' h => back_of h) fun _ _ z => z)
/-- x op i, x of one's own class, i an int -/
theorem bin_ownI {op : Operator} {fo ro : Option Value} (M : OwnM X.prog X.w X.K X.mg X.base C (PySem.dunder op.info.2) 2 k pre f) (hr : Room k X.A) (hc : PySem.W.selfFirst X.K C = true) (hR : PySem.W.findIn X.K (.ref C) (dunderR op.info.2) = some (some (.ref f0)))
    (h1 : PySem.W.findIn X.K (.type "int") (PySem.dunder op.info.2) = some fo) (h2 : PySem.W.findIn X.K (.type "int") (dunderR op.info.2) = some ro) (hsub : PySem.W.subIn X.K (.type "int") (.ref C) = some false) :
    OpD X (binaryOp op) (fun x y d => ∃ ns xs j, x = .ins C ns xs ∧ y = .int j ∧ pre [x, y] d) := by
  intro pins s σ H x y v u Q I rx ry ⟨F, dx, dy, d, e, i1, i2, ⟨ns, xs, j, h1', h2', p⟩, q⟩
  subst h1'; subst h2'
  have ht : ∃ t, u = .int j t := by cases i2; exact ry
  obtain ⟨t, rfl⟩ := ht
  obtain ⟨a, da, fs, rfl, e1, _⟩ := id i1
  cases rx
  obtain ⟨mA, J, _⟩ := ins_get I.hok (e _ _ e1)
  obtain ⟨od, J, _⟩ := J.look
  obtain ⟨mm, hF⟩ := I.fr
  exact PySem.W.ksp_binT (T := "int") hF I.ok.mod.kin J rfl hc M.at_ M.fn hR (.inr ⟨_, rfl⟩) h1 h2 hsub (wpAny_mono (M.run (P := X.prog) (w := X.w) (K := X.K) (mg := X.mg) (base := X.base) hr I (vs := [.ref a, y]) (.cons rfl (.cons ry .nil)) e (.cons i1 (.cons i2 .nil)) rfl p q) (fun v s' h => back_of h) fun _ _ z => z)
/-- i op x, i an int: the reflected method -/
theorem bin_Iown {op : Operator} {idn : String} {B : Builtin} (M : OwnM X.prog X.w X.K X.mg X.base C (dunderR op.info.2) 2 k pre f) (hr : Room k X.A) (hc : PySem.W.selfFirst X.K C = true) (hs : PySem.W.findIn X.K (.ref C) (PySem.dunder op.info.2) = some (some (.ref f0)))
    (slot : Slot "int" (PySem.dunder op.info.2) idn) (entry : entryFor table idn = some B) (args : ∀ a b, argsOk idn ⟨[a, b], []⟩) (g : ∀ i t x C dx, Meets (B ⟨[.int i t, .ref x], []⟩) (FdS.Decl x C dx)) (fills : fillsNumberSlot (.type "int") op.info.2 = pure true)
    (hsub : PySem.W.subIn X.K (.ref C) (.type "int") = some false) : OpD X (binaryOp op) (fun x y d => ∃ ns xs j, x = .int j ∧ y = .ins C ns xs ∧ pre [y, x] d) := by
  intro pins s σ H x y v u Q I rx ry ⟨F, dx, dy, d, e, i1, i2, ⟨ns, xs, j, h1', h2', p⟩, q⟩
  subst h1'; subst h2'
  have ht : ∃ t, v = .int j t := by cases i1; exact rx
  obtain ⟨t, rfl⟩ := ht
  obtain ⟨a, da, fs, rfl, e1, _⟩ := id i2
  cases ry
  obtain ⟨mA, J, _⟩ := ins_get I.hok (e _ _ e1)
  obtain ⟨od, J, _⟩ := J.look
  exact FdS.bin_int I.kIn J slot entry (args _ _) (g _ _ _ _ _) fills hc hs M.at_ M.fn hsub (wpAny_mono (M.run (P := X.prog) (w := X.w) (K := X.K) (mg := X.mg) (base := X.base) hr I (vs := [.ref a, x]) (.cons rfl (.cons rx .nil)) e (.cons i2 (.cons i1 .nil)) rfl p q) (fun v s' h => back_of h) fun _ _ z => z)
/-- the facts of == and != -/
structure EqM (P : Program) (w : World) (K : PySem.W.Frag) (mg : Str → Option Value) (base : Heap) (C : Addr) (k : Nat) (pre : List D → D → Prop) (f : Addr) : Prop where
  m : OwnM P w K mg base C "__eq__" 2 k pre f
  ne : PySem.W.findIn K (.ref C) "__ne__" = some (some (.builtin "object.__ne__"))
  ob : PySem.W.subIn K (.ref C) (.type "object") = some true
theorem eq_own (M : EqM X.prog X.w X.K X.mg X.base C k pre f) (hr : Room k X.A) : OpD X (compareOp .Eq) (fun x y d => ∃ ns xs tb r, x = .ins C ns xs ∧ y.ty? = some tb ∧ PySem.W.notFirst X.K C tb = true ∧ d = .bl r ∧ pre [x, y] d) := by
  intro pins s σ H x y v u Q I rx ry ⟨F, dx, dy, d, e, i1, i2, ⟨ns, xs, tb, r, h1', h2', h3, h4, p⟩, q⟩
  subst h1'
  have lb := looks_ty I e i2 ry h2'
  obtain ⟨a, da, fs, rfl, e1, _⟩ := id i1
  cases rx
  obtain ⟨mA, J, _⟩ := ins_get I.hok (e _ _ e1)
  obtain ⟨od, J, _⟩ := J.look
  show wpAny _ _ (richCompare .Eq _ _) _ _ _
  exact FdS.cmp_left hr.units0 I.kIn J lb h3 (FdS.try_own I.kIn J M.m.at_ M.m.fn (wpAny_mono (M.m.run (P := X.prog) (w := X.w) (K := X.K) (mg := X.mg) (base := X.base) hr I (vs := [.ref a, y]) (.cons rfl (.cons ry .nil)) e (.cons i1 (.cons i2 .nil)) rfl p q) (fun v s' h => back_of h) fun _ _ z => z))
theorem ne_run (M : EqM X.prog X.w X.K X.mg X.base C k pre f) (hr : Room (k + 1) X.A) {a : Addr} {y : V} {u : Value} {r : Bool} {dx dy : D} {Q : VK} (I : Inv X pins σ H s) (ry : RelV y u) (e : Ext F H) (i1 : Is X.K F dx (.ref a)) (i2 : Is X.K F dy y) (p : pre [dx, dy] (.bl r))
    (q : ∀ v F1 H1, Nx F H F1 H1 → Is X.K F1 (.bl (!r)) v → Q v H1) : wpAny (model X.prog X.w) X.A.in1 (call (.ref f) [.ref a, u]) (fun v s' => ∃ k, v = .bool k ∧ EP X pins σ Q (.bool (!k)) s') X.xe s := by
  refine wpAny_mono (OwnM.run (X := Cx.in1 X) (P := X.prog) (w := X.w) (K := X.K) (mg := X.mg) (base := X.base) (vs := [.ref a, y]) (Q := fun v H1 => v = .bl r ∧ Q (.bl (!r)) H1) M.m hr.in1 (Inv.in1 I) (.cons rfl (.cons ry .nil)) e (.cons i1 (.cons i2 .nil)) rfl p fun v F1 H1 n1 iv => ⟨iv, q _ F1 H1 n1 rfl⟩) (fun v s' h => ?_) fun _ _ z => z
  obtain ⟨v', H', I', rv, ev, q'⟩ := h
  subst ev
  cases rv
  exact ⟨r, rfl, .bl (!r), H', Inv.out1 I', rfl, q'⟩
theorem ne_own (M : EqM X.prog X.w X.K X.mg X.base C k pre f) (hr : Room (k + 1) X.A) : OpD X (compareOp .NotEq) (fun x y d => ∃ ns xs tb r, x = .ins C ns xs ∧ y.ty? = some tb ∧ PySem.W.notFirst X.K C tb = true ∧ d = .bl (!r) ∧ pre [x, y] (.bl r)) := by
  intro pins s σ H x y v u Q I rx ry ⟨F, dx, dy, d, e, i1, i2, ⟨ns, xs, tb, r, h1', h2', h3, h4, p⟩, q⟩
  subst h1'; subst h4
  have lb := looks_ty I e i2 ry h2'
  obtain ⟨a, da, fs, rfl, e1, _⟩ := id i1
  cases rx
  obtain ⟨mA, J, _⟩ := ins_get I.hok (e _ _ e1)
  obtain ⟨od, J, _⟩ := J.look
  show wpAny _ _ (richCompare .NotEq _ _) _ _ _
  exact FdS.cmp_left hr.units0 I.kIn J lb h3 (FdS.try_ne (by have := hr.units; omega) I.kIn J M.ne M.ob M.m.at_ M.m.fn (ne_run M hr I ry e i1 i2 p q))
theorem eq_Iown (M : EqM X.prog X.w X.K X.mg X.base C k pre f) (hr : Room k X.A) (hsub : PySem.W.subIn X.K (.ref C) (.type "int") = some false) : OpD X (compareOp .Eq) (fun x y d => ∃ ns xs j r, x = .int j ∧ y = .ins C ns xs ∧ d = .bl r ∧ pre [y, x] d) := by
  intro pins s σ H x y v u Q I rx ry ⟨F, dx, dy, d, e, i1, i2, ⟨ns, xs, j, r, h1', h2', h3, p⟩, q⟩
  subst h1'; subst h2'
  have ht : ∃ t, v = .int j t := by cases i1; exact rx
  obtain ⟨t, rfl⟩ := ht
  obtain ⟨a, da, fs, rfl, e1, _⟩ := id i2
  cases ry
  obtain ⟨mA, J, _⟩ := ins_get I.hok (e _ _ e1)
  obtain ⟨od, J, _⟩ := J.look
  show wpAny _ _ (richCompare .Eq _ _) _ _ _
  exact FdS.cmp_int hr.units0 I.kIn J PySem.F.slot_int_eq PySem.F.entry_int_eq (PySem.F.args_int_eq_2 _ _) (FdS.int_eq_inst _ _ _ _ _) hsub (FdS.try_own I.kIn J M.m.at_ M.m.fn (wpAny_mono (M.m.run (P := X.prog) (w := X.w) (K := X.K) (mg := X.mg) (base := X.base) hr I (vs := [.ref a, x]) (.cons rfl (.cons rx .nil)) e (.cons i2 (.cons i1 .nil)) rfl p q) (fun v s' h => back_of h) fun _ _ z => z))
theorem ne_Iown (M : EqM X.prog X.w X.K X.mg X.base C k pre f) (hr : Room (k + 1) X.A) (hsub : PySem.W.subIn X.K (.ref C) (.type "int") = some false) : OpD X (compareOp .NotEq) (fun x y d => ∃ ns xs j r, x = .int j ∧ y = .ins C ns xs ∧ d = .bl (!r) ∧ pre [y, x] (.bl r)) := by
  intro pins s σ H x y v u Q I rx ry ⟨F, dx, dy, d, e, i1, i2, ⟨ns, xs, j, r, h1', h2', h3, p⟩, q⟩
  subst h1'; subst h2'; subst h3
  have ht : ∃ t, v = .int j t := by cases i1; exact rx
  obtain ⟨t, rfl⟩ := ht
  obtain ⟨a, da, fs, rfl, e1, _⟩ := id i2
  cases ry
  obtain ⟨mA, J, _⟩ := ins_get I.hok (e _ _ e1)
  obtain ⟨od, J, _⟩ := J.look
  show wpAny _ _ (richCompare .NotEq _ _) _ _ _
  exact FdS.cmp_int hr.units0 I.kIn J PySem.F.slot_int_ne PySem.F.entry_int_ne (PySem.F.args_int_ne_2 _ _) (FdS.int_ne_inst _ _ _ _ _) hsub (FdS.try_ne (by have := hr.units; omega) I.kIn J M.ne M.ob M.m.at_ M.m.fn (ne_run M hr I rx e i2 i1 p q))
end
end Fd

set_option Elab.async false
set_option linter.all false
set_option maxRecDepth 100000
set_option maxHeartbeats 4000000
/-! Fd7: lists joined, repeated, extended; all; count; == of data; exceptions as data. -/
namespace Fd
open PySem PySem.Spec PyProof.Rows L2
section
variable {X : Cx} {ss : SS} {P : Post} {a b e : Expr} {es : List Expr} {xs ys : List D} {d : D} {x : Str} {p pos : Pos}
/-- xs + ys: a new list -/
theorem ev_cat (hl : xs.length + ys.length ≤ 100000) (ha : EV X a ss (.lst xs)) (hb : EV X b ss (.lst ys)) : EV X (.BinOp a .Add b pos) ss (.lst (xs ++ ys)) :=
  ev_op op_cat ha hb fun B F H σ v u Q R i1 i2 q => by
    obtain ⟨l, vs, rfl, e1, e2⟩ := i1
    obtain ⟨m, us, rfl, f1, f2⟩ := i2
    refine ⟨l, m, vs, us, rfl, rfl, R.sub _ _ e1, R.sub _ _ f1, by rw [e2.length, f2.length]; exact small_len hl, fun p hp => ?_⟩
    have n := Nx.alloc (o := .lst (vs ++ us)) R.sub hp
    exact q _ _ _ n (R.grow n) ⟨p, _, rfl, upd_same, IsL.mono n.f _ (e2.append f2)⟩
theorem isL_rep {K : PySem.W.Frag} {F : Hp} {xs : List D} {vs : List V} (h : IsL K F xs vs) : ∀ n : Nat, IsL K F (List.replicate n xs).flatten (List.replicate n vs).flatten
  | 0 => rfl
  | n + 1 => by
    rw [List.replicate_succ, List.replicate_succ, List.flatten_cons, List.flatten_cons]
    exact h.append (isL_rep h n)
/-- xs * k -/
theorem ev_rep {k : Int} (hk : 0 ≤ k ∧ k ≤ 1000) (hl : xs.length * k.toNat ≤ 100000) (ha : EV X a ss (.lst xs)) (hb : EV X b ss (.int k)) : EV X (.BinOp a .Mult b pos) ss (.lst (List.replicate k.toNat xs).flatten) :=
  ev_op op_rep ha hb fun B F H σ v u Q R i1 i2 q => by
    obtain ⟨l, vs, rfl, e1, e2⟩ := i1
    refine ⟨l, k, vs, rfl, i2, R.sub _ _ e1, by omega, by omega, by rw [e2.length]; exact small_len hl, fun p hp => ?_⟩
    have n := Nx.alloc (o := .lst (List.replicate k.toNat vs).flatten) R.sub hp
    exact q _ _ _ n (R.grow n) ⟨p, _, rfl, upd_same, IsL.mono n.f _ (isL_rep e2 _)⟩
/-- x.extend(ys) -/
theorem sv_extend (i : Nat) {x : Str} {px ap cp : Pos} (hx : ss[i]? = some (.own xs)) (he : EV X e ss (.lst ys)) (k : P.nx (ss.set i (.own (xs ++ ys)))) (hl : xs.length + ys.length ≤ 100000)
    (hp : ∀ {te : TE}, PE X e te → PE X (.Call (.Attribute (.Name x px) "extend" ap) [e] [] cp) (tBM X.K "list" rExtend (tVar i) (tCons te tNil)) := by
      intro te h; exact pe_bm PySem.F.plainAttrs_list PySem.F.slot_list_extend PySem.F.type_list_extend mt_extend (pv _) (pa_cons h pa_nil))
    (hs : swapsWith (.Call (.Attribute (.Name x px) "extend" ap) [e] [] cp) none pos.line X.env = pure false := by rfl) :
    SV X (.Expr (.Call (.Attribute (.Name x px) "extend" ap) [e] [] cp) pos) ss P := by
  refine SV.of (ps_expr (hp he) hs) fun B F H σ Dn R g => ?_
  have hi : i < ss.length := (List.getElem?_eq_some_iff.mp hx).1
  have hsl : i < σ.length := by rw [R.len]; exact hi
  obtain ⟨p, vs, e1, e2, e3, e4⟩ := R.slots i _ _ hx (List.getElem?_eq_getElem hsl)
  have hσ : σ[i]? = some (some (.ref p)) := by rw [List.getElem?_eq_getElem hsl, e1]
  refine ⟨.ref p, hσ, .inl ⟨rfl, vs, SqL.of e3⟩, ev_go R fun v F1 H1 n1 R1 i1 => ?_⟩
  obtain ⟨p', vs', q1, q2, q3, q4⟩ := R1.slots i _ _ hx (List.getElem?_eq_getElem hsl)
  rw [q1] at e1
  cases e1
  obtain ⟨m, us, rfl, f1, f2⟩ := i1
  refine ⟨p, m, _, us, rfl, rfl, q3, R1.sub _ _ f1, ?_, g.nx _ _ _ _ k (R1.chg hx rfl hσ rfl q2 ⟨p, _, rfl, q2, upd_same, q4.append f2⟩)⟩
  rw [q4.length, f2.length]
  exact small_len hl
theorem isL_bl {K : PySem.W.Frag} {F : Hp} : ∀ {bs : List Bool} {vs : List V}, IsL K F (bs.map D.bl) vs → vs = bs.map V.bl
  | [], _, h => h
  | b :: bs, _, h => by
    obtain ⟨v, r, rfl, h1, h2⟩ := h
    cases h1
    rw [isL_bl h2]
    rfl
/-- all(list of truth values) -/
theorem ev_all {bs : List Bool} (ha : EV X e ss (.lst (bs.map D.bl))) (hm : X.mg "all" = none) (hc : X.calm = true := by rfl) (hg : Gl X "all" := by rfl) (he : starEach [e] X.env = [(false, eval e X.env)] := by rfl) : EV X (.Call (.Name "all" p) [e] [] pos) ss (.bl (bs.all id)) :=
  ev_blt (cr_all hc) (evs_cons ha evs_nil he) hm (by decide +kernel) (fun B F H σ vs Q R i1 q => by
    obtain ⟨v, rfl, h⟩ := isL1 i1
    obtain ⟨l, us, rfl, e1, e2⟩ := h
    rw [isL_bl e2] at e1
    exact ⟨l, bs, rfl, SqL.of (R.sub _ _ e1), q _ F H R.nx R rfl⟩) hg (he := he)
theorem ev_any {bs : List Bool} (ha : EV X e ss (.lst (bs.map D.bl))) (hm : X.mg "any" = none) (hc : X.calm = true := by rfl) (hg : Gl X "any" := by rfl) (he : starEach [e] X.env = [(false, eval e X.env)] := by rfl) : EV X (.Call (.Name "any" p) [e] [] pos) ss (.bl (bs.any id)) :=
  ev_blt (cr_any hc) (evs_cons ha evs_nil he) hm (by decide +kernel) (fun B F H σ vs Q R i1 q => by
    obtain ⟨v, rfl, h⟩ := isL1 i1
    obtain ⟨l, us, rfl, e1, e2⟩ := h
    rw [isL_bl e2] at e1
    exact ⟨l, bs, rfl, SqL.of (R.sub _ _ e1), q _ F H R.nx R rfl⟩) hg (he := he)
/-! list.count(True) -/
def rCntB (K : PySem.W.Frag) : V → List V → Hp → VK → Prop := fun x xs H Q => ∃ (p : Addr) (bs : List Bool), x = .ref p ∧ xs = [.bl true] ∧ SqL K H p (bs.map V.bl) ∧ Q (.int ((bs.filter id).length : Nat)) H
def eqT : Value → Bool
  | .bool b => b
  | _ => false
theorem bool_vals : ∀ {bs : List Bool} {its : List Value}, Vals (bs.map V.bl) its → its = bs.map Value.bool
  | [], _, .nil => rfl
  | b :: bs, _, .cons r t => by
    cases r
    rw [bool_vals t]
    rfl
theorem count_bools : ∀ bs : List Bool, (bs.map Value.bool).countP eqT = (bs.filter id).length
  | [] => rfl
  | b :: bs => by
    rw [List.map_cons, List.countP_cons, count_bools bs, List.filter_cons]
    cases b
    · rfl
    · simp [eqT]
theorem mt_cntB : MtR X "list.count" (rCntB X.K) := by
  intro pins s σ H x xs v us Q I rx rxs h
  obtain ⟨p, bs, rfl, rfl, hs, q⟩ := h
  cases rx
  obtain ⟨u, rfl, ru⟩ := rxs.one
  obtain rfl : u = Value.bool true := ru
  obtain ⟨its, rv, ⟨⟨cls, dd, data, sl⟩, n, ho, hc, hdn, hd⟩, hlen⟩ := I.list hs
  simp only at hc hd
  subst hc hd
  have hi := bool_vals rv
  subst hi
  refine call_meets PySem.F.slot_list_count ⟨_, ho, rfl⟩ PySem.F.entry_list_count (PySem.F.args_list_count_2 _ _)
    (SeqAt.list_countAt p (bs.map Value.bool).toArray n dd sl (.bool true) eqT) ⟨ho, fun y hy => ?_, ?_⟩
  · have hy' : y ∈ bs.map Value.bool := by simpa using hy
    obtain ⟨b, _, rfl⟩ := List.mem_map.mp hy'
    have := eqAt_V (A := X.A.in1) (s := s) (y := .bl b) (x := .bl true) (u := .bool b) (v := .bool true) rfl rfl rfl rfl
    cases b <;> exact this
  · refine ⟨.int ((bs.filter id).length : Nat), H, I.tok _, ⟨s.toks, ?_⟩, q⟩
    show Value.int (((bs.map Value.bool).toArray.toList.countP eqT : Nat) : Int) s.toks = _
    rw [show (bs.map Value.bool).toArray.toList = bs.map Value.bool from rfl, count_bools]
theorem ev_countT {o : Expr} {bs : List Bool} {ap cp bp : Pos} {j} (ho : EV X o ss (.lst (bs.map D.bl)))
    (hp : ∀ {to te : TE}, PE X o to → PE X (.Constant (.bool true) j bp) te → PE X (.Call (.Attribute o "count" ap) [.Constant (.bool true) j bp] [] cp) (tBM X.K "list" (rCntB X.K) to (tCons te tNil)) := by
      intro to te h h2; exact pe_bm PySem.F.plainAttrs_list PySem.F.slot_list_count PySem.F.type_list_count mt_cntB h (pa_cons h2 pa_nil)) :
    EV X (.Call (.Attribute o "count" ap) [.Constant (.bool true) j bp] [] cp) ss (.int ((bs.filter id).length : Nat)) :=
  EV.of (hp ho (ev_bl (ss := ss))) fun B F H σ Q R q => ev_go R fun v F1 H1 n1 R1 i1 => by
    obtain ⟨l, us, rfl, e1, e2⟩ := i1
    rw [isL_bl e2] at e1
    refine ⟨.inl ⟨rfl, _, SqL.of (R1.sub _ _ e1)⟩, ev_go R1 fun w F2 H2 n2 R2 i2 => ?_⟩
    cases i2
    exact ⟨l, bs, rfl, rfl, SqL.of (R2.sub _ _ (n2.f _ _ e1)), q _ F2 H2 (n1.trans n2) R2 rfl⟩
end
/-! ### == of data -/
mutual
def D.py : D → Option PyData
  | .non => some .none | .bl b => some (.bool b) | .int i => some (.int i) | .str x => some (.str x)
  | .lst xs => (D.pys xs).map .list | .rdl xs => (D.pys xs).map .list | .tup xs => (D.pys xs).map .tuple
  | _ => none
def D.pys : List D → Option (List PyData)
  | [] => some []
  | x :: xs => match D.py x, D.pys xs with
    | some p, some ps => some (p :: ps)
    | _, _ => none
end
section
variable {K : PySem.W.Frag} {F H : Hp}
mutual
theorem py_dp (e : Ext F H) : ∀ (d : D) {v : V} {p : PyData}, Is K F d v → d.py = some p → Dp K H v p
  | .non, _, _, h, q => by cases h; cases q; exact .non
  | .bl b, _, _, h, q => by cases h; cases q; exact .bl b
  | .int i, _, _, h, q => by cases h; cases q; exact .int i
  | .str x, _, _, h, q => by cases h; cases q; exact .str x
  | .lst xs, _, _, h, q => by
    obtain ⟨a, vs, rfl, e1, e2⟩ := h
    obtain ⟨ps, hp, rfl⟩ := Option.map_eq_some_iff.mp q
    exact .lst (SqL.of (e _ _ e1)) (pys_dp e xs e2 hp)
  | .rdl xs, _, _, h, q => by
    obtain ⟨a, vs, rfl, e1, e2⟩ := h
    obtain ⟨ps, hp, rfl⟩ := Option.map_eq_some_iff.mp q
    exact .lst (ext_seqL e e1) (pys_dp e xs e2 hp)
  | .tup xs, _, _, h, q => by
    obtain ⟨a, vs, rfl, e1, e2⟩ := h
    obtain ⟨ps, hp, rfl⟩ := Option.map_eq_some_iff.mp q
    exact .tup (ext_seqT e e1) (pys_dp e xs e2 hp)
  | .ins _ _ _, _, _, _, q => by cases q
  | .dct _ _, _, _, _, q => by cases q
  | .exc _ _ _, _, _, _, q => by cases q
  | .adr _, _, _, _, q => by cases q
  | .ty _, _, _, _, q => by cases q
theorem pys_dp (e : Ext F H) : ∀ (ds : List D) {vs : List V} {ps : List PyData}, IsL K F ds vs → D.pys ds = some ps → DpAll K H vs ps
  | [], _, _, h, q => by cases (show _ = _ from h); cases q; exact .nil
  | x :: xs, _, _, h, q => by
    obtain ⟨v, r, rfl, h1, h2⟩ := h
    unfold D.pys at q
    cases e1 : D.py x with
    | none => rw [e1] at q; cases q
    | some p =>
      cases e2 : D.pys xs with
      | none => rw [e1, e2] at q; cases q
      | some ps =>
        rw [e1, e2] at q
        cases q
        exact .cons (py_dp e x h1 e1) (pys_dp e xs h2 e2)
end
end
section
variable {X : Cx} {ss : SS} {a b : Expr} {pos : Pos} {x y : D} {p q : PyData} {k : Nat}
theorem opD_eq (hr : Room k X.A) : OpD X (compareOp .Eq) (fun x y d => ∃ p q, x.py = some p ∧ y.py = some q ∧ SeqAt.shaped p = true ∧ SeqAt.shaped q = true ∧ d = .bl (PyData.eqv p q)) := fun pins s σ H x y v u Q I rx ry ⟨F, dx, dy, d, e, i1, i2, ⟨p, q, h1, h2, h3, h4, h5⟩, k⟩ => by
  subst h5
  exact op_eqD hr.units pins s σ H x y v u Q I rx ry ⟨p, q, py_dp e _ i1 h1, py_dp e _ i2 h2, h3, h4, k _ F H (Nx.refl e) rfl⟩
theorem opD_ne (hr : Room k X.A) : OpD X (compareOp .NotEq) (fun x y d => ∃ p q, x.py = some p ∧ y.py = some q ∧ SeqAt.shaped p = true ∧ SeqAt.shaped q = true ∧ d = .bl (!PyData.eqv p q)) := fun pins s σ H x y v u Q I rx ry ⟨F, dx, dy, d, e, i1, i2, ⟨p, q, h1, h2, h3, h4, h5⟩, k⟩ => by
  subst h5
  exact op_neD hr.units pins s σ H x y v u Q I rx ry ⟨p, q, py_dp e _ i1 h1, py_dp e _ i2 h2, h3, h4, k _ F H (Nx.refl e) rfl⟩
theorem tv_neD (hr : Room k X.A) (ha : EV X a ss x) (hb : EV X b ss y) (h1 : x.py = some p) (h2 : y.py = some q) (h3 : SeqAt.shaped p = true) (h4 : SeqAt.shaped q = true) : TV X (.Compare a [.NotEq] [b] pos) ss (!PyData.eqv p q) :=
  tv_cmpD (opD_ne hr) ha hb ⟨p, q, h1, h2, h3, h4, rfl⟩
theorem tv_eqD (hr : Room k X.A) (ha : EV X a ss x) (hb : EV X b ss y) (h1 : x.py = some p) (h2 : y.py = some q) (h3 : SeqAt.shaped p = true) (h4 : SeqAt.shaped q = true) : TV X (.Compare a [.Eq] [b] pos) ss (PyData.eqv p q) :=
  tv_cmpD (opD_eq hr) ha hb ⟨p, q, h1, h2, h3, h4, rfl⟩
end
/-! ### exceptions that are held -/
section
open PySem.ExS
variable {X : Cx} {ss : SS} {e c : Expr} {es : List Expr} {d : D} {x f y : Str} {p pos : Pos} {C fI cc cda : Addr} {k : Nat}
theorem ev_exc1 (T : ExCls X.prog X.K X.mg C fI cc cda) (Fn : ExFn1 X.K C fI cc cda f y) (hr : Room k X.A) (hm : X.mg x = some (.ref C)) (he : EV X e ss d) (hg : Gl X x := by rfl) (hdb : (x == ("__debug__" : Str)) = false := by decide)
    (hst : starEach [e] X.env = [(false, eval e X.env)] := by rfl) (hpl : (backTo pos (starEach [] X.env)).any (·.1) = false := by rfl) : EV X (.Call (.Name x p) [e] [] pos) ss (.exc C [f] [d]) :=
  EV.of (pe_exv1 T Fn hr (evs_cons he evs_nil hst) hm hg hdb hst hpl) fun B F H σ Q R q => evs_go R fun vs F1 H1 n1 R1 i1 => by
    obtain ⟨v, rfl, h⟩ := isL1 i1
    refine ⟨v, rfl, fun a dd ha hd ne => ?_⟩
    have m1 := Nx.alloc (o := exd dd [(f, v)]) R1.sub hd
    have ha' : upd H1 dd (exd dd [(f, v)]) a = none := by rw [upd_ne (Ne.symm ne)]; exact ha
    have m2 := Nx.alloc (o := exo a C (some dd)) (F := upd F1 dd (exd dd [(f, v)])) m1.s ha'
    have m := (n1.trans m1).trans m2
    refine q _ _ _ m (R.grow m) ⟨a, some dd, [(f, v)], rfl, upd_same, rfl, .cons (Is.mono (m1.f.trans m2.f) _ h) .nil, fun d' e' => ?_, fun z => nomatch z⟩
    cases e'
    rw [upd_ne ne, upd_same]
theorem ev_exc0 (T : ExCls X.prog X.K X.mg C fI cc cda) (Fn : ExFn0 X.K fI cc cda) (hr : Room k X.A) (hm : X.mg x = some (.ref C)) (hg : Gl X x := by rfl) (hdb : (x == ("__debug__" : Str)) = false := by decide) : EV X (.Call (.Name x p) [] [] pos) ss (.exc C [] []) :=
  EV.of (pe_exv0 T Fn hr hm hg hdb) fun B F H σ Q R q => fun a ha => by
    have m := Nx.alloc (o := exo a C none) R.sub ha
    exact q _ _ _ m (R.grow m) ⟨a, none, [], rfl, upd_same, rfl, rfl, (fun d' e' => nomatch e'), fun _ => rfl⟩
theorem ev_excF (T : ExCls X.prog X.K X.mg C fI cc cda) (hno : PySem.W.findIn X.K (.ref C) f = some none) (he : EV X e ss (.exc C [f] [d])) (hb : attributeBase e f X.env (eval e X.env) = eval e X.env := by rfl) : EV X (.Attribute e f pos) ss d :=
  EV.of (pe_exf T hno he hb) fun B F H σ Q R q => ev_go R fun v F1 H1 n1 R1 i1 => by
    obtain ⟨a, od, fs, rfl, e1, e2, e3, e4, e5⟩ := i1
    cases fs with
    | nil => cases e2
    | cons q0 r =>
      cases r with
      | cons _ _ => cases e2
      | nil =>
        obtain ⟨g, v⟩ := q0
        obtain rfl : g = f := by simpa using e2
        obtain ⟨v', hv, iv⟩ := isL1 e3
        have : v = v' := by simpa using hv
        subst this
        cases od with
        | none => cases e5 rfl
        | some dd => exact ⟨a, dd, _, v, rfl, R1.sub _ _ e1, R1.sub _ _ (e4 dd rfl), by simp [List.lookup], q v F1 H1 n1 R1 iv⟩
/-- what isinstance asks of a class of exceptions -/
structure ExIs (K : PySem.W.Frag) (C : Addr) : Prop where
  cl : (PySem.W.clsIn K C).isSome = true
  ga : PySem.W.findIn K (.ref C) "__getattribute__" = some (some (.builtin "BaseException.__getattribute__"))
  gg : PySem.W.findIn K (.ref C) "__getattr__" = some none
  be : PySem.W.subIn K (.ref C) (.type "BaseException") = some true
  ca : PySem.W.findIn K (.ref C) "__class__" = some (some (.builtin "object.__class__"))
  gd : PySem.W.specialIn K (.builtin "object.__class__") "__get__" = some (some (.builtin "getset_descriptor.__get__"))
  tk : PySem.W.takesIn K (.builtin "object.__class__") = some true
  ob : PySem.W.mroIn K C (.type "object") = some true
def rIsE (K : PySem.W.Frag) : List V → Hp → VK → Prop := fun xs H Q => ∃ (a C : Addr) (od : Option Addr) (c : V) (u : Value) (b : Bool), xs = [.ref a, c] ∧ H a = some (exo a C od) ∧ (∀ d, od = some d → ∃ fs, H d = some (exd d fs)) ∧ ClsV c u ∧ ExIs K C ∧ PySem.W.kitOne K (.ref C) u = some b ∧ Q (.bl b) H
theorem call_isE : CallR X (.builtin "isinstance") (rIsE X.K) := by
  intro pins s σ H xs us Q I r h
  obtain ⟨a, C, od, c, u, b, rfl, ea, ed, k, T, e, q⟩ := h
  obtain ⟨u1, u2, rfl, r1, r2⟩ := vals2 r
  have e2 := k.eq r2
  subst e2
  cases r1
  obtain ⟨t1, ha⟩ := exo_at I.hok ea
  have J : ∃ oo, PySem.W.InstAt s.heap a { cls := .ref C, dict := od, data := .fields #[.ref t1, .none, .none, .none, .bool false, .none] } C oo := by
    cases od with
    | none => exact ⟨none, ha, rfl, rfl, trivial⟩
    | some d =>
      obtain ⟨fs, hd⟩ := ed d rfl
      obtain ⟨mA, ⟨o, es, ep, ho, _⟩, _⟩ := exd_at I.hok hd
      exact ⟨some o, ha, rfl, rfl, ho⟩
  obtain ⟨oo, J⟩ := J
  exact PySem.W.kia_one (PySem.W.kitx_exc (ox := { cls := .ref C, dict := od, data := .fields #[.ref t1, .none, .none, .none, .bool false, .none] }) (od := oo) T.cl T.ga T.gg T.be T.ca T.gd T.tk T.ob) I.kIn J e (fun z => nomatch z) fun tk => ⟨.bl b, H, I.tok tk, rfl, q⟩
/-- isinstance(e, D) -/
theorem ev_isE {ns : List Str} {xs : List D} {D' : Addr} {b : Bool} {cn : Str} {pc : Pos} (T : ExIs X.K C) (he : EV X e ss (.exc C ns xs)) (hcm : X.mg cn = some (.ref D')) (hk : PySem.W.kitOne X.K (.ref C) (.ref D') = some b) (hm : X.mg "isinstance" = none)
    (hcg : Gl X cn := by rfl) (hcd : (cn == ("__debug__" : Str)) = false := by decide) (hg : Gl X "isinstance" := by rfl) (hst : starEach [e, .Name cn pc] X.env = (false, eval e X.env) :: starEach [.Name cn pc] X.env := by rfl) (hst2 : starEach [.Name cn pc] X.env = [(false, eval (.Name cn pc) X.env)] := by rfl)
    (hpl : (backTo pos (starEach [.Name cn pc] X.env)).any (·.1) = false := by rfl) : EV X (.Call (.Name "isinstance" p) [e, .Name cn pc] [] pos) ss (.bl b) :=
  EV.of (pe_callB call_isE hg hm (by decide +kernel) (pa_cons he (pa_cons (pe_glob hcg hcm (show RelV (.ref D') (.ref D') from rfl) hcd) pa_nil hst2) hst) (by decide) (by decide) hst hpl) fun B F H σ Q R q => ev_go R fun v F1 H1 n1 R1 i1 => by
    obtain ⟨a, od, fs, rfl, e1, e2, e3, e4, e5⟩ := i1
    exact ⟨a, C, od, _, _, b, rfl, R1.sub _ _ e1, fun d z => ⟨fs, R1.sub _ _ (e4 d z)⟩, .own D', T, hk, q _ F1 H1 n1 R1 rfl⟩
/-- isinstance(e, ValueError) -/
theorem ev_isB {ns : List Str} {xs : List D} {b : Bool} {cn : Str} {tn : String} {pc : Pos} (T : ExIs X.K C) (he : EV X e ss (.exc C ns xs)) (hcm : X.mg cn = none) (hcv : bootBuiltins cn = some (.type tn)) (hk : PySem.W.kitOne X.K (.ref C) (.type tn) = some b) (hm : X.mg "isinstance" = none)
    (hcg : Gl X cn := by rfl) (hcn : cn ≠ "__name__" := by decide) (hcd : (cn == ("__debug__" : Str)) = false := by decide) (hg : Gl X "isinstance" := by rfl) (hst : starEach [e, .Name cn pc] X.env = (false, eval e X.env) :: starEach [.Name cn pc] X.env := by rfl) (hst2 : starEach [.Name cn pc] X.env = [(false, eval (.Name cn pc) X.env)] := by rfl)
    (hpl : (backTo pos (starEach [.Name cn pc] X.env)).any (·.1) = false := by rfl) : EV X (.Call (.Name "isinstance" p) [e, .Name cn pc] [] pos) ss (.bl b) :=
  EV.of (pe_callB call_isE hg hm (by decide +kernel) (pa_cons he (pa_cons (pe_bltn hcg hcm hcv (show RelV (.ty tn) (.type tn) from rfl) hcn hcd) pa_nil hst2) hst) (by decide) (by decide) hst hpl) fun B F H σ Q R q => ev_go R fun v F1 H1 n1 R1 i1 => by
    obtain ⟨a, od, fs, rfl, e1, e2, e3, e4, e5⟩ := i1
    exact ⟨a, C, od, _, _, b, rfl, R1.sub _ _ e1, fun d z => ⟨fs, R1.sub _ _ (e4 d z)⟩, .ty tn, T, hk, q _ F1 H1 n1 R1 rfl⟩
end
end Fd

set_option Elab.async false
set_option linter.all false
set_option maxRecDepth 100000
set_option maxHeartbeats 4000000
/-! K01: the errors of the package, one by one. -/
namespace K01
open PySem PySem.Spec PyProof.Rows L2 Fd PySem.ExS
def pT : Pos := ⟨0, 0, 0, 0⟩
def top (i : Nat) : Stmt := PySem.Challenge.pw_everylist_k01_errors.main.body.getD i (.Pass pT)
def sCell : Stmt := top 25
def sFlags : Stmt := top 26
def sAlone : Stmt := top 27
def sValued : Stmt := top 28
def sHeld : Stmt := top 29
def sLaw : Stmt := top 30
/-- the names in the law's order -/
def nms : List Str := ["Alike", "BadKind", "BadName", "BadNumber", "BadRow", "BadSum", "NameInUse", "NoKind", "NoLoop", "NoMany", "NoModulus", "NoPlace", "NoPrime", "NoRegister", "NoTerm", "NoText", "NotWhole", "NoWay", "OtherFields", "UnlikeFields", "UnlikeRows", "WrongCount"]
def flds : List Str := ["", "index", "name", "number", "index", "text", "name", "kind", "", "many", "modulus", "place", "number", "name", "term", "text", "", "kind", "", "", "", "count"]
def nm (i : Nat) : Str := nms.getD i ""
def fld (i : Nat) : Str := flds.getD i ""
def bare : List Nat := [0, 8, 16, 18, 19, 20]
def full : List Nat := [1, 2, 3, 4, 5, 6, 7, 9, 10, 11, 12, 13, 14, 15, 17, 21]
/-- what the package's text has made of its classes -/
structure Txt (prog : Program) (K : PySem.W.Frag) (mg : Str → Option Value) (L : Addr) (cs : Nat → Addr) : Prop where
  cls : ∀ i, i < 22 → mg (nm i) = some (.ref (cs i))
  is : ∀ i, i < 22 → ExIs K (cs i)
  kit : ∀ i j, i < 22 → j < 22 → PySem.W.kitOne K (.ref (cs i)) (.ref (cs j)) = some (decide (i = j))
  kL : ∀ i, i < 22 → PySem.W.kitOne K (.ref (cs i)) (.ref L) = some true
  kV : ∀ i, i < 22 → PySem.W.kitOne K (.ref (cs i)) (.type "ValueError") = some true
  mL : mg "ListError" = some (.ref L)
  m0 : ∀ i, i ∈ bare → ∃ fI cc cda, ExCls prog K mg (cs i) fI cc cda ∧ ExFn0 K fI cc cda
  m1 : ∀ i, i ∈ full → ∃ fI cc cda y, ExCls prog K mg (cs i) fI cc cda ∧ ExFn1 K (cs i) fI cc cda (fld i) y ∧ PySem.W.findIn K (.ref (cs i)) (fld i) = some none
  bIs : mg "isinstance" = none
  bVE : mg "ValueError" = none
  bLen : mg "len" = none
  bRange : mg "range" = none
  bInt : mg "int" = none
  bStr : mg "str" = none
  bAll : mg "all" = none
theorem full_lt : ∀ i, i ∈ full → i < 22 := by decide
theorem bare_lt : ∀ i, i ∈ bare → i < 22 := by decide
def flagL (i : Nat) : List Bool := [decide (i = 0), decide (i = 1), decide (i = 2), decide (i = 3), decide (i = 4), decide (i = 5), decide (i = 6), decide (i = 7), decide (i = 8), decide (i = 9), decide (i = 10), decide (i = 11), decide (i = 12), decide (i = 13), decide (i = 14), decide (i = 15), decide (i = 16), decide (i = 17), decide (i = 18), decide (i = 19), decide (i = 20), decide (i = 21)]
theorem flag_one : ∀ i, i < 22 → ((flagL i).filter id).length = 1 ∧ (flagL i)[i]? = some true := by decide +kernel
def pFlags (cs : Nat → Addr) (ds : List D) (d : D) : Prop := ∃ i ns xs, i < 22 ∧ ds = [.exc (cs i) ns xs] ∧ d = .lst ((flagL i).map D.bl)
def pAlone (cs : Nat → Addr) (ds : List D) (d : D) : Prop := ∃ i ns xs, i < 22 ∧ ds = [.exc (cs i) ns xs, .int (i : Nat)] ∧ d = .bl true
def pCell (ds : List D) (d : D) : Prop := ∃ (ns : List Int) (i : Nat), ds = [.rdl (ns.map D.int), .int (i : Nat)] ∧ ns.length ≤ 63 ∧ d = .int (ns.getD i 0)
def one (cs : Nat → Addr) (x : D) (i : Nat) : D := .tup [.exc (cs i) [fld i] [x], .int (i : Nat)]
def pValued (cs : Nat → Addr) (ds : List D) (d : D) : Prop := ∃ x, ds = [x] ∧ d = .lst (full.map (one cs x))
def pHeld (ds : List D) (d : D) : Prop := ∃ x, ds = [x] ∧ d = .lst (List.replicate 16 x)
def pLaw (ds : List D) (d : D) : Prop := ∃ ns : List Int, ds = [.rdl (ns.map D.int)] ∧ ns.length ≤ 63 ∧ d = .bl true
theorem scCell : FnScope ["_law_script", "_law_k"] ["_law_script", "_law_k"] (defScope sCell) := ⟨rfl, rfl, rfl, by decide +kernel, rfl, by decide +kernel, by decide +kernel⟩
theorem scFlags : FnScope ["_law_e", "_law_out"] ["_law_e"] (defScope sFlags) := ⟨rfl, rfl, rfl, by decide +kernel, rfl, by decide +kernel, by decide +kernel⟩
theorem scAlone : FnScope ["_law_e", "_law_place", "_law_flags_here"] ["_law_e", "_law_place"] (defScope sAlone) := ⟨rfl, rfl, rfl, by decide +kernel, rfl, by decide +kernel, by decide +kernel⟩
theorem scValued : FnScope ["_law_x", "_law_out"] ["_law_x"] (defScope sValued) := ⟨rfl, rfl, rfl, by decide +kernel, rfl, by decide +kernel, by decide +kernel⟩
theorem scHeld : FnScope ["_law_x", "_law_out"] ["_law_x"] (defScope sHeld) := ⟨rfl, rfl, rfl, by decide +kernel, rfl, by decide +kernel, by decide +kernel⟩
theorem scLaw : FnScope ["_law_script", "_law_place", "_law_e", "_law_k", "_law_cell_here", "_law_x"] ["_law_script"] (defScope sLaw) := ⟨rfl, rfl, rfl, by decide +kernel, rfl, by decide +kernel, by decide +kernel⟩
section
variable {P : Program} {w : World} {K : PySem.W.Frag} {mg : Str → Option Value} {base : Heap} {L : Addr} {cs : Nat → Addr} {f : Addr} {fd : FuncData}
section
variable {X : Cx} {ss : SS} {e : Expr} {ns : List Str} {xs : List D} {d : D} {p pc pos pos2 : Pos} {i k : Nat}
theorem is_ (T : Txt X.prog X.K X.mg L cs) (j : Nat) (hi : i < 22) (he : EV X e ss (.exc (cs i) ns xs)) (hj : j < 22 := by decide) (hcg : Gl X (nm j) := by rfl) (hcd : (nm j == ("__debug__" : Str)) = false := by decide) (hg : Gl X "isinstance" := by rfl) (hst : starEach [e, .Name (nm j) pc] X.env = (false, eval e X.env) :: starEach [.Name (nm j) pc] X.env := by rfl)
    (hst2 : starEach [.Name (nm j) pc] X.env = [(false, eval (.Name (nm j) pc) X.env)] := by rfl) (hpl : (backTo pos (starEach [.Name (nm j) pc] X.env)).any (·.1) = false := by rfl) : EV X (.Call (.Name "isinstance" p) [e, .Name (nm j) pc] [] pos) ss (.bl (decide (i = j))) :=
  ev_isE (T.is i hi) he (T.cls j hj) (T.kit i j hi hj) T.bIs hcg hcd hg hst hst2 hpl
theorem made (T : Txt X.prog X.K X.mg L cs) (i : Nat) (hr : Room k X.A) (he : EV X e ss d) (hi : i ∈ full := by decide) (hg : Gl X (nm i) := by rfl) (hdb : (nm i == ("__debug__" : Str)) = false := by decide)
    (hst : starEach [e] X.env = [(false, eval e X.env)] := by rfl) (hpl : (backTo pos (starEach [] X.env)).any (·.1) = false := by rfl) : EV X (.Call (.Name (nm i) p) [e] [] pos) ss (.exc (cs i) [fld i] [d]) := by
  obtain ⟨fI, cc, cda, y, h1, h2, h3⟩ := T.m1 i hi
  exact ev_exc1 h1 h2 hr (T.cls i (full_lt i hi)) he hg hdb hst hpl
theorem made0 (T : Txt X.prog X.K X.mg L cs) (i : Nat) (hr : Room k X.A) (hi : i ∈ bare := by decide) (hg : Gl X (nm i) := by rfl) (hdb : (nm i == ("__debug__" : Str)) = false := by decide) : EV X (.Call (.Name (nm i) p) [] [] pos) ss (.exc (cs i) [] []) := by
  obtain ⟨fI, cc, cda, h1, h2⟩ := T.m0 i hi
  exact ev_exc0 h1 h2 hr (T.cls i (bare_lt i hi)) hg hdb
theorem held (T : Txt X.prog X.K X.mg L cs) (i : Nat) (hr : Room k X.A) (he : EV X e ss d) (hi : i ∈ full := by decide) (hg : Gl X (nm i) := by rfl) (hdb : (nm i == ("__debug__" : Str)) = false := by decide)
    (hst : starEach [e] X.env = [(false, eval e X.env)] := by rfl) (hpl : (backTo pos (starEach [] X.env)).any (·.1) = false := by rfl)
    (hb : attributeBase (.Call (.Name (nm i) p) [e] [] pos) (fld i) X.env (eval (.Call (.Name (nm i) p) [e] [] pos) X.env) = eval (.Call (.Name (nm i) p) [e] [] pos) X.env := by rfl) : EV X (.Attribute (.Call (.Name (nm i) p) [e] [] pos) (fld i) pos2) ss d := by
  obtain ⟨fI, cc, cda, y, h1, h2, h3⟩ := T.m1 i hi
  exact ev_excF h1 h3 (made T i hr he hi hg hdb hst hpl) hb
end
theorem ok_cell (F : Fun K "_law_cell" "_law_cell" sCell f fd) (hL : mg "len" = none) : FnOk P w K mg base CX0 1 f fd ["_law_script", "_law_k"] (spD K 2 pCell) := by
  refine fd_ok F scCell rfl fun cdv A outer s H E ds d hr _ ⟨ns, i, e1, e3, e2⟩ => ?_
  subst e1; subst e2
  refine svs_cons (sv_if (tv_lt (ev_var 1 rfl) (ev_len (n := ns.length) (by simp [D.len]) (ev_var 0 rfl) hL)) (fun h => ?_) (fun h => ?_))
  · have hlt : i < ns.length := by simpa using h
    refine svs_one (sv_ret (ev_ixR ⟨i, rfl, ?_⟩ (ev_var 0 rfl) (ev_var 1 rfl)) rfl)
    rw [List.getElem?_map, List.getElem?_eq_getElem hlt, List.getD_eq_getElem?_getD, List.getElem?_eq_getElem hlt]
    rfl
  · have hlt : ns.length ≤ i := by simpa using h
    refine svs_nil (svs_one (sv_ret ev_int ?_))
    show D.int 0 = D.int (ns.getD i 0)
    rw [List.getD_eq_getElem?_getD, List.getElem?_eq_none hlt]
    rfl
theorem ok_flags (F : Fun K "_law_flags" "_law_flags" sFlags f fd) (T : Txt P K mg L cs) : FnOk P w K mg base CX0 1 f fd ["_law_e"] (spD K 1 (pFlags cs)) := by
  refine fd_ok F scFlags rfl fun cdv A outer s H E ds d hr _ ⟨i, ns, xs, hi, e1, e2⟩ => ?_
  subst e1; subst e2
  refine svs_cons (sv_setOwn 1 (evs_cons (is_ T 0 hi (ev_var 0 rfl)) (evs_cons (is_ T 1 hi (ev_var 0 rfl)) (evs_cons (is_ T 2 hi (ev_var 0 rfl)) (evs_cons (is_ T 3 hi (ev_var 0 rfl)) evs_nil)))) ?_ scFlags.nd)
  refine svs_cons (sv_extend 1 rfl (ev_lst (evs_cons (is_ T 4 hi (ev_var 0 rfl)) (evs_cons (is_ T 5 hi (ev_var 0 rfl)) (evs_cons (is_ T 6 hi (ev_var 0 rfl)) (evs_cons (is_ T 7 hi (ev_var 0 rfl)) evs_nil))))) ?_ (Nat.le_of_ble_eq_true rfl))
  refine svs_cons (sv_extend 1 rfl (ev_lst (evs_cons (is_ T 8 hi (ev_var 0 rfl)) (evs_cons (is_ T 9 hi (ev_var 0 rfl)) (evs_cons (is_ T 10 hi (ev_var 0 rfl)) (evs_cons (is_ T 11 hi (ev_var 0 rfl)) evs_nil))))) ?_ (Nat.le_of_ble_eq_true rfl))
  refine svs_cons (sv_extend 1 rfl (ev_lst (evs_cons (is_ T 12 hi (ev_var 0 rfl)) (evs_cons (is_ T 13 hi (ev_var 0 rfl)) (evs_cons (is_ T 14 hi (ev_var 0 rfl)) (evs_cons (is_ T 15 hi (ev_var 0 rfl)) evs_nil))))) ?_ (Nat.le_of_ble_eq_true rfl))
  refine svs_cons (sv_extend 1 rfl (ev_lst (evs_cons (is_ T 16 hi (ev_var 0 rfl)) (evs_cons (is_ T 17 hi (ev_var 0 rfl)) (evs_cons (is_ T 18 hi (ev_var 0 rfl)) evs_nil)))) ?_ (Nat.le_of_ble_eq_true rfl))
  refine svs_freeze 1 rfl ?_
  refine svs_one (sv_ret (ev_cat ?_ (ev_var 1 rfl) (ev_lst (evs_cons (is_ T 19 hi (ev_var 0 rfl)) (evs_cons (is_ T 20 hi (ev_var 0 rfl)) (evs_cons (is_ T 21 hi (ev_var 0 rfl)) evs_nil))))) rfl)
  exact Nat.le_of_ble_eq_true rfl
theorem ok_alone (F : Fun K "_law_alone" "_law_alone" sAlone f fd) (T : Txt P K mg L cs) (G : FD P w K mg base "_law_flags" 1 1 (pFlags cs)) : FnOk P w K mg base CX0 2 f fd ["_law_e", "_law_place"] (spD K 2 (pAlone cs)) := by
  refine fd_ok F scAlone rfl fun cdv A outer s H E ds d hr _ ⟨i, ns, xs, hi, e1, e2⟩ => ?_
  subst e1; subst e2
  obtain ⟨q1, q2⟩ := flag_one i hi
  refine svs_cons (sv_set 2 (ev_call G hr (evs_cons (ev_var 0 rfl) evs_nil) ⟨i, ns, xs, hi, rfl, rfl⟩) ?_ scAlone.nd)
  refine svs_one (sv_ret ?_ rfl)
  refine EV.cast (ev_andB (ev_isE (b := true) (T.is i hi) (ev_var 0 rfl) T.mL (T.kL i hi) T.bIs) fun _ => ev_andB (ev_isB (b := true) (T.is i hi) (ev_var 0 rfl) T.bVE (by decide +kernel) (T.kV i hi) T.bIs) fun _ => ev_andB (ev_eqI (ev_countT (bs := flagL i) (ev_var 2 rfl)) ev_int) fun _ => ev_one (ev_ixL (d := .bl true) ⟨i, rfl, ?_⟩ (ev_var 2 rfl) (ev_var 1 rfl))) ?_
  · rw [List.getElem?_map, q2]; rfl
  · rw [q1]; rfl
theorem ok_valued (F : Fun K "_law_valued" "_law_valued" sValued f fd) (T : Txt P K mg L cs) : FnOk P w K mg base CX0 2 f fd ["_law_x"] (spD K 1 (pValued cs)) := by
  refine fd_ok F scValued rfl fun cdv A outer s H E ds d hr _ ⟨x, e1, e2⟩ => ?_
  subst e1; subst e2
  refine svs_cons (sv_set 1 (ev_lst (evs_cons (ev_tup (evs_cons (made T 1 hr (ev_var 0 rfl)) (evs_cons ev_int evs_nil))) (evs_cons (ev_tup (evs_cons (made T 2 hr (ev_var 0 rfl)) (evs_cons ev_int evs_nil))) (evs_cons (ev_tup (evs_cons (made T 3 hr (ev_var 0 rfl)) (evs_cons ev_int evs_nil)))
    (evs_cons (ev_tup (evs_cons (made T 4 hr (ev_var 0 rfl)) (evs_cons ev_int evs_nil))) (evs_cons (ev_tup (evs_cons (made T 5 hr (ev_var 0 rfl)) (evs_cons ev_int evs_nil))) (evs_cons (ev_tup (evs_cons (made T 6 hr (ev_var 0 rfl)) (evs_cons ev_int evs_nil))) evs_nil))))))) ?_ scValued.nd)
  refine svs_cons (sv_set 1 (ev_cat ?_ (ev_var 1 rfl) (ev_lst (evs_cons (ev_tup (evs_cons (made T 7 hr (ev_var 0 rfl)) (evs_cons ev_int evs_nil))) (evs_cons (ev_tup (evs_cons (made T 9 hr (ev_var 0 rfl)) (evs_cons ev_int evs_nil))) (evs_cons (ev_tup (evs_cons (made T 10 hr (ev_var 0 rfl)) (evs_cons ev_int evs_nil)))
    (evs_cons (ev_tup (evs_cons (made T 11 hr (ev_var 0 rfl)) (evs_cons ev_int evs_nil))) (evs_cons (ev_tup (evs_cons (made T 12 hr (ev_var 0 rfl)) (evs_cons ev_int evs_nil))) evs_nil))))))) ?_ scValued.nd)
  · exact Nat.le_of_ble_eq_true rfl
  refine svs_one (sv_ret (ev_cat ?_ (ev_var 1 rfl) (ev_lst (evs_cons (ev_tup (evs_cons (made T 13 hr (ev_var 0 rfl)) (evs_cons ev_int evs_nil))) (evs_cons (ev_tup (evs_cons (made T 14 hr (ev_var 0 rfl)) (evs_cons ev_int evs_nil))) (evs_cons (ev_tup (evs_cons (made T 15 hr (ev_var 0 rfl)) (evs_cons ev_int evs_nil)))
    (evs_cons (ev_tup (evs_cons (made T 17 hr (ev_var 0 rfl)) (evs_cons ev_int evs_nil))) (evs_cons (ev_tup (evs_cons (made T 21 hr (ev_var 0 rfl)) (evs_cons ev_int evs_nil))) evs_nil))))))) rfl)
  exact Nat.le_of_ble_eq_true rfl
theorem ok_held (F : Fun K "_law_held" "_law_held" sHeld f fd) (T : Txt P K mg L cs) : FnOk P w K mg base CX0 2 f fd ["_law_x"] (spD K 1 pHeld) := by
  refine fd_ok F scHeld rfl fun cdv A outer s H E ds d hr _ ⟨x, e1, e2⟩ => ?_
  subst e1; subst e2
  refine svs_cons (sv_set 1 (ev_lst (evs_cons (held T 1 hr (ev_var 0 rfl)) (evs_cons (held T 2 hr (ev_var 0 rfl)) (evs_cons (held T 3 hr (ev_var 0 rfl)) (evs_cons (held T 4 hr (ev_var 0 rfl)) (evs_cons (held T 5 hr (ev_var 0 rfl)) evs_nil)))))) ?_ scHeld.nd)
  refine svs_cons (sv_set 1 (ev_cat ?_ (ev_var 1 rfl) (ev_lst (evs_cons (held T 6 hr (ev_var 0 rfl)) (evs_cons (held T 7 hr (ev_var 0 rfl)) (evs_cons (held T 9 hr (ev_var 0 rfl)) (evs_cons (held T 10 hr (ev_var 0 rfl)) (evs_cons (held T 11 hr (ev_var 0 rfl)) evs_nil))))))) ?_ scHeld.nd)
  · exact Nat.le_of_ble_eq_true rfl
  refine svs_cons (sv_set 1 (ev_cat ?_ (ev_var 1 rfl) (ev_lst (evs_cons (held T 12 hr (ev_var 0 rfl)) (evs_cons (held T 13 hr (ev_var 0 rfl)) (evs_cons (held T 14 hr (ev_var 0 rfl)) (evs_cons (held T 15 hr (ev_var 0 rfl)) (evs_cons (held T 17 hr (ev_var 0 rfl)) evs_nil))))))) ?_ scHeld.nd)
  · exact Nat.le_of_ble_eq_true rfl
  refine svs_one (sv_ret (ev_cat ?_ (ev_var 1 rfl) (ev_lst (evs_cons (held T 21 hr (ev_var 0 rfl)) evs_nil))) rfl)
  exact Nat.le_of_ble_eq_true rfl
end
end K01

set_option Elab.async false
set_option linter.all false
set_option maxRecDepth 100000
set_option maxHeartbeats 4000000
namespace K01
open PySem PySem.Spec PyProof.Rows L2 Fd PySem.ExS
theorem strOk_of (s : String) : PyData.strOk (Str.ofString s) = true := by
  rw [Str.ofString_eq_toList]
  unfold PyData.strOk
  rw [List.all_toArray]
  rw [List.all_eq_true]
  intro x hx
  obtain ⟨c, _, rfl⟩ := List.mem_map.mp hx
  have h := c.valid
  have h2 : c.toNat < 0x110000 := by
    rcases h with h | ⟨_, h⟩
    · exact Nat.lt_trans h (by decide)
    · exact h
  exact decide_eq_true h2
theorem pairs_lt : ∀ j : Nat, j ∈ [0, 8, 16, 18, 19] → j < 22 := by decide
theorem log2_lt {c : Int} (h1 : -5 ≤ c) (h2 : c < 10 ^ 30) : c.natAbs.log2 < 1920 := by
  have h : c.natAbs < 2 ^ 100 := by omega
  by_cases z : c.natAbs = 0
  · rw [z]; decide
  · have := (Nat.log2_lt z).mpr h
    omega
def pairs (cs : Nat → Addr) : List D := [0, 8, 16, 18, 19].map fun i : Nat => .tup [.int (i : Nat), .exc (cs i) [] []]
section
variable {P : Program} {w : World} {K : PySem.W.Frag} {mg : Str → Option Value} {base : Heap} {L : Addr} {cs : Nat → Addr} {f : Addr} {fd : FuncData}
theorem ok_law (F : Fun K "law" "law" sLaw f fd) (T : Txt P K mg L cs) (GC : FD P w K mg base "_law_cell" 2 1 pCell) (GA : FD P w K mg base "_law_alone" 2 2 (pAlone cs)) (GV : FD P w K mg base "_law_valued" 1 2 (pValued cs)) (GH : FD P w K mg base "_law_held" 1 2 pHeld) :
    FnOk P w K mg base CX0 3 f fd ["_law_script"] (spD K 1 pLaw) := by
  refine fd_ok F scLaw rfl fun cdv A outer s H E ds d hr _ ⟨ns, e1, hns, e2⟩ => ?_
  subst e1; subst e2
  have hr1 := hr.mono (show 1 ≤ 2 by decide)
  refine svs_cons (sv_for (.many [1, 2]) (fun _ ss => ∃ s1 s2, ss = [.d (.rdl (ns.map D.int)), s1, s2, .no, .no, .no])
    (iv_list (xs := pairs cs) (ev_lst (evs_cons (ev_tup (evs_cons ev_int (evs_cons (made0 T 0 hr) evs_nil))) (evs_cons (ev_tup (evs_cons ev_int (evs_cons (made0 T 8 hr) evs_nil))) (evs_cons (ev_tup (evs_cons ev_int (evs_cons (made0 T 16 hr) evs_nil)))
      (evs_cons (ev_tup (evs_cons ev_int (evs_cons (made0 T 18 hr) evs_nil))) (evs_cons (ev_tup (evs_cons ev_int (evs_cons (made0 T 19 hr) evs_nil))) evs_nil)))))))
    (pg_tup rfl (pgs_cons (pg_name (i := 1) scLaw.nd rfl (Or.inl rfl)) (pgs_cons (pg_name (i := 2) scLaw.nd rfl (Or.inl rfl)) pgs_nil)))
    ⟨_, _, rfl⟩ ?_ ?_)
  · rintro i x ss' hx ⟨s1, s2, rfl⟩
    obtain ⟨j, hj, rfl⟩ := List.mem_map.mp (List.mem_of_getElem? hx)
    have hj' : j < 22 := pairs_lt j hj
    refine ⟨rfl, svs_one (sv_if (tv_not (tv_of (b := true) (ev_call GA hr (evs_cons (ev_var 2 rfl) (evs_cons (ev_var 1 rfl) evs_nil)) ⟨j, [], [], hj', rfl, rfl⟩))) (fun z => nomatch z) (fun _ => svs_nil ?_))⟩
    exact ⟨_, _, rfl⟩
  rintro ss' ⟨s1, s2, rfl⟩
  refine svs_cons (sv_if (tv_not (tv_of (b := true) (ev_call GA hr (evs_cons (made0 T 20 hr) (evs_cons ev_int evs_nil)) ⟨20, [], [], by decide, rfl, rfl⟩))) (fun z => nomatch z) (fun _ => svs_nil ?_))
  refine svs_cons (sv_for (.one 3) (fun _ ss => ∃ s1 s2 s3 s4 s5, ss = [.d (.rdl (ns.map D.int)), s1, s2, s3, s4, s5]) (iv_range1 (n := 3) ev_int (by decide) T.bRange) (pg_name (i := 3) scLaw.nd rfl (Or.inl rfl)) ⟨_, _, _, _, _, rfl⟩ ?_ ?_)
  · rintro i x ss' hx ⟨s1, s2, s3, s4, s5, rfl⟩
    have hi : i < 3 := by
      have := (List.getElem?_eq_some_iff.mp hx).1
      simpa [rng_len] using this
    have hx : (rng 0 3)[i]? = some x := hx
    rw [rng_get hi, Int.zero_add] at hx
    obtain rfl : D.int (i : Int) = x := Option.some.inj hx
    refine ⟨rfl, ?_⟩
    refine svs_cons (sv_set 4 (ev_sub (ev_mod (by decide) (ev_int1 (ev_call GC hr1 (evs_cons (ev_var 0 rfl) (evs_cons (ev_var 3 rfl) evs_nil)) ⟨ns, i, rfl, hns, rfl⟩) T.bInt) (ev_pow ⟨by decide, by decide, by decide⟩ ev_int ev_int)) ev_int) ?_ scLaw.nd)
    generalize hc : ns.getD i 0 % 10 ^ (30 : Int).toNat - 5 = c
    rw [show (10 : Int) ^ (30 : Int).toNat = 10 ^ 30 from rfl] at hc
    have hz : c.natAbs.log2 < 1920 := log2_lt (by omega) (by omega)
    refine svs_one (sv_for (.one 5) (fun _ ss => ∃ s1 s2 s5, ss = [.d (.rdl (ns.map D.int)), s1, s2, .d (.int (i : Nat)), .d (.int c), s5])
      (iv_tup (ev_tup (evs_cons (ev_var 4 rfl) (evs_cons (ev_strI hz (ev_var 4 rfl) T.bStr) (evs_cons (ev_lst (evs_cons (ev_var 4 rfl) (evs_cons (ev_var 3 rfl) evs_nil))) (evs_cons (ev_tup (evs_cons (ev_var 3 rfl) (evs_cons (ev_strI hz (ev_var 4 rfl) T.bStr) evs_nil))) evs_nil))))))
      (pg_name (i := 5) scLaw.nd rfl (Or.inl rfl)) ⟨_, _, _, rfl⟩ ?_ ?_)
    · rintro k x ss' hx ⟨s1, s2, s5, rfl⟩
      refine ⟨rfl, ?_⟩
      have hso := strOk_of (toString c)
      have hso2 : PyData.strOk (Str.ofString c.repr) = true := hso
      obtain ⟨p, hp1, hp2, hp3, hp4, hp5⟩ : ∃ p, x.py = some p ∧ (D.lst (List.replicate 16 x)).py = some (.list (List.replicate 16 p)) ∧ SeqAt.shaped (.list (List.replicate 16 p)) = true ∧ PyData.canLay0 (.list (List.replicate 16 p)) = true ∧ (D.lst (List.replicate (16 : Int).toNat [x]).flatten).py = some (.list (List.replicate 16 p)) := by
        have := List.mem_of_getElem? hx
        simp only [List.mem_cons, List.not_mem_nil, or_false] at this
        rcases this with rfl | rfl | rfl | rfl
        · exact ⟨_, rfl, rfl, rfl, rfl, rfl⟩
        · refine ⟨.str (toString c), rfl, rfl, ?_, ?_, rfl⟩ <;> simp [SeqAt.shaped, PyData.canLay0, PyData.canLayAll0, PyData.depth, PyData.depthAll, List.replicate, hso, hso2]
        · exact ⟨_, rfl, rfl, rfl, rfl, rfl⟩
        · refine ⟨.tuple [.int (i : Nat), .str (toString c)], rfl, rfl, ?_, ?_, rfl⟩ <;> simp [SeqAt.shaped, PyData.canLay0, PyData.canLayAll0, PyData.depth, PyData.depthAll, List.replicate, hso, hso2]
      refine svs_one (sv_if (TW.tv (id (tw_orB (tv_not (tv_of (b := true) (EV.cast (ev_all (bs := List.replicate 16 true) (EV.cast (ev_lc [("_law_e", 2), ("_law_place", 1)] (.many [2, 1]) (fun _ => true) (fun _ => .bl true)
        (iv_list (ev_call GV hr (evs_cons (ev_var 5 rfl) evs_nil) ⟨x, rfl, rfl⟩)) (id (α := BlkOk ["_law_script", "_law_place", "_law_e", "_law_k", "_law_cell_here", "_law_x"] (defScope sLaw) _ [("_law_e", 2), ("_law_place", 1)]) ⟨rfl, by decide +kernel, by decide +kernel, by decide +kernel, by decide +kernel⟩)
        (fun s H C cl fp => pg_tup rfl (pgs_cons (pg_name (i := 2) scLaw.nd rfl (Or.inl rfl)) (pgs_cons (pg_name (i := 1) scLaw.nd rfl (Or.inl rfl)) pgs_nil)))
        (fun s H C cl fp y hy => ts_nil) (fun s H C cl fp y hy _ => ?_) scLaw.nd ?_ ?_) rfl) T.bAll) rfl))) fun _ => tw_or1 (tv_neD hr (ev_call GH hr (evs_cons (ev_var 5 rfl) evs_nil) ⟨x, rfl, rfl⟩) (ev_rep (k := 16) (by decide) ?_ (ev_lst (evs_cons (ev_var 5 rfl) evs_nil)) ev_int) hp2 hp5 hp3 hp3)))) (fun z => absurd z (by rw [SeqAt.eqv_refl _ hp4]; decide)) (fun _ => svs_nil ?_))
      · obtain ⟨j, hj, rfl⟩ := List.mem_map.mp hy
        exact ev_call GA hr (evs_cons (ev_var 2 rfl) (evs_cons (ev_var 1 rfl) evs_nil)) ⟨j, [fld j], [x], full_lt j hj, rfl, rfl⟩
      · intro y hy
        obtain ⟨j, hj, rfl⟩ := List.mem_map.mp hy
        rfl
      · exact Nat.le_of_ble_eq_true rfl
      · exact Nat.le_of_ble_eq_true rfl
      · exact ⟨_, _, _, rfl⟩
    · rintro ss' ⟨s1, s2, s5, rfl⟩
      exact ⟨_, _, _, _, _, rfl⟩
  rintro ss' ⟨s1, s2, s3, s4, s5, rfl⟩
  exact svs_one (sv_ret ev_bl rfl)
end
end K01

set_option Elab.async false
set_option linter.all false
set_option maxRecDepth 100000
set_option maxHeartbeats 4000000
namespace K01
open PySem PySem.Spec PyProof.Rows L2 Fd PySem.ExS
def bm (L : Addr) : List Value := [.ref L, .type "ValueError", .type "Exception", .type "BaseException", .type "object"]
/-- one class of errors, as the top has made it -/
structure One (prog : Program) (K : PySem.W.Frag) (mg : Str → Option Value) (L : Addr) (x : Str) (C fI cc cda : Addr) : Prop where
  mgC : mg x = some (.ref C)
  ex : ExCls prog K mg C fI cc cda
  is : ExIs K C
  cd : ∃ cd, PySem.W.clsIn K C = some cd ∧ cd.name = x ∧ cd.mro = .ref C :: bm L
  ty : PySem.W.typeIn K (.ref C) = some (.type "type")
section
variable {P : Program} {w : World} {K : PySem.W.Frag} {mg : Str → Option Value} {h : Heap} {L : Addr}
theorem one_mk (X : K.In h) (G : h.Ns mainGlobals mg) {x nq : Str} {C fI cc cda N : Addr} {bs : List Value} {sn : List Str} {sub : List Value} {ab : Bool} {col : Option Bool} {dd : Option Addr} {k0 k1 k2 k3 k5 : Option Value}
    {cl ccl : Value} {cld cdd : Option Addr} {csl ccs : Array (Option Value)} {vs : Array Value} {file : Str} {tf : Tok}
    (aC : PySem.W.nsIn K mainGlobals x = some (some (.ref C)))
    (xL : K.lookup C = some (excClassObj x nq C N bs (bm L) true sn sub ab col dd k0 k1 k2 k3 k5 "ValueError.__new__"))
    (sa : PySem.W.findIn K (.ref C) "__setattr__" = some (some (.builtin "object.__setattr__")))
    (ga : PySem.W.findIn K (.ref C) "__getattribute__" = some (some (.builtin "BaseException.__getattribute__")))
    (gg : PySem.W.findIn K (.ref C) "__getattr__" = some none)
    (iC : PySem.W.findIn K (.ref C) "__init__" = some (some (.ref fI))) (tI : PySem.W.typeIn K (.ref fI) = some (.type "function")) (kC : PySem.W.keepIn K (.ref C) = true) (ty : PySem.W.typeIn K (.ref C) = some (.type "type"))
    (ce : K.lookup cc = some ⟨cl, cld, .cell (some (.ref C)), csl⟩)
    (co : K.lookup cda = some ⟨ccl, cdd, .fields vs, ccs⟩) (v2 : vs[2]? = some (.str file tf)) (fi : ((P.main.file : Str) == file) = true)
    (sup : PySem.W.ks_superIn K C C "__init__" = some (some (.builtin "ValueError.__init__")))
    (opq : PySem.W.nsIn K cStatics "thirdparty.any" = some none) (mgs : PySem.W.nsIn K mainGlobals "super" = some none) (tp : (P.main.scope.names.lookup ("super" : Str)).isSome = false)
    (ca : PySem.W.findIn K (.ref C) "__class__" = some (some (.builtin "object.__class__")))
    (gd : PySem.W.specialIn K (.builtin "object.__class__") "__get__" = some (some (.builtin "getset_descriptor.__get__"))) (tk : PySem.W.takesIn K (.builtin "object.__class__") = some true) :
    One P K mg L x C fI cc cda := by
  have hcl : PySem.W.clsIn K C = some { name := x, bases := bs, mro := .ref C :: bm L, ns := N, qualname := nq, hasDict := true, slotNames := sn, subclasses := sub, abstract := ab, collection := col, hasDel := false } := by unfold PySem.W.clsIn; rw [xL] <;> rfl
  have hm : ∀ b, (Value.ref C :: bm L).contains b = true → PySem.W.mroIn K C b = some true := fun b q => by
    unfold PySem.W.mroIn
    rw [hcl]
    show (if (Value.ref C :: bm L).isEmpty then none else some ((Value.ref C :: bm L).contains b)) = some true
    rw [q]; rfl
  have c1 : PySem.W.mroIn K C (.type "BaseException") = some true := hm _ (by simp [bm])
  have c2 : PySem.W.mroIn K C (.type "ValueError") = some true := hm _ (by simp [bm])
  have c3 : PySem.W.mroIn K C (.type "object") = some true := hm _ (by simp [bm])
  have c4 : PySem.W.mroIn K C (.ref C) = some true := hm _ (by simp [bm])
  exact { mgC := PySem.W.mg_of X G aC, ty := ty, cd := ⟨_, hcl, rfl, rfl⟩
          ex := { cls := ⟨x, nq, N, bs, bm L, sn, sub, ab, col, dd, k0, k1, k2, k3, k5, xL, rfl⟩, sa := sa, ga := ga, gg := gg, iC := iC, tC := tI, kC := kC, exC := c1, veC := c2, seC := c4, tyC := ty, hdC := by unfold PySem.W.hasDictIn; rw [hcl] <;> rfl
                  cell := ⟨cl, cld, csl, ce⟩, code := ⟨ccl, cdd, vs, ccs, file, tf, co, v2, fi⟩, sup := sup, opq := opq, mgs := PySem.W.mg_none_of X G mgs, top := tp }
          is := { cl := by rw [hcl] <;> rfl, ga := ga, gg := gg, be := c1, ca := ca, gd := gd, tk := tk, ob := c3 } }
/-- two classes with unlike names are two -/
theorem One.ne {x y : Str} {C D a b c a' b' c' : Addr} (o : One P K mg L x C a b c) (q : One P K mg L y D a' b' c') (h : x ≠ y) : C ≠ D := fun e => by
  subst e
  obtain ⟨c1, h1, h2, _⟩ := o.cd
  obtain ⟨c2, g1, g2, _⟩ := q.cd
  rw [h1] at g1
  cases g1
  exact h (h2.symm.trans g2)
theorem One.kit {x y : Str} {C D a b c a' b' c' : Addr} (o : One P K mg L x C a b c) (q : One P K mg L y D a' b' c') (hne : C ≠ D) (hL : D ≠ L) : PySem.W.kitOne K (.ref C) (.ref D) = some false := by
  obtain ⟨c1, h1, h2, h3⟩ := o.cd
  obtain ⟨c2, g1, g2, g3⟩ := q.cd
  have hs : ((PySem.W.clsIn K D).isSome && PySem.W.typeIn K (.ref D) == some (.type "type")) = true := by rw [g1, q.ty] <;> rfl
  unfold PySem.W.kitOne
  rw [if_neg (by simp [hne])]
  show (if ((PySem.W.clsIn K D).isSome && PySem.W.typeIn K (.ref D) == some (.type "type")) = true then PySem.W.mroIn K C (.ref D) else none) = _
  rw [if_pos hs]
  unfold PySem.W.mroIn
  rw [h1]
  show (if c1.mro.isEmpty then none else some (c1.mro.contains (.ref D))) = some false
  rw [h3]
  simp [bm, hne, hL]
  exact fun z => hne z.symm
theorem One.self {x : Str} {C a b c : Addr} (o : One P K mg L x C a b c) : PySem.W.kitOne K (.ref C) (.ref C) = some true := by
  unfold PySem.W.kitOne
  rw [if_pos (by simp)]
theorem One.base {x : Str} {C a b c : Addr} (o : One P K mg L x C a b c) (hs : (PySem.W.clsIn K L).isSome = true) (ht : PySem.W.typeIn K (.ref L) = some (.type "type")) : PySem.W.kitOne K (.ref C) (.ref L) = some true := by
  obtain ⟨c1, h1, h2, h3⟩ := o.cd
  unfold PySem.W.kitOne
  split
  · rfl
  · show (if ((PySem.W.clsIn K L).isSome && PySem.W.typeIn K (.ref L) == some (.type "type")) = true then PySem.W.mroIn K C (.ref L) else none) = _
    rw [if_pos (by rw [hs, ht] <;> rfl)]
    unfold PySem.W.mroIn
    rw [h1]
    show (if c1.mro.isEmpty then none else some (c1.mro.contains (.ref L))) = some true
    rw [h3]
    simp [bm]
theorem One.ve {x : Str} {C a b c : Addr} (o : One P K mg L x C a b c) : PySem.W.kitOne K (.ref C) (.type "ValueError") = some true := by
  obtain ⟨c1, h1, h2, h3⟩ := o.cd
  unfold PySem.W.kitOne
  rw [if_neg (by simp)]
  show (if PySem.W.kitMeta "ValueError" = true then PySem.W.mroIn K C (.type "ValueError") else none) = _
  rw [if_pos (by decide +kernel)]
  unfold PySem.W.mroIn
  rw [h1]
  show (if c1.mro.isEmpty then none else some (c1.mro.contains (.type "ValueError"))) = some true
  rw [h3]
  simp [bm]
end
end K01

set_option Elab.async false
set_option linter.all false
set_option maxRecDepth 100000
set_option maxHeartbeats 4000000
namespace K01
open PySem PySem.Spec PyProof.Rows L2 Fd PySem.ExS
/-- what a parameter's name is asked for -/
structure YOk (y : Str) : Prop where
  ys : (("self" : Str) == y) = false
  yd : (y == ("__debug__" : Str)) = false
  nc : ∀ x ∈ (iS y).names, x.2 ≠ .cell
  l1 : (iS y).names.lookup ("self" : Str) = some .local
  l2 : (iS y).names.lookup y = some .local
  l3 : (iS y).names.lookup ("super" : Str) = some .globalImplicit
  l4 : (iS y).names.lookup ("__class__" : Str) = some .free
  bd : ∀ (qual : Str) (body : List Stmt) (doc pm : Value) (an : Option Addr) (cv ct : Value) (cc : Addr) (p1 p2 : Pos) (x : Addr) (v : Value), PySem.bindArgs (PySem.W.ksFn "__init__" qual (iA y p1 p2) body (iS y) .none .none doc pm an cv ct cc) ⟨[.ref x, v], []⟩ = pure [(("self" : Str), Value.ref x), (y, v)]

theorem y_count : YOk "count" := ⟨by decide +kernel, by decide +kernel, by decide +kernel, by decide +kernel, by decide +kernel, by decide +kernel, by decide +kernel, fun _ _ _ _ _ _ _ _ _ _ _ _ => rfl⟩
theorem y_index : YOk "index" := ⟨by decide +kernel, by decide +kernel, by decide +kernel, by decide +kernel, by decide +kernel, by decide +kernel, by decide +kernel, fun _ _ _ _ _ _ _ _ _ _ _ _ => rfl⟩
theorem y_kind : YOk "kind" := ⟨by decide +kernel, by decide +kernel, by decide +kernel, by decide +kernel, by decide +kernel, by decide +kernel, by decide +kernel, fun _ _ _ _ _ _ _ _ _ _ _ _ => rfl⟩
theorem y_many : YOk "many" := ⟨by decide +kernel, by decide +kernel, by decide +kernel, by decide +kernel, by decide +kernel, by decide +kernel, by decide +kernel, fun _ _ _ _ _ _ _ _ _ _ _ _ => rfl⟩
theorem y_modulus : YOk "modulus" := ⟨by decide +kernel, by decide +kernel, by decide +kernel, by decide +kernel, by decide +kernel, by decide +kernel, by decide +kernel, fun _ _ _ _ _ _ _ _ _ _ _ _ => rfl⟩
theorem y_name : YOk "name" := ⟨by decide +kernel, by decide +kernel, by decide +kernel, by decide +kernel, by decide +kernel, by decide +kernel, by decide +kernel, fun _ _ _ _ _ _ _ _ _ _ _ _ => rfl⟩
theorem y_number : YOk "number" := ⟨by decide +kernel, by decide +kernel, by decide +kernel, by decide +kernel, by decide +kernel, by decide +kernel, by decide +kernel, fun _ _ _ _ _ _ _ _ _ _ _ _ => rfl⟩
theorem y_place : YOk "place" := ⟨by decide +kernel, by decide +kernel, by decide +kernel, by decide +kernel, by decide +kernel, by decide +kernel, by decide +kernel, fun _ _ _ _ _ _ _ _ _ _ _ _ => rfl⟩
theorem y_term : YOk "term" := ⟨by decide +kernel, by decide +kernel, by decide +kernel, by decide +kernel, by decide +kernel, by decide +kernel, by decide +kernel, fun _ _ _ _ _ _ _ _ _ _ _ _ => rfl⟩
theorem y_text : YOk "text" := ⟨by decide +kernel, by decide +kernel, by decide +kernel, by decide +kernel, by decide +kernel, by decide +kernel, by decide +kernel, fun _ _ _ _ _ _ _ _ _ _ _ _ => rfl⟩
section
variable {P : Program} {w : World} {K : PySem.W.Frag} {mg : Str → Option Value} {h : Heap} {L : Addr}
theorem fn1_mk {f y qual tx : Str} {j : Nat} {oc : Value} {od : Option Addr} {doc pm : Value} {an : Option Addr} {ct : Value} {osl : Array (Option Value)} {p1 p2 q1 q2 q3 q4 q5 q6 q7 q8 q9 qa : Pos} {C fI cc cda : Addr}
    (l1 : K.lookup fI = some ⟨oc, od, .func (PySem.W.ksFn "__init__" qual (iA y p1 p2) [supS tx j q1 q2 q3 q4 q5 q6, atS f y q7 q8 q9 qa] (iS y) .none .none doc pm an (.ref cda) ct cc), osl⟩) (cI : PySem.W.codeIn K (.ref cda) qual = true) (noN : PySem.W.findIn K (.ref C) f = some none) (Y : YOk y)
    (hev : ∀ L, eval (.Call (.Attribute (.Call (.Name "super" q1) [] [] q2) "__init__" q3) [.Constant (.str tx) j q4] [] q5) (PySem.W.ksEnv qual (iS y) L fI (.ref cda) cc) = (do
      let ov ← attributeBase (.Call (.Name "super" q1) [] [] q2) "__init__" (PySem.W.ksEnv qual (iS y) L fI (.ref cda) cc) (eval (.Call (.Name "super" q1) [] [] q2) (PySem.W.ksEnv qual (iS y) L fI (.ref cda) cc))
      standAt q3.atName
      let (f, first) ← holding [ov] (getMethod ov "__init__" (plS q1 q2 (PySem.W.ksEnv qual (iS y) L fI (.ref cda) cc)))
      callWith q5 f first (backTo q5 (starEach [.Constant (.str tx) j q4] (PySem.W.ksEnv qual (iS y) L fI (.ref cda) cc))) [])) : ExFn1 K C fI cc cda f y where
  fn := ⟨qual, tx, j, oc, od, doc, pm, an, ct, osl, p1, p2, q1, q2, q3, q4, q5, q6, q7, q8, q9, qa, l1, cI, fun _ => rfl, hev, fun _ => rfl⟩
  noN := noN
  ys := Y.ys
  yd := Y.yd
  nc := Y.nc
  l1 := Y.l1
  l2 := Y.l2
  l3 := Y.l3
  l4 := Y.l4
  bd := fun qual body doc pm an cv ct p1 p2 x v => Y.bd qual body doc pm an cv ct cc p1 p2 x v
theorem fn0_mk {qual tx : Str} {j : Nat} {oc : Value} {od : Option Addr} {doc pm : Value} {an : Option Addr} {ct : Value} {osl : Array (Option Value)} {p1 q1 q2 q3 q4 q5 q6 : Pos} {fI cc cda : Addr}
    (l1 : K.lookup fI = some ⟨oc, od, .func (PySem.W.ksFn "__init__" qual (iA0 p1) [supS tx j q1 q2 q3 q4 q5 q6] iS0 .none .none doc pm an (.ref cda) ct cc), osl⟩) (cI : PySem.W.codeIn K (.ref cda) qual = true)
    (hev : ∀ L, eval (.Call (.Attribute (.Call (.Name "super" q1) [] [] q2) "__init__" q3) [.Constant (.str tx) j q4] [] q5) (PySem.W.ksEnv qual iS0 L fI (.ref cda) cc) = (do
      let ov ← attributeBase (.Call (.Name "super" q1) [] [] q2) "__init__" (PySem.W.ksEnv qual iS0 L fI (.ref cda) cc) (eval (.Call (.Name "super" q1) [] [] q2) (PySem.W.ksEnv qual iS0 L fI (.ref cda) cc))
      standAt q3.atName
      let (f, first) ← holding [ov] (getMethod ov "__init__" (plS q1 q2 (PySem.W.ksEnv qual iS0 L fI (.ref cda) cc)))
      callWith q5 f first (backTo q5 (starEach [.Constant (.str tx) j q4] (PySem.W.ksEnv qual iS0 L fI (.ref cda) cc))) [])) : ExFn0 K fI cc cda where
  fn := ⟨qual, tx, j, oc, od, doc, pm, an, ct, osl, p1, q1, q2, q3, q4, q5, q6, l1, cI, fun _ => rfl, hev⟩
/-- a def of the top -/
structure Dn (K : PySem.W.Frag) (mg : Str → Option Value) (x : Str) (st : Stmt) (f : Addr) : Prop where
  mgf : mg x = some (.ref f)
  keep : PySem.W.keepIn K (.ref f) = true
  fn : ∃ oc od an osl kV doc pm cdv ct, K.lookup f = some ⟨oc, od, .func (PySem.W.fnOf x x (defArgs st) (defBody st) (defScope st) .none kV doc pm an cdv ct), osl⟩ ∧ PySem.W.codeIn K cdv x = true
theorem dn_mk (X : K.In h) (G : h.Ns mainGlobals mg) {x : Str} {st : Stmt} {f : Addr} {oc : Value} {od an : Option Addr} {osl : Array (Option Value)} {kV doc pm cdv ct : Value} (a : PySem.W.nsIn K mainGlobals x = some (some (.ref f)))
    (l : K.lookup f = some ⟨oc, od, .func (PySem.W.fnOf x x (defArgs st) (defBody st) (defScope st) .none kV doc pm an cdv ct), osl⟩) (c : PySem.W.codeIn K cdv x = true) (k : PySem.W.keepIn K (.ref f) = true) : Dn K mg x st f :=
  ⟨PySem.W.mg_of X G a, k, oc, od, an, osl, kV, doc, pm, cdv, ct, l, c⟩
theorem nm_inj : ∀ i, i < 22 → ∀ j, j < 22 → nm i = nm j → i = j := by decide +kernel
theorem nm_L : ∀ i, i < 22 → nm i ≠ "ListError" := by decide +kernel

theorem txt_mk {C0 C1 C2 C3 C4 C5 C6 C7 C8 C9 C10 C11 C12 C13 C14 C15 C16 C17 C18 C19 C20 C21 f0 cc0 cd0 f1 cc1 cd1 f2 cc2 cd2 f3 cc3 cd3 f4 cc4 cd4 f5 cc5 cd5 f6 cc6 cd6 f7 cc7 cd7 f8 cc8 cd8 f9 cc9 cd9 f10 cc10 cd10 f11 cc11 cd11 f12 cc12 cd12 f13 cc13 cd13 f14 cc14 cd14 f15 cc15 cd15 f16 cc16 cd16 f17 cc17 cd17 f18 cc18 cd18 f19 cc19 cd19 f20 cc20 cd20 f21 cc21 cd21 : Addr} {cL : ClassData} (aL : mg "ListError" = some (.ref L)) (cLs : PySem.W.clsIn K L = some cL) (cLn : cL.name = "ListError") (tL : PySem.W.typeIn K (.ref L) = some (.type "type"))
    (o0 : One P K mg L "Alike" C0 f0 cc0 cd0 ∧ ExFn0 K f0 cc0 cd0)
    (o1 : One P K mg L "BadKind" C1 f1 cc1 cd1 ∧ ExFn1 K C1 f1 cc1 cd1 "index" "index")
    (o2 : One P K mg L "BadName" C2 f2 cc2 cd2 ∧ ExFn1 K C2 f2 cc2 cd2 "name" "name")
    (o3 : One P K mg L "BadNumber" C3 f3 cc3 cd3 ∧ ExFn1 K C3 f3 cc3 cd3 "number" "number")
    (o4 : One P K mg L "BadRow" C4 f4 cc4 cd4 ∧ ExFn1 K C4 f4 cc4 cd4 "index" "index")
    (o5 : One P K mg L "BadSum" C5 f5 cc5 cd5 ∧ ExFn1 K C5 f5 cc5 cd5 "text" "text")
    (o6 : One P K mg L "NameInUse" C6 f6 cc6 cd6 ∧ ExFn1 K C6 f6 cc6 cd6 "name" "name")
    (o7 : One P K mg L "NoKind" C7 f7 cc7 cd7 ∧ ExFn1 K C7 f7 cc7 cd7 "kind" "kind")
    (o8 : One P K mg L "NoLoop" C8 f8 cc8 cd8 ∧ ExFn0 K f8 cc8 cd8)
    (o9 : One P K mg L "NoMany" C9 f9 cc9 cd9 ∧ ExFn1 K C9 f9 cc9 cd9 "many" "many")
    (o10 : One P K mg L "NoModulus" C10 f10 cc10 cd10 ∧ ExFn1 K C10 f10 cc10 cd10 "modulus" "modulus")
    (o11 : One P K mg L "NoPlace" C11 f11 cc11 cd11 ∧ ExFn1 K C11 f11 cc11 cd11 "place" "place")
    (o12 : One P K mg L "NoPrime" C12 f12 cc12 cd12 ∧ ExFn1 K C12 f12 cc12 cd12 "number" "number")
    (o13 : One P K mg L "NoRegister" C13 f13 cc13 cd13 ∧ ExFn1 K C13 f13 cc13 cd13 "name" "name")
    (o14 : One P K mg L "NoTerm" C14 f14 cc14 cd14 ∧ ExFn1 K C14 f14 cc14 cd14 "term" "term")
    (o15 : One P K mg L "NoText" C15 f15 cc15 cd15 ∧ ExFn1 K C15 f15 cc15 cd15 "text" "text")
    (o16 : One P K mg L "NotWhole" C16 f16 cc16 cd16 ∧ ExFn0 K f16 cc16 cd16)
    (o17 : One P K mg L "NoWay" C17 f17 cc17 cd17 ∧ ExFn1 K C17 f17 cc17 cd17 "kind" "kind")
    (o18 : One P K mg L "OtherFields" C18 f18 cc18 cd18 ∧ ExFn0 K f18 cc18 cd18)
    (o19 : One P K mg L "UnlikeFields" C19 f19 cc19 cd19 ∧ ExFn0 K f19 cc19 cd19)
    (o20 : One P K mg L "UnlikeRows" C20 f20 cc20 cd20 ∧ ExFn0 K f20 cc20 cd20)
    (o21 : One P K mg L "WrongCount" C21 f21 cc21 cd21 ∧ ExFn1 K C21 f21 cc21 cd21 "count" "count")
    (b1 : mg "isinstance" = none) (b2 : mg "ValueError" = none) (b3 : mg "len" = none) (b4 : mg "range" = none) (b5 : mg "int" = none) (b6 : mg "str" = none) (b7 : mg "all" = none) : Txt P K mg L (fun i => [C0, C1, C2, C3, C4, C5, C6, C7, C8, C9, C10, C11, C12, C13, C14, C15, C16, C17, C18, C19, C20, C21].getD i 0) := by
  have O : ∀ i, i < 22 → ∃ a b c, One P K mg L (nm i) ([C0, C1, C2, C3, C4, C5, C6, C7, C8, C9, C10, C11, C12, C13, C14, C15, C16, C17, C18, C19, C20, C21].getD i 0) a b c := by
    intro i hi
    match i, hi with
    | 0, _ => exact ⟨_, _, _, o0.1⟩
    | 1, _ => exact ⟨_, _, _, o1.1⟩
    | 2, _ => exact ⟨_, _, _, o2.1⟩
    | 3, _ => exact ⟨_, _, _, o3.1⟩
    | 4, _ => exact ⟨_, _, _, o4.1⟩
    | 5, _ => exact ⟨_, _, _, o5.1⟩
    | 6, _ => exact ⟨_, _, _, o6.1⟩
    | 7, _ => exact ⟨_, _, _, o7.1⟩
    | 8, _ => exact ⟨_, _, _, o8.1⟩
    | 9, _ => exact ⟨_, _, _, o9.1⟩
    | 10, _ => exact ⟨_, _, _, o10.1⟩
    | 11, _ => exact ⟨_, _, _, o11.1⟩
    | 12, _ => exact ⟨_, _, _, o12.1⟩
    | 13, _ => exact ⟨_, _, _, o13.1⟩
    | 14, _ => exact ⟨_, _, _, o14.1⟩
    | 15, _ => exact ⟨_, _, _, o15.1⟩
    | 16, _ => exact ⟨_, _, _, o16.1⟩
    | 17, _ => exact ⟨_, _, _, o17.1⟩
    | 18, _ => exact ⟨_, _, _, o18.1⟩
    | 19, _ => exact ⟨_, _, _, o19.1⟩
    | 20, _ => exact ⟨_, _, _, o20.1⟩
    | 21, _ => exact ⟨_, _, _, o21.1⟩
    | n + 22, q => omega
  have hne : ∀ i, i < 22 → ∀ j, j < 22 → i ≠ j → [C0, C1, C2, C3, C4, C5, C6, C7, C8, C9, C10, C11, C12, C13, C14, C15, C16, C17, C18, C19, C20, C21].getD i 0 ≠ [C0, C1, C2, C3, C4, C5, C6, C7, C8, C9, C10, C11, C12, C13, C14, C15, C16, C17, C18, C19, C20, C21].getD j 0 := fun i hi j hj q => by
    obtain ⟨_, _, _, oi⟩ := O i hi
    obtain ⟨_, _, _, oj⟩ := O j hj
    exact oi.ne oj fun z => q (nm_inj i hi j hj z)
  have hL : ∀ i, i < 22 → [C0, C1, C2, C3, C4, C5, C6, C7, C8, C9, C10, C11, C12, C13, C14, C15, C16, C17, C18, C19, C20, C21].getD i 0 ≠ L := fun i hi => by

    obtain ⟨_, _, _, oi⟩ := O i hi
    obtain ⟨c1, h1, h2, h3⟩ := oi.cd
    intro z
    rw [z, cLs] at h1
    cases h1
    exact nm_L i hi (h2.symm.trans cLn)
  exact { cls := fun i hi => (O i hi).elim fun _ ⟨_, _, o⟩ => o.mgC
          is := fun i hi => (O i hi).elim fun _ ⟨_, _, o⟩ => o.is
          kit := fun i j hi hj => by
            obtain ⟨_, _, _, oi⟩ := O i hi
            obtain ⟨_, _, _, oj⟩ := O j hj
            by_cases q : i = j
            · subst q
              rw [decide_eq_true rfl]
              exact oi.self
            · rw [decide_eq_false q]
              exact oi.kit oj (hne i hi j hj q) (hL j hj)
          kL := fun i hi => (O i hi).elim fun _ ⟨_, _, o⟩ => o.base (by rw [cLs] <;> rfl) tL
          kV := fun i hi => (O i hi).elim fun _ ⟨_, _, o⟩ => o.ve
          mL := aL
          m0 := fun i hi => by
            simp only [bare, List.mem_cons, List.not_mem_nil, or_false] at hi
            rcases hi with rfl | rfl | rfl | rfl | rfl | rfl
            · exact ⟨f0, cc0, cd0, o0.1.ex, o0.2⟩
            · exact ⟨f8, cc8, cd8, o8.1.ex, o8.2⟩
            · exact ⟨f16, cc16, cd16, o16.1.ex, o16.2⟩
            · exact ⟨f18, cc18, cd18, o18.1.ex, o18.2⟩
            · exact ⟨f19, cc19, cd19, o19.1.ex, o19.2⟩
            · exact ⟨f20, cc20, cd20, o20.1.ex, o20.2⟩
          m1 := fun i hi => by
            simp only [full, List.mem_cons, List.not_mem_nil, or_false] at hi
            rcases hi with rfl | rfl | rfl | rfl | rfl | rfl | rfl | rfl | rfl | rfl | rfl | rfl | rfl | rfl | rfl | rfl
            · exact ⟨f1, cc1, cd1, "index", o1.1.ex, o1.2, o1.2.noN⟩
            · exact ⟨f2, cc2, cd2, "name", o2.1.ex, o2.2, o2.2.noN⟩
            · exact ⟨f3, cc3, cd3, "number", o3.1.ex, o3.2, o3.2.noN⟩
            · exact ⟨f4, cc4, cd4, "index", o4.1.ex, o4.2, o4.2.noN⟩
            · exact ⟨f5, cc5, cd5, "text", o5.1.ex, o5.2, o5.2.noN⟩
            · exact ⟨f6, cc6, cd6, "name", o6.1.ex, o6.2, o6.2.noN⟩
            · exact ⟨f7, cc7, cd7, "kind", o7.1.ex, o7.2, o7.2.noN⟩
            · exact ⟨f9, cc9, cd9, "many", o9.1.ex, o9.2, o9.2.noN⟩
            · exact ⟨f10, cc10, cd10, "modulus", o10.1.ex, o10.2, o10.2.noN⟩
            · exact ⟨f11, cc11, cd11, "place", o11.1.ex, o11.2, o11.2.noN⟩
            · exact ⟨f12, cc12, cd12, "number", o12.1.ex, o12.2, o12.2.noN⟩
            · exact ⟨f13, cc13, cd13, "name", o13.1.ex, o13.2, o13.2.noN⟩
            · exact ⟨f14, cc14, cd14, "term", o14.1.ex, o14.2, o14.2.noN⟩
            · exact ⟨f15, cc15, cd15, "text", o15.1.ex, o15.2, o15.2.noN⟩
            · exact ⟨f17, cc17, cd17, "kind", o17.1.ex, o17.2, o17.2.noN⟩
            · exact ⟨f21, cc21, cd21, "count", o21.1.ex, o21.2, o21.2.noN⟩
          bIs := b1
          bVE := b2
          bLen := b3
          bRange := b4
          bInt := b5
          bStr := b6
          bAll := b7 }
theorem all_mk {cs : Nat → Addr} {fa f1 f2 f3 f4 f5 f6 : Addr} (T : Txt P K mg L cs) (d1 : Dn K mg "_law_cell" sCell f1) (d2 : Dn K mg "_law_flags" sFlags f2) (d3 : Dn K mg "_law_alone" sAlone f3) (d4 : Dn K mg "_law_valued" sValued f4) (d5 : Dn K mg "_law_held" sHeld f5) (d6 : Dn K mg "law" sLaw f6) (hfa : mg "law" = some (.ref fa)) :
    ∃ fd : FuncData, (∀ (s : Shared) (v : Value), BindsTo s fd ⟨[v], []⟩ [("_law_script", v)]) ∧ ∀ base : Heap, K.In base → base.Ns mainGlobals mg → FnOk P w K mg base CX0 3 fa fd ["_law_script"] (spD K 1 pLaw) := by
  have e := hfa.symm.trans d6.mgf
  cases e
  obtain ⟨_, _, _, _, _, _, _, _, _, l1, c1⟩ := d1.fn
  obtain ⟨_, _, _, _, _, _, _, _, _, l2, c2⟩ := d2.fn
  obtain ⟨_, _, _, _, _, _, _, _, _, l3, c3⟩ := d3.fn
  obtain ⟨_, _, _, _, _, _, _, _, _, l4, c4⟩ := d4.fn
  obtain ⟨_, _, _, _, _, _, _, _, _, l5, c5⟩ := d5.fn
  obtain ⟨oc6, od6, an6, osl6, kV, doc, pm, cdv, ct, l6, c6⟩ := d6.fn
  have F1 := fun_mk (st := sCell) l1 c1 d1.keep
  have F2 := fun_mk (st := sFlags) l2 c2 d2.keep
  have F3 := fun_mk (st := sAlone) l3 c3 d3.keep
  have F4 := fun_mk (st := sValued) l4 c4 d4.keep
  have F5 := fun_mk (st := sHeld) l5 c5 d5.keep
  have F6 := fun_mk (st := sLaw) l6 c6 d6.keep
  have b1 := F1.binds (ps := ["_law_script", "_law_k"]) fun _ _ _ _ _ _ us hl => match us, hl with | [_, _], _ => rfl
  have b2 := F2.binds (ps := ["_law_e"]) fun _ _ _ _ _ _ us hl => match us, hl with | [_], _ => rfl
  have b3 := F3.binds (ps := ["_law_e", "_law_place"]) fun _ _ _ _ _ _ us hl => match us, hl with | [_, _], _ => rfl
  have b4 := F4.binds (ps := ["_law_x"]) fun _ _ _ _ _ _ us hl => match us, hl with | [_], _ => rfl
  have b5 := F5.binds (ps := ["_law_x"]) fun _ _ _ _ _ _ us hl => match us, hl with | [_], _ => rfl
  refine ⟨PySem.W.fnOf "law" "law" (defArgs sLaw) (defBody sLaw) (defScope sLaw) .none kV doc pm an6 cdv ct, fun s v => .of_eq rfl, fun base _ _ => ?_⟩
  have GF : FD P w K mg base "_law_flags" 1 1 (pFlags cs) := FD.mk d2.mgf d2.keep b2 rfl (ok_flags F2 T)
  exact ok_law F6 T (FD.mk d1.mgf d1.keep b1 rfl (ok_cell F1 T.bLen)) (FD.mk d3.mgf d3.keep b3 rfl (ok_alone F3 T GF)) (FD.mk d4.mgf d4.keep b4 rfl (ok_valued F4 T)) (FD.mk d5.mgf d5.keep b5 rfl (ok_held F5 T))
theorem ints_is {H : Hp} : ∀ ns : List Int, IsL K H (ns.map D.int) (ns.map V.int)
  | [] => rfl
  | n :: r => ⟨_, _, rfl, rfl, ints_is r⟩
end
theorem walk {l : PySem.W.OpenLaw} {q : Program} {loose : List Str} {XP : (Str → Option Value) → Heap → Prop} {YP : World → Heap → Prop} {d : DefRec} {K : Params → PySem.W.Frag} (hn : l.most = some 63) (hdf : d.params.defaults = [])
    (hY : ∀ (w : World) (h : Heap), YP w h → (K w.params).In h)
    (F : ∀ (w : World) (mg : Str → Option Value) (fa : Addr) (h : Heap), (K w.params).In h → h.Ns mainGlobals mg → mg d.name = some (.ref fa) →
      ∃ fd : FuncData, (∀ (s : Shared) (u : Value), BindsTo s fd ⟨[u], []⟩ [("_law_script", u)]) ∧ ∀ base : Heap, (K w.params).In base → base.Ns mainGlobals mg → FnOk l.prog w (K w.params) mg base CX0 3 fa fd ["_law_script"] (spD (K w.params) 1 pLaw)) :
    PySem.W.WalkO q loose XP YP l.row.toRowW d [] (fun f vs => PySem.call f vs) :=
  L2.walk_of (n := 63) (k := 3) (x := "_law_script") (CX := fun _ => CX0) (sp := fun w => spD (K w.params) 1 pLaw) hn (by decide) hdf ⟨rfl, by decide, by decide⟩ hY F
    (fun w H a ns hl _ hS => ⟨H, [.rdl (ns.map D.int)], .bl true, (fun _ _ e => e), ⟨_, _, rfl, ⟨a, ns.map V.int, rfl, hS, ints_is ns⟩, rfl⟩, rfl, ⟨ns, rfl, hl, rfl⟩, fun v F1 H1 _ e => e⟩) fun _ _ _ _ _ z => z
end K01

set_option Elab.async false
set_option linter.all false
set_option maxRecDepth 100000
open PySem PySem.W PyProof.Rows
set_option maxRecDepth 100000 in
set_option maxHeartbeats 0 in
theorem PySem.Challenge.cw_everylist_k01_errors_holds : PySem.Challenge.rw_everylist_k01_errors.Holds := by
  w_on; o_law; k_head; (case hw => w_witness2)
  k_fill
  refine K01.walk (l := PySem.Challenge.rw_everylist_k01_errors) rfl rfl (fun w h Y => PySem.W.kIn_of Y) ?F
  case F =>
    intro w mg fa h KX G hmg
    refine' K01.all_mk (K01.txt_mk ?aL ?cLs ?cLn ?tL ?o0 ?o1 ?o2 ?o3 ?o4 ?o5 ?o6 ?o7 ?o8 ?o9 ?o10 ?o11 ?o12 ?o13 ?o14 ?o15 ?o16 ?o17 ?o18 ?o19 ?o20 ?o21 ?b1 ?b2 ?b3 ?b4 ?b5 ?b6 ?b7) ?d1 ?d2 ?d3 ?d4 ?d5 ?d6 hmg
    (case aL => refine' PySem.W.mg_of KX G ?_; k_is); (case cLs => k_is); (case cLn => rfl); (case tL => k_is)
    (case o0 => refine' ⟨K01.one_mk KX G ?aC_0 ?xL_0 ?sa_0 ?ga_0 ?gg_0 ?iC_0 ?tI_0 ?kC_0 ?ty_0 ?ce_0 ?co_0 ?v2_0 ?fi_0 ?sup_0 ?opq_0 ?mgs_0 ?tp_0 ?ca_0 ?gd_0 ?tk_0, K01.fn0_mk ?l1_0 ?cI_0 ?hev_0⟩; (case aC_0 => k_is); (case xL_0 => k_is); (case iC_0 => k_is); (case l1_0 => k_is); (case cI_0 => k_is); (case hev_0 => exact fun _ => rfl); (case ce_0 => k_is); (case co_0 => k_is); (case v2_0 => rfl); (case fi_0 => first | rfl | decide +kernel); (case sup_0 => ks_is); (case tp_0 => first | rfl | decide +kernel); (case sa_0 => k_is); (case ga_0 => k_is); (case gg_0 => k_is); (case tI_0 => k_is); (case kC_0 => k_is); (case ty_0 => k_is); (case opq_0 => k_is); (case mgs_0 => k_is); (case ca_0 => k_is); (case gd_0 => k_is); (case tk_0 => k_is))
    (case o1 => refine' ⟨K01.one_mk KX G ?aC_1 ?xL_1 ?sa_1 ?ga_1 ?gg_1 ?iC_1 ?tI_1 ?kC_1 ?ty_1 ?ce_1 ?co_1 ?v2_1 ?fi_1 ?sup_1 ?opq_1 ?mgs_1 ?tp_1 ?ca_1 ?gd_1 ?tk_1, K01.fn1_mk ?l1_1 ?cI_1 ?nN_1 K01.y_index ?hev_1⟩; (case aC_1 => k_is); (case xL_1 => k_is); (case iC_1 => k_is); (case l1_1 => k_is); (case cI_1 => k_is); (case nN_1 => k_is); (case hev_1 => exact fun _ => rfl); (case ce_1 => k_is); (case co_1 => k_is); (case v2_1 => rfl); (case fi_1 => first | rfl | decide +kernel); (case sup_1 => ks_is); (case tp_1 => first | rfl | decide +kernel); (case sa_1 => k_is); (case ga_1 => k_is); (case gg_1 => k_is); (case tI_1 => k_is); (case kC_1 => k_is); (case ty_1 => k_is); (case opq_1 => k_is); (case mgs_1 => k_is); (case ca_1 => k_is); (case gd_1 => k_is); (case tk_1 => k_is))
    (case o2 => refine' ⟨K01.one_mk KX G ?aC_2 ?xL_2 ?sa_2 ?ga_2 ?gg_2 ?iC_2 ?tI_2 ?kC_2 ?ty_2 ?ce_2 ?co_2 ?v2_2 ?fi_2 ?sup_2 ?opq_2 ?mgs_2 ?tp_2 ?ca_2 ?gd_2 ?tk_2, K01.fn1_mk ?l1_2 ?cI_2 ?nN_2 K01.y_name ?hev_2⟩; (case aC_2 => k_is); (case xL_2 => k_is); (case iC_2 => k_is); (case l1_2 => k_is); (case cI_2 => k_is); (case nN_2 => k_is); (case hev_2 => exact fun _ => rfl); (case ce_2 => k_is); (case co_2 => k_is); (case v2_2 => rfl); (case fi_2 => first | rfl | decide +kernel); (case sup_2 => ks_is); (case tp_2 => first | rfl | decide +kernel); (case sa_2 => k_is); (case ga_2 => k_is); (case gg_2 => k_is); (case tI_2 => k_is); (case kC_2 => k_is); (case ty_2 => k_is); (case opq_2 => k_is); (case mgs_2 => k_is); (case ca_2 => k_is); (case gd_2 => k_is); (case tk_2 => k_is))
    (case o3 => refine' ⟨K01.one_mk KX G ?aC_3 ?xL_3 ?sa_3 ?ga_3 ?gg_3 ?iC_3 ?tI_3 ?kC_3 ?ty_3 ?ce_3 ?co_3 ?v2_3 ?fi_3 ?sup_3 ?opq_3 ?mgs_3 ?tp_3 ?ca_3 ?gd_3 ?tk_3, K01.fn1_mk ?l1_3 ?cI_3 ?nN_3 K01.y_number ?hev_3⟩; (case aC_3 => k_is); (case xL_3 => k_is); (case iC_3 => k_is); (case l1_3 => k_is); (case cI_3 => k_is); (case nN_3 => k_is); (case hev_3 => exact fun _ => rfl); (case ce_3 => k_is); (case co_3 => k_is); (case v2_3 => rfl); (case fi_3 => first | rfl | decide +kernel); (case sup_3 => ks_is); (case tp_3 => first | rfl | decide +kernel); (case sa_3 => k_is); (case ga_3 => k_is); (case gg_3 => k_is); (case tI_3 => k_is); (case kC_3 => k_is); (case ty_3 => k_is); (case opq_3 => k_is); (case mgs_3 => k_is); (case ca_3 => k_is); (case gd_3 => k_is); (case tk_3 => k_is))
    (case o4 => refine' ⟨K01.one_mk KX G ?aC_4 ?xL_4 ?sa_4 ?ga_4 ?gg_4 ?iC_4 ?tI_4 ?kC_4 ?ty_4 ?ce_4 ?co_4 ?v2_4 ?fi_4 ?sup_4 ?opq_4 ?mgs_4 ?tp_4 ?ca_4 ?gd_4 ?tk_4, K01.fn1_mk ?l1_4 ?cI_4 ?nN_4 K01.y_index ?hev_4⟩; (case aC_4 => k_is); (case xL_4 => k_is); (case iC_4 => k_is); (case l1_4 => k_is); (case cI_4 => k_is); (case nN_4 => k_is); (case hev_4 => exact fun _ => rfl); (case ce_4 => k_is); (case co_4 => k_is); (case v2_4 => rfl); (case fi_4 => first | rfl | decide +kernel); (case sup_4 => ks_is); (case tp_4 => first | rfl | decide +kernel); (case sa_4 => k_is); (case ga_4 => k_is); (case gg_4 => k_is); (case tI_4 => k_is); (case kC_4 => k_is); (case ty_4 => k_is); (case opq_4 => k_is); (case mgs_4 => k_is); (case ca_4 => k_is); (case gd_4 => k_is); (case tk_4 => k_is))
    (case o5 => refine' ⟨K01.one_mk KX G ?aC_5 ?xL_5 ?sa_5 ?ga_5 ?gg_5 ?iC_5 ?tI_5 ?kC_5 ?ty_5 ?ce_5 ?co_5 ?v2_5 ?fi_5 ?sup_5 ?opq_5 ?mgs_5 ?tp_5 ?ca_5 ?gd_5 ?tk_5, K01.fn1_mk ?l1_5 ?cI_5 ?nN_5 K01.y_text ?hev_5⟩; (case aC_5 => k_is); (case xL_5 => k_is); (case iC_5 => k_is); (case l1_5 => k_is); (case cI_5 => k_is); (case nN_5 => k_is); (case hev_5 => exact fun _ => rfl); (case ce_5 => k_is); (case co_5 => k_is); (case v2_5 => rfl); (case fi_5 => first | rfl | decide +kernel); (case sup_5 => ks_is); (case tp_5 => first | rfl | decide +kernel); (case sa_5 => k_is); (case ga_5 => k_is); (case gg_5 => k_is); (case tI_5 => k_is); (case kC_5 => k_is); (case ty_5 => k_is); (case opq_5 => k_is); (case mgs_5 => k_is); (case ca_5 => k_is); (case gd_5 => k_is); (case tk_5 => k_is))
    (case o6 => refine' ⟨K01.one_mk KX G ?aC_6 ?xL_6 ?sa_6 ?ga_6 ?gg_6 ?iC_6 ?tI_6 ?kC_6 ?ty_6 ?ce_6 ?co_6 ?v2_6 ?fi_6 ?sup_6 ?opq_6 ?mgs_6 ?tp_6 ?ca_6 ?gd_6 ?tk_6, K01.fn1_mk ?l1_6 ?cI_6 ?nN_6 K01.y_name ?hev_6⟩; (case aC_6 => k_is); (case xL_6 => k_is); (case iC_6 => k_is); (case l1_6 => k_is); (case cI_6 => k_is); (case nN_6 => k_is); (case hev_6 => exact fun _ => rfl); (case ce_6 => k_is); (case co_6 => k_is); (case v2_6 => rfl); (case fi_6 => first | rfl | decide +kernel); (case sup_6 => ks_is); (case tp_6 => first | rfl | decide +kernel); (case sa_6 => k_is); (case ga_6 => k_is); (case gg_6 => k_is); (case tI_6 => k_is); (case kC_6 => k_is); (case ty_6 => k_is); (case opq_6 => k_is); (case mgs_6 => k_is); (case ca_6 => k_is); (case gd_6 => k_is); (case tk_6 => k_is))
    (case o7 => refine' ⟨K01.one_mk KX G ?aC_7 ?xL_7 ?sa_7 ?ga_7 ?gg_7 ?iC_7 ?tI_7 ?kC_7 ?ty_7 ?ce_7 ?co_7 ?v2_7 ?fi_7 ?sup_7 ?opq_7 ?mgs_7 ?tp_7 ?ca_7 ?gd_7 ?tk_7, K01.fn1_mk ?l1_7 ?cI_7 ?nN_7 K01.y_kind ?hev_7⟩; (case aC_7 => k_is); (case xL_7 => k_is); (case iC_7 => k_is); (case l1_7 => k_is); (case cI_7 => k_is); (case nN_7 => k_is); (case hev_7 => exact fun _ => rfl); (case ce_7 => k_is); (case co_7 => k_is); (case v2_7 => rfl); (case fi_7 => first | rfl | decide +kernel); (case sup_7 => ks_is); (case tp_7 => first | rfl | decide +kernel); (case sa_7 => k_is); (case ga_7 => k_is); (case gg_7 => k_is); (case tI_7 => k_is); (case kC_7 => k_is); (case ty_7 => k_is); (case opq_7 => k_is); (case mgs_7 => k_is); (case ca_7 => k_is); (case gd_7 => k_is); (case tk_7 => k_is))
    (case o8 => refine' ⟨K01.one_mk KX G ?aC_8 ?xL_8 ?sa_8 ?ga_8 ?gg_8 ?iC_8 ?tI_8 ?kC_8 ?ty_8 ?ce_8 ?co_8 ?v2_8 ?fi_8 ?sup_8 ?opq_8 ?mgs_8 ?tp_8 ?ca_8 ?gd_8 ?tk_8, K01.fn0_mk ?l1_8 ?cI_8 ?hev_8⟩; (case aC_8 => k_is); (case xL_8 => k_is); (case iC_8 => k_is); (case l1_8 => k_is); (case cI_8 => k_is); (case hev_8 => exact fun _ => rfl); (case ce_8 => k_is); (case co_8 => k_is); (case v2_8 => rfl); (case fi_8 => first | rfl | decide +kernel); (case sup_8 => ks_is); (case tp_8 => first | rfl | decide +kernel); (case sa_8 => k_is); (case ga_8 => k_is); (case gg_8 => k_is); (case tI_8 => k_is); (case kC_8 => k_is); (case ty_8 => k_is); (case opq_8 => k_is); (case mgs_8 => k_is); (case ca_8 => k_is); (case gd_8 => k_is); (case tk_8 => k_is))
    (case o9 => refine' ⟨K01.one_mk KX G ?aC_9 ?xL_9 ?sa_9 ?ga_9 ?gg_9 ?iC_9 ?tI_9 ?kC_9 ?ty_9 ?ce_9 ?co_9 ?v2_9 ?fi_9 ?sup_9 ?opq_9 ?mgs_9 ?tp_9 ?ca_9 ?gd_9 ?tk_9, K01.fn1_mk ?l1_9 ?cI_9 ?nN_9 K01.y_many ?hev_9⟩; (case aC_9 => k_is); (case xL_9 => k_is); (case iC_9 => k_is); (case l1_9 => k_is); (case cI_9 => k_is); (case nN_9 => k_is); (case hev_9 => exact fun _ => rfl); (case ce_9 => k_is); (case co_9 => k_is); (case v2_9 => rfl); (case fi_9 => first | rfl | decide +kernel); (case sup_9 => ks_is); (case tp_9 => first | rfl | decide +kernel); (case sa_9 => k_is); (case ga_9 => k_is); (case gg_9 => k_is); (case tI_9 => k_is); (case kC_9 => k_is); (case ty_9 => k_is); (case opq_9 => k_is); (case mgs_9 => k_is); (case ca_9 => k_is); (case gd_9 => k_is); (case tk_9 => k_is))
    (case o10 => refine' ⟨K01.one_mk KX G ?aC_10 ?xL_10 ?sa_10 ?ga_10 ?gg_10 ?iC_10 ?tI_10 ?kC_10 ?ty_10 ?ce_10 ?co_10 ?v2_10 ?fi_10 ?sup_10 ?opq_10 ?mgs_10 ?tp_10 ?ca_10 ?gd_10 ?tk_10, K01.fn1_mk ?l1_10 ?cI_10 ?nN_10 K01.y_modulus ?hev_10⟩; (case aC_10 => k_is); (case xL_10 => k_is); (case iC_10 => k_is); (case l1_10 => k_is); (case cI_10 => k_is); (case nN_10 => k_is); (case hev_10 => exact fun _ => rfl); (case ce_10 => k_is); (case co_10 => k_is); (case v2_10 => rfl); (case fi_10 => first | rfl | decide +kernel); (case sup_10 => ks_is); (case tp_10 => first | rfl | decide +kernel); (case sa_10 => k_is); (case ga_10 => k_is); (case gg_10 => k_is); (case tI_10 => k_is); (case kC_10 => k_is); (case ty_10 => k_is); (case opq_10 => k_is); (case mgs_10 => k_is); (case ca_10 => k_is); (case gd_10 => k_is); (case tk_10 => k_is))
    (case o11 => refine' ⟨K01.one_mk KX G ?aC_11 ?xL_11 ?sa_11 ?ga_11 ?gg_11 ?iC_11 ?tI_11 ?kC_11 ?ty_11 ?ce_11 ?co_11 ?v2_11 ?fi_11 ?sup_11 ?opq_11 ?mgs_11 ?tp_11 ?ca_11 ?gd_11 ?tk_11, K01.fn1_mk ?l1_11 ?cI_11 ?nN_11 K01.y_place ?hev_11⟩; (case aC_11 => k_is); (case xL_11 => k_is); (case iC_11 => k_is); (case l1_11 => k_is); (case cI_11 => k_is); (case nN_11 => k_is); (case hev_11 => exact fun _ => rfl); (case ce_11 => k_is); (case co_11 => k_is); (case v2_11 => rfl); (case fi_11 => first | rfl | decide +kernel); (case sup_11 => ks_is); (case tp_11 => first | rfl | decide +kernel); (case sa_11 => k_is); (case ga_11 => k_is); (case gg_11 => k_is); (case tI_11 => k_is); (case kC_11 => k_is); (case ty_11 => k_is); (case opq_11 => k_is); (case mgs_11 => k_is); (case ca_11 => k_is); (case gd_11 => k_is); (case tk_11 => k_is))
    (case o12 => refine' ⟨K01.one_mk KX G ?aC_12 ?xL_12 ?sa_12 ?ga_12 ?gg_12 ?iC_12 ?tI_12 ?kC_12 ?ty_12 ?ce_12 ?co_12 ?v2_12 ?fi_12 ?sup_12 ?opq_12 ?mgs_12 ?tp_12 ?ca_12 ?gd_12 ?tk_12, K01.fn1_mk ?l1_12 ?cI_12 ?nN_12 K01.y_number ?hev_12⟩; (case aC_12 => k_is); (case xL_12 => k_is); (case iC_12 => k_is); (case l1_12 => k_is); (case cI_12 => k_is); (case nN_12 => k_is); (case hev_12 => exact fun _ => rfl); (case ce_12 => k_is); (case co_12 => k_is); (case v2_12 => rfl); (case fi_12 => first | rfl | decide +kernel); (case sup_12 => ks_is); (case tp_12 => first | rfl | decide +kernel); (case sa_12 => k_is); (case ga_12 => k_is); (case gg_12 => k_is); (case tI_12 => k_is); (case kC_12 => k_is); (case ty_12 => k_is); (case opq_12 => k_is); (case mgs_12 => k_is); (case ca_12 => k_is); (case gd_12 => k_is); (case tk_12 => k_is))
    (case o13 => refine' ⟨K01.one_mk KX G ?aC_13 ?xL_13 ?sa_13 ?ga_13 ?gg_13 ?iC_13 ?tI_13 ?kC_13 ?ty_13 ?ce_13 ?co_13 ?v2_13 ?fi_13 ?sup_13 ?opq_13 ?mgs_13 ?tp_13 ?ca_13 ?gd_13 ?tk_13, K01.fn1_mk ?l1_13 ?cI_13 ?nN_13 K01.y_name ?hev_13⟩; (case aC_13 => k_is); (case xL_13 => k_is); (case iC_13 => k_is); (case l1_13 => k_is); (case cI_13 => k_is); (case nN_13 => k_is); (case hev_13 => exact fun _ => rfl); (case ce_13 => k_is); (case co_13 => k_is); (case v2_13 => rfl); (case fi_13 => first | rfl | decide +kernel); (case sup_13 => ks_is); (case tp_13 => first | rfl | decide +kernel); (case sa_13 => k_is); (case ga_13 => k_is); (case gg_13 => k_is); (case tI_13 => k_is); (case kC_13 => k_is); (case ty_13 => k_is); (case opq_13 => k_is); (case mgs_13 => k_is); (case ca_13 => k_is); (case gd_13 => k_is); (case tk_13 => k_is))
    (case o14 => refine' ⟨K01.one_mk KX G ?aC_14 ?xL_14 ?sa_14 ?ga_14 ?gg_14 ?iC_14 ?tI_14 ?kC_14 ?ty_14 ?ce_14 ?co_14 ?v2_14 ?fi_14 ?sup_14 ?opq_14 ?mgs_14 ?tp_14 ?ca_14 ?gd_14 ?tk_14, K01.fn1_mk ?l1_14 ?cI_14 ?nN_14 K01.y_term ?hev_14⟩; (case aC_14 => k_is); (case xL_14 => k_is); (case iC_14 => k_is); (case l1_14 => k_is); (case cI_14 => k_is); (case nN_14 => k_is); (case hev_14 => exact fun _ => rfl); (case ce_14 => k_is); (case co_14 => k_is); (case v2_14 => rfl); (case fi_14 => first | rfl | decide +kernel); (case sup_14 => ks_is); (case tp_14 => first | rfl | decide +kernel); (case sa_14 => k_is); (case ga_14 => k_is); (case gg_14 => k_is); (case tI_14 => k_is); (case kC_14 => k_is); (case ty_14 => k_is); (case opq_14 => k_is); (case mgs_14 => k_is); (case ca_14 => k_is); (case gd_14 => k_is); (case tk_14 => k_is))
    (case o15 => refine' ⟨K01.one_mk KX G ?aC_15 ?xL_15 ?sa_15 ?ga_15 ?gg_15 ?iC_15 ?tI_15 ?kC_15 ?ty_15 ?ce_15 ?co_15 ?v2_15 ?fi_15 ?sup_15 ?opq_15 ?mgs_15 ?tp_15 ?ca_15 ?gd_15 ?tk_15, K01.fn1_mk ?l1_15 ?cI_15 ?nN_15 K01.y_text ?hev_15⟩; (case aC_15 => k_is); (case xL_15 => k_is); (case iC_15 => k_is); (case l1_15 => k_is); (case cI_15 => k_is); (case nN_15 => k_is); (case hev_15 => exact fun _ => rfl); (case ce_15 => k_is); (case co_15 => k_is); (case v2_15 => rfl); (case fi_15 => first | rfl | decide +kernel); (case sup_15 => ks_is); (case tp_15 => first | rfl | decide +kernel); (case sa_15 => k_is); (case ga_15 => k_is); (case gg_15 => k_is); (case tI_15 => k_is); (case kC_15 => k_is); (case ty_15 => k_is); (case opq_15 => k_is); (case mgs_15 => k_is); (case ca_15 => k_is); (case gd_15 => k_is); (case tk_15 => k_is))
    (case o16 => refine' ⟨K01.one_mk KX G ?aC_16 ?xL_16 ?sa_16 ?ga_16 ?gg_16 ?iC_16 ?tI_16 ?kC_16 ?ty_16 ?ce_16 ?co_16 ?v2_16 ?fi_16 ?sup_16 ?opq_16 ?mgs_16 ?tp_16 ?ca_16 ?gd_16 ?tk_16, K01.fn0_mk ?l1_16 ?cI_16 ?hev_16⟩; (case aC_16 => k_is); (case xL_16 => k_is); (case iC_16 => k_is); (case l1_16 => k_is); (case cI_16 => k_is); (case hev_16 => exact fun _ => rfl); (case ce_16 => k_is); (case co_16 => k_is); (case v2_16 => rfl); (case fi_16 => first | rfl | decide +kernel); (case sup_16 => ks_is); (case tp_16 => first | rfl | decide +kernel); (case sa_16 => k_is); (case ga_16 => k_is); (case gg_16 => k_is); (case tI_16 => k_is); (case kC_16 => k_is); (case ty_16 => k_is); (case opq_16 => k_is); (case mgs_16 => k_is); (case ca_16 => k_is); (case gd_16 => k_is); (case tk_16 => k_is))
    (case o17 => refine' ⟨K01.one_mk KX G ?aC_17 ?xL_17 ?sa_17 ?ga_17 ?gg_17 ?iC_17 ?tI_17 ?kC_17 ?ty_17 ?ce_17 ?co_17 ?v2_17 ?fi_17 ?sup_17 ?opq_17 ?mgs_17 ?tp_17 ?ca_17 ?gd_17 ?tk_17, K01.fn1_mk ?l1_17 ?cI_17 ?nN_17 K01.y_kind ?hev_17⟩; (case aC_17 => k_is); (case xL_17 => k_is); (case iC_17 => k_is); (case l1_17 => k_is); (case cI_17 => k_is); (case nN_17 => k_is); (case hev_17 => exact fun _ => rfl); (case ce_17 => k_is); (case co_17 => k_is); (case v2_17 => rfl); (case fi_17 => first | rfl | decide +kernel); (case sup_17 => ks_is); (case tp_17 => first | rfl | decide +kernel); (case sa_17 => k_is); (case ga_17 => k_is); (case gg_17 => k_is); (case tI_17 => k_is); (case kC_17 => k_is); (case ty_17 => k_is); (case opq_17 => k_is); (case mgs_17 => k_is); (case ca_17 => k_is); (case gd_17 => k_is); (case tk_17 => k_is))
    (case o18 => refine' ⟨K01.one_mk KX G ?aC_18 ?xL_18 ?sa_18 ?ga_18 ?gg_18 ?iC_18 ?tI_18 ?kC_18 ?ty_18 ?ce_18 ?co_18 ?v2_18 ?fi_18 ?sup_18 ?opq_18 ?mgs_18 ?tp_18 ?ca_18 ?gd_18 ?tk_18, K01.fn0_mk ?l1_18 ?cI_18 ?hev_18⟩; (case aC_18 => k_is); (case xL_18 => k_is); (case iC_18 => k_is); (case l1_18 => k_is); (case cI_18 => k_is); (case hev_18 => exact fun _ => rfl); (case ce_18 => k_is); (case co_18 => k_is); (case v2_18 => rfl); (case fi_18 => first | rfl | decide +kernel); (case sup_18 => ks_is); (case tp_18 => first | rfl | decide +kernel); (case sa_18 => k_is); (case ga_18 => k_is); (case gg_18 => k_is); (case tI_18 => k_is); (case kC_18 => k_is); (case ty_18 => k_is); (case opq_18 => k_is); (case mgs_18 => k_is); (case ca_18 => k_is); (case gd_18 => k_is); (case tk_18 => k_is))
    (case o19 => refine' ⟨K01.one_mk KX G ?aC_19 ?xL_19 ?sa_19 ?ga_19 ?gg_19 ?iC_19 ?tI_19 ?kC_19 ?ty_19 ?ce_19 ?co_19 ?v2_19 ?fi_19 ?sup_19 ?opq_19 ?mgs_19 ?tp_19 ?ca_19 ?gd_19 ?tk_19, K01.fn0_mk ?l1_19 ?cI_19 ?hev_19⟩; (case aC_19 => k_is); (case xL_19 => k_is); (case iC_19 => k_is); (case l1_19 => k_is); (case cI_19 => k_is); (case hev_19 => exact fun _ => rfl); (case ce_19 => k_is); (case co_19 => k_is); (case v2_19 => rfl); (case fi_19 => first | rfl | decide +kernel); (case sup_19 => ks_is); (case tp_19 => first | rfl | decide +kernel); (case sa_19 => k_is); (case ga_19 => k_is); (case gg_19 => k_is); (case tI_19 => k_is); (case kC_19 => k_is); (case ty_19 => k_is); (case opq_19 => k_is); (case mgs_19 => k_is); (case ca_19 => k_is); (case gd_19 => k_is); (case tk_19 => k_is))
    (case o20 => refine' ⟨K01.one_mk KX G ?aC_20 ?xL_20 ?sa_20 ?ga_20 ?gg_20 ?iC_20 ?tI_20 ?kC_20 ?ty_20 ?ce_20 ?co_20 ?v2_20 ?fi_20 ?sup_20 ?opq_20 ?mgs_20 ?tp_20 ?ca_20 ?gd_20 ?tk_20, K01.fn0_mk ?l1_20 ?cI_20 ?hev_20⟩; (case aC_20 => k_is); (case xL_20 => k_is); (case iC_20 => k_is); (case l1_20 => k_is); (case cI_20 => k_is); (case hev_20 => exact fun _ => rfl); (case ce_20 => k_is); (case co_20 => k_is); (case v2_20 => rfl); (case fi_20 => first | rfl | decide +kernel); (case sup_20 => ks_is); (case tp_20 => first | rfl | decide +kernel); (case sa_20 => k_is); (case ga_20 => k_is); (case gg_20 => k_is); (case tI_20 => k_is); (case kC_20 => k_is); (case ty_20 => k_is); (case opq_20 => k_is); (case mgs_20 => k_is); (case ca_20 => k_is); (case gd_20 => k_is); (case tk_20 => k_is))
    (case o21 => refine' ⟨K01.one_mk KX G ?aC_21 ?xL_21 ?sa_21 ?ga_21 ?gg_21 ?iC_21 ?tI_21 ?kC_21 ?ty_21 ?ce_21 ?co_21 ?v2_21 ?fi_21 ?sup_21 ?opq_21 ?mgs_21 ?tp_21 ?ca_21 ?gd_21 ?tk_21, K01.fn1_mk ?l1_21 ?cI_21 ?nN_21 K01.y_count ?hev_21⟩; (case aC_21 => k_is); (case xL_21 => k_is); (case iC_21 => k_is); (case l1_21 => k_is); (case cI_21 => k_is); (case nN_21 => k_is); (case hev_21 => exact fun _ => rfl); (case ce_21 => k_is); (case co_21 => k_is); (case v2_21 => rfl); (case fi_21 => first | rfl | decide +kernel); (case sup_21 => ks_is); (case tp_21 => first | rfl | decide +kernel); (case sa_21 => k_is); (case ga_21 => k_is); (case gg_21 => k_is); (case tI_21 => k_is); (case kC_21 => k_is); (case ty_21 => k_is); (case opq_21 => k_is); (case mgs_21 => k_is); (case ca_21 => k_is); (case gd_21 => k_is); (case tk_21 => k_is))
    (case b1 => refine' PySem.W.mg_none_of KX G ?_; k_is); (case b2 => refine' PySem.W.mg_none_of KX G ?_; k_is); (case b3 => refine' PySem.W.mg_none_of KX G ?_; k_is); (case b4 => refine' PySem.W.mg_none_of KX G ?_; k_is); (case b5 => refine' PySem.W.mg_none_of KX G ?_; k_is); (case b6 => refine' PySem.W.mg_none_of KX G ?_; k_is); (case b7 => refine' PySem.W.mg_none_of KX G ?_; k_is)
    (case d1 => refine' K01.dn_mk KX G ?a_d1 ?l_d1 ?c_d1 ?k_d1; (case a_d1 => k_is); (case l_d1 => k_is); (case c_d1 => k_is); (case k_d1 => k_is)); (case d2 => refine' K01.dn_mk KX G ?a_d2 ?l_d2 ?c_d2 ?k_d2; (case a_d2 => k_is); (case l_d2 => k_is); (case c_d2 => k_is); (case k_d2 => k_is)); (case d3 => refine' K01.dn_mk KX G ?a_d3 ?l_d3 ?c_d3 ?k_d3; (case a_d3 => k_is); (case l_d3 => k_is); (case c_d3 => k_is); (case k_d3 => k_is)); (case d4 => refine' K01.dn_mk KX G ?a_d4 ?l_d4 ?c_d4 ?k_d4; (case a_d4 => k_is); (case l_d4 => k_is); (case c_d4 => k_is); (case k_d4 => k_is)); (case d5 => refine' K01.dn_mk KX G ?a_d5 ?l_d5 ?c_d5 ?k_d5; (case a_d5 => k_is); (case l_d5 => k_is); (case c_d5 => k_is); (case k_d5 => k_is)); (case d6 => refine' K01.dn_mk KX G ?a_d6 ?l_d6 ?c_d6 ?k_d6; (case a_d6 => k_is); (case l_d6 => k_is); (case c_d6 => k_is); (case k_d6 => k_is))
#print axioms PySem.Challenge.cw_everylist_k01_errors_holds
