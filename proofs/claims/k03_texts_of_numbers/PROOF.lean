import PyProof.Rows.All
import Wide.All
import OpenK.AllK
import Wide.FinOn
import PyProof.EqAt
import PyProof.EqKinds
import PyProof.TupleCall
import HandS.ForMost
import HandS.ForExc
import HandS.OwnEq
import HandS.ExcInit
import KE.KExcSuper
import HandS.Lambda
import HandS.IsInst
import HandS.Wide
import HandS.Gcd
import KE.KOpsOwn
import PyProof.InstNe
import KE.KExcIs
import HandS.SetFor
import HandS.MakeKw
import HandS.Style
import HandS.TryOnly
import HandS.EndTab
import HandS.ExcBuiltin
import KE.KNestM
import HandS.Text
import HandS.StrMore
import HandS.FStr
import KE.KCallOwn
import KE.IntTextLaws
import PyProof.FactsAll.str_6
import HandS.ExcField
import KE.IntTextText
import KE.KIntText
import PySem.Challenge.RW_everylist_k03_texts_of_numbers
import KE.RegKSuper
set_option Elab.async false
set_option linter.all false
set_option maxRecDepth 100000
set_option maxHeartbeats 4000000
/-! ExS: own exceptions over ValueError whose __init__ says super().__init__(text), and perhaps self.f = what it was given. -/
namespace PySem
namespace ExS
open PySem.W PySem.Calls PyProof.Rows PySem.HandSPX
/-! ### the text of __init__ -/
def iA0 (p1 : Pos) : Arguments := { posonlyargs := [], args := [{ arg := "self", annotation := none, pos := p1 }], vararg := none, kwonlyargs := [], kw_defaults := [], kwarg := none, defaults := [] }
def iA (y : Str) (p1 p2 : Pos) : Arguments := { posonlyargs := [], args := [{ arg := "self", annotation := none, pos := p1 }, { arg := y, annotation := none, pos := p2 }], vararg := none, kwonlyargs := [], kw_defaults := [], kwarg := none, defaults := [] }
/-- what a method call asks, beside: whether its object's name was imported -/
def plS (q1 q2 : Pos) (env : Env) : Sem Bool := do return (← importBound (.Call (.Name "super" q1) [] [] q2) env).getD true
def supS (tx : Str) (j : Nat) (q1 q2 q3 q4 q5 q6 : Pos) : Stmt := .Expr (.Call (.Attribute (.Call (.Name "super" q1) [] [] q2) "__init__" q3) [.Constant (.str tx) j q4] [] q5) q6
def atS (f y : Str) (q7 q8 q9 qa : Pos) : Stmt := .Assign [.Attribute (.Name "self" q7) f q8] (.Name y q9) qa
def iS0 : Scope := { kind := .function, names := [(PySem.Str.ofString "self", .local), (PySem.Str.ofString "__class__", .free), (PySem.Str.ofString "super", .globalImplicit)], isGenerator := false, isCoroutine := false, more := [] }
def iS (y : Str) : Scope := { kind := .function, names := [(PySem.Str.ofString "self", .local), (y, .local), (PySem.Str.ofString "__class__", .free), (PySem.Str.ofString "super", .globalImplicit)], isGenerator := false, isCoroutine := false, more := [] }
/-- what the written part says of a class of exceptions -/
structure ExCls (prog : Program) (K : Frag) (mg : Str → Option Value) (C fI cc cda : Addr) : Prop where
  cls : ∃ nm q N bs bm sn sub ab col dd k0 k1 k2 k3 k5, K.lookup C = some (excClassObj nm q C N bs bm true sn sub ab col dd k0 k1 k2 k3 k5 "ValueError.__new__") ∧ refsVE bm = true
  sa : findIn K (.ref C) "__setattr__" = some (some (.builtin "object.__setattr__"))
  ga : findIn K (.ref C) "__getattribute__" = some (some (.builtin "BaseException.__getattribute__"))
  gg : findIn K (.ref C) "__getattr__" = some none
  iC : findIn K (.ref C) "__init__" = some (some (.ref fI))
  tC : typeIn K (.ref fI) = some (.type "function")
  kC : keepIn K (.ref C) = true
  exC : subIn K (.ref C) (.type "BaseException") = some true
  veC : subIn K (.ref C) (.type "ValueError") = some true
  seC : mroIn K C (.ref C) = some true
  tyC : typeIn K (.ref C) = some (.type "type")
  hdC : hasDictIn K C = true
  cell : ∃ cl cld csl, K.lookup cc = some ⟨cl, cld, .cell (some (.ref C)), csl⟩
  code : ∃ ccl cdd vs ccs file tf, K.lookup cda = some ⟨ccl, cdd, .fields vs, ccs⟩ ∧ vs[2]? = some (.str file tf) ∧ ((prog.main.file : Str) == file) = true
  sup : ks_superIn K C C "__init__" = some (some (.builtin "ValueError.__init__"))
  opq : nsIn K cStatics "thirdparty.any" = some none
  mgs : mg "super" = none
  top : (prog.main.scope.names.lookup ("super" : Str)).isSome = false
section
variable {prog : Program} {w : World} {A : Around} {E : Value → Shared → Prop} {R : Result → Shared → Prop} {s : Shared} {K : Frag} {mg : Str → Option Value} {C fI cc cda : Addr}
theorem call_ve {u e t0 : Addr} {rest : List Value} {nm q : Str} {N : Addr} {bs bm : List Value} {hdct : Bool} {sn : List Str} {sub : List Value} {ab : Bool} {col : Option Bool} {dd : Option Addr} {k0 k1 k2 k3 k5 : Option Value} {h : Heap} {g : Array GenState} {d : Drawn} {t : Nat} {os : OsState} {Q : Value → Shared → Prop}
    (hC : h.get? C = some (excClassObj nm q C N bs bm hdct sn sub ab col dd k0 k1 k2 k3 k5 "ValueError.__new__")) (he : h.get? e = some (excO C t0)) (hu : h.get? u = some (kxs_mw "ValueError.__init__" e)) (hrest : rest.length ≤ sizeLine)
    (hq : ∀ h' t1, (∀ b o, b ≠ e → h.get? b = some o → h'.get? b = some o) → h'.get? e = some (excO C t1) → Q .none ⟨h', g, d, t, os⟩) :
    wpAny (model prog w) A (call (.ref u) rest) Q E ⟨h, g, d, t, os⟩ := by
  refine wpAny_call (codeAny_of_tree ?_)
  show wpAny _ A.in1 (callAny (.ref u) ⟨rest, []⟩) _ _ _
  simp only [callAny]
  refine wpAny_bind (wpAny_load hu ?_)
  simp only [kxs_mw, show (Value.type "method-wrapper" == Value.type "method" || Value.type "method-wrapper" == Value.type "builtin_function_or_method" || Value.type "method-wrapper" == Value.type "method-wrapper") = true by decide, if_true]
  refine KFB.if_so (by decide) ?_
  refine wpAny_bind (check_bound_init F.excBase_ValueError.toExcCallFacts hC he rfl ?_)
  refine wpAny_bind (wpAny_pure (wpAny_pure ?_))
  refine ⟨plainId_quiet F.excBase_ValueError.init.plain _, codeAny_builtin F.excBase_ValueError.initEntry ?_⟩
  exact exc_init_tree (cls := .ref C) (t0 := t0) (dv := none) (c2 := .none) (c3 := .none) (b4 := .bool false) he hrest fun h' k e' _ => hq h' _ k e'
/-- super().__init__(tx) in the __init__ that runs over x -/
theorem sup_stmt {tx : Str} {j : Nat} {q1 q2 q3 q4 q5 q6 : Pos} {body : List Stmt} {sc : Scope} {qual : Str} {L x t0 : Addr} {m mb : Str → Option Value} {fd : FuncData} {ar : Arg} {oc : Value} {od : Option Addr} {osl : Array (Option Value)} {Q : Flow → Shared → Prop} (T : ExCls prog K mg C fI cc cda) (X : K.In s.heap)
    (hg : s.heap.Ns mainGlobals mg) (hb : s.heap.Ns builtinsNs mb) (hbt : mb "super" = bootBuiltins "super") (hx : s.heap.get? x = some (excO C t0)) (hns : s.heap.Ns L m) (hv : m "self" = some (.ref x)) (hxL : x ≠ L)
    (hf : K.lookup fI = some ⟨oc, od, .func fd, osl⟩) (hp : (fd.params.posonlyargs ++ fd.params.args).head? = some ar) (har : ar.arg = ("self" : Str)) (hk : sc.kind = .function) (hs1 : sc.names.lookup ("super" : Str) = some .globalImplicit) (hs2 : sc.names.lookup ("__class__" : Str) = some .free) (hs3 : sc.names.lookup ("self" : Str) = some .local)
    (hsw : swapsWith (.Call (.Attribute (.Call (.Name "super" q1) [] [] q2) "__init__" q3) [.Constant (.str tx) j q4] [] q5) none q6.line (ksEnv qual sc L fI (.ref cda) cc) = pure false)
    (hev : eval (.Call (.Attribute (.Call (.Name "super" q1) [] [] q2) "__init__" q3) [.Constant (.str tx) j q4] [] q5) (ksEnv qual sc L fI (.ref cda) cc) = (do
      let ov ← attributeBase (.Call (.Name "super" q1) [] [] q2) "__init__" (ksEnv qual sc L fI (.ref cda) cc) (eval (.Call (.Name "super" q1) [] [] q2) (ksEnv qual sc L fI (.ref cda) cc))
      standAt q3.atName
      let (f, first) ← holding [ov] (getMethod ov "__init__" (plS q1 q2 (ksEnv qual sc L fI (.ref cda) cc)))
      callWith q5 f first (backTo q5 (starEach [.Constant (.str tx) j q4] (ksEnv qual sc L fI (.ref cda) cc))) []))
    (hq : ∀ h' tk t1, (∀ b o, b ≠ x → s.heap.get? b = some o → h'.get? b = some o) → h'.get? x = some (excO C t1) → s.heap.objs.size ≤ h'.objs.size → Q .next { s with heap := h', toks := tk }) :
    _root_.PySem.wpAt (model prog w) A (.func body (ksEnv qual sc L fI (.ref cda) cc)) (exec (supS tx j q1 q2 q3 q4 q5 q6) (ksEnv qual sc L fI (.ref cda) cc)) Q E s := by
  obtain ⟨nm, q, N, bs, bm, sn, sub, ab, col, dd, k0, k1, k2, k3, k5, hC, hbm⟩ := T.cls
  obtain ⟨cl, cld, csl, hcell⟩ := T.cell
  obtain ⟨ccl, cdd, vs, ccs, file, tf, hcode, hvs, hfile⟩ := T.code
  have hcl : clsIn K C = some { name := nm, bases := bs, mro := .ref C :: bm, ns := N, qualname := q, hasDict := true, slotNames := sn, subclasses := sub, abstract := ab, collection := col, hasDel := false } := by unfold clsIn; rw [hC] <;> rfl
  have I0 : InstAt s.heap x (excO C t0) C none := ⟨hx, rfl, rfl, trivial⟩
  have hxC : x ≠ C := ks_ne X I0 hcl
  obtain ⟨hh, g, d, t, os⟩ := s
  have hD1 : hh.get? C = some (excClassObj nm q C N bs bm true sn sub ab col dd k0 k1 k2 k3 k5 "ValueError.__new__") := X _ _ hC
  refine ks_wpAt_Expr_any (ks_wpAt_MethodCall ?_ hev) (by simp [interactive, hk]) hsw
  refine ks_wpAt_super_base (env := ksEnv qual sc L fI (.ref cda) cc) hs1 hs2 (by decide +kernel) rfl (X _ _ hf) rfl hp rfl (X _ _ hcode) rfl hvs hfile T.top ?_
  refine ks_loadName_global hk hs1 (loadGlobal_builtin (env := ksEnv qual sc L fI (.ref cda) cc) hg T.mgs hb (hbt.trans (by decide +kernel)) ⟨rfl, ?_⟩)
  refine wpAny_loadName_free hk hs2 rfl ⟨_, X _ _ hcell, rfl⟩ ?_
  rw [har]
  refine wpAny_loadName_local hk hs3 hns hv ?_
  refine ks_wpAny_isType_cls hD1 rfl ⟨rfl, ?_⟩
  refine ks_wpAny_call_super hD1 rfl hx rfl (fun c e => by cases e) (looks_mroIn X T.seC) (fun h1 e1 u1 => ?_)
  have X1 : K.In h1 := X.keeps u1
  have hx1 := u1 _ _ hx
  have I1 : InstAt h1 x (excO C t0) C none := ⟨hx1, rfl, rfl, trivial⟩
  have hI : Looks (model prog w) h1 (isInstance (.ref x) (.type "ValueError")) true := I1.type.andThen (looks_subIn X1 T.veC)
  have hsup := T.sup
  unfold ks_superIn at hsup
  rw [hcl] at hsup
  refine kxs_getMethod kxs_ValueError e1 (looks_opaque X1 T.opq) (l₀ := .ref C :: bm) ?_ rfl X1 hsup hI hxC (by decide +kernel) ?_
  · exact fun A Q E s k q => wpAny_bind ((looks_clsIn X1 hcl) A _ E s k (wpAny_pure q))
  have u2 : ∀ b o, h1.get? b = some o → (h1.push (kxs_mw "ValueError.__init__" x)).get? b = some o := fun b o e => Heap.get?_push_of_some _ e
  have hmw : (h1.push (kxs_mw "ValueError.__init__" x)).get? h1.objs.size = some (kxs_mw "ValueError.__init__" x) := Heap.get?_push_size _ rfl
  show wpAny _ _ (callWith q5 (.ref h1.objs.size) [] (backTo q5 (starEach [.Constant (.str tx) j q4] _)) []) _ _ _
  refine kxs_callWith (i := "ValueError.__init__") (x := x) (by rfl) ?_
  refine evalArgs_plain ?_
  show wpAny _ _ (spliced ((false, eval (.Constant (.str tx) j q4) _) :: backTo q5 (starEach [] _))) _ _ _
  refine spliced_cons (Constant_str ?_)
  refine spliced_nil ?_
  refine ⟨hmw, ?_⟩
  refine call_ve (u2 _ _ (X1 _ _ hC)) (u2 _ _ hx1) hmw (by show 1 ≤ sizeLine; rw [sizeLine_eq]; decide) fun h' t1 k' hx' => ?_
  have keep : ∀ b o, b ≠ x → hh.get? b = some o → h'.get? b = some o := fun b o hb e => k' b o hb (u2 _ _ (u1 _ _ e))
  have z1 : hh.objs.size < h1.objs.size := Heap.lt_size e1
  have z2 : h1.objs.size ≠ x := fun z => by
    have := Heap.lt_size hx
    rw [← z] at this
    exact Nat.lt_irrefl _ (Nat.lt_trans this z1)
  exact hq h' _ t1 keep hx' (Nat.le_of_lt (Nat.lt_trans z1 (Heap.lt_size (k' _ _ z2 hmw))))
/-- what __init__ leaves of a fresh exception at x, where it stores f -/
structure InitEnd (h h' : Heap) (x C dx t1 : Addr) (f : Str) (v : Value) : Prop where
  keep : ∀ b o, b ≠ x → h.get? b = some o → h'.get? b = some o
  obj : h'.get? x = some { cls := .ref C, dict := some dx, data := .fields #[.ref t1, .none, .none, .none, .bool false, .none] }
  dbig : h.objs.size ≤ dx
  dne : dx ≠ x
  ns : h'.Ns1 dx (fun y => if y = f then some v else none)
/-- the __init__ of a class that stores f -/
structure ExFn1 (K : Frag) (C fI cc cda : Addr) (f y : Str) : Prop where
  fn : ∃ (qual tx : Str) (j : Nat) (oc : Value) (od : Option Addr) (doc pm : Value) (an : Option Addr) (ct : Value) (osl : Array (Option Value)) (p1 p2 q1 q2 q3 q4 q5 q6 q7 q8 q9 qa : Pos),
    K.lookup fI = some ⟨oc, od, .func (ksFn "__init__" qual (iA y p1 p2) [supS tx j q1 q2 q3 q4 q5 q6, atS f y q7 q8 q9 qa] (iS y) .none .none doc pm an (.ref cda) ct cc), osl⟩ ∧ codeIn K (.ref cda) qual = true ∧
    (∀ L, swapsWith (.Call (.Attribute (.Call (.Name "super" q1) [] [] q2) "__init__" q3) [.Constant (.str tx) j q4] [] q5) none q6.line (ksEnv qual (iS y) L fI (.ref cda) cc) = pure false) ∧
    (∀ L, eval (.Call (.Attribute (.Call (.Name "super" q1) [] [] q2) "__init__" q3) [.Constant (.str tx) j q4] [] q5) (ksEnv qual (iS y) L fI (.ref cda) cc) = (do
      let ov ← attributeBase (.Call (.Name "super" q1) [] [] q2) "__init__" (ksEnv qual (iS y) L fI (.ref cda) cc) (eval (.Call (.Name "super" q1) [] [] q2) (ksEnv qual (iS y) L fI (.ref cda) cc))
      standAt q3.atName
      let (f, first) ← holding [ov] (getMethod ov "__init__" (plS q1 q2 (ksEnv qual (iS y) L fI (.ref cda) cc)))
      callWith q5 f first (backTo q5 (starEach [.Constant (.str tx) j q4] (ksEnv qual (iS y) L fI (.ref cda) cc))) [])) ∧
    (∀ L, swapsWith (.Name y q9) (some (.Attribute (.Name "self" q7) f q8)) qa.line (ksEnv qual (iS y) L fI (.ref cda) cc) = pure false)
  noN : findIn K (.ref C) f = some none
  ys : (("self" : Str) == y) = false
  yd : (y == ("__debug__" : Str)) = false
  nc : ∀ x ∈ (iS y).names, x.2 ≠ .cell
  l1 : (iS y).names.lookup ("self" : Str) = some .local
  l2 : (iS y).names.lookup y = some .local
  l3 : (iS y).names.lookup ("super" : Str) = some .globalImplicit
  l4 : (iS y).names.lookup ("__class__" : Str) = some .free
  bd : ∀ (qual : Str) (body : List Stmt) (doc pm : Value) (an : Option Addr) (cv ct : Value) (p1 p2 : Pos) (x : Addr) (v : Value), bindArgs (ksFn "__init__" qual (iA y p1 p2) body (iS y) .none .none doc pm an cv ct cc) ⟨[.ref x, v], []⟩ = pure [(("self" : Str), Value.ref x), (y, v)]
structure ExFn0 (K : Frag) (fI cc cda : Addr) : Prop where
  fn : ∃ (qual tx : Str) (j : Nat) (oc : Value) (od : Option Addr) (doc pm : Value) (an : Option Addr) (ct : Value) (osl : Array (Option Value)) (p1 q1 q2 q3 q4 q5 q6 : Pos),
    K.lookup fI = some ⟨oc, od, .func (ksFn "__init__" qual (iA0 p1) [supS tx j q1 q2 q3 q4 q5 q6] iS0 .none .none doc pm an (.ref cda) ct cc), osl⟩ ∧ codeIn K (.ref cda) qual = true ∧
    (∀ L, swapsWith (.Call (.Attribute (.Call (.Name "super" q1) [] [] q2) "__init__" q3) [.Constant (.str tx) j q4] [] q5) none q6.line (ksEnv qual iS0 L fI (.ref cda) cc) = pure false) ∧
    (∀ L, eval (.Call (.Attribute (.Call (.Name "super" q1) [] [] q2) "__init__" q3) [.Constant (.str tx) j q4] [] q5) (ksEnv qual iS0 L fI (.ref cda) cc) = (do
      let ov ← attributeBase (.Call (.Name "super" q1) [] [] q2) "__init__" (ksEnv qual iS0 L fI (.ref cda) cc) (eval (.Call (.Name "super" q1) [] [] q2) (ksEnv qual iS0 L fI (.ref cda) cc))
      standAt q3.atName
      let (f, first) ← holding [ov] (getMethod ov "__init__" (plS q1 q2 (ksEnv qual iS0 L fI (.ref cda) cc)))
      callWith q5 f first (backTo q5 (starEach [.Constant (.str tx) j q4] (ksEnv qual iS0 L fI (.ref cda) cc))) []))
theorem init0 (T : ExCls prog K mg C fI cc cda) (Fn : ExFn0 K fI cc cda) {x t0 : Addr} {mb : Str → Option Value} (X : K.In s.heap) (hlim : s.heap.NoLimit) (hg : s.heap.Ns mainGlobals mg) (hb : s.heap.Ns builtinsNs mb) (hbt : mb "super" = bootBuiltins "super") (hx : s.heap.get? x = some (excO C t0)) (hroom : A.depth < recursionLimit)
    (hq : ∀ h' tk t1, (∀ b o, b ≠ x → s.heap.get? b = some o → h'.get? b = some o) → h'.get? x = some (excO C t1) → s.heap.objs.size ≤ h'.objs.size → R (.ok (.ret .none)) { s with heap := h', toks := tk }) :
    codeAny (model prog w) A (.call (.ref fI) ⟨[.ref x], []⟩) R s := by
  obtain ⟨qual, tx, j, oc, od, doc, pm, an, ct, osl, p1, q1, q2, q3, q4, q5, q6, ho, hcd, hsw, hev⟩ := Fn.fn
  have c0 : ∀ x ∈ iS0.names, x.2 ≠ .cell := by decide +kernel
  have l0 : iS0.names.lookup ("self" : Str) = some .local := by decide +kernel
  have l1 : iS0.names.lookup ("super" : Str) = some .globalImplicit := by decide +kernel
  have l2 : iS0.names.lookup ("__class__" : Str) = some .free := by decide +kernel
  have m0 : ([(("self" : Str), Value.ref x)].reverse.lookup ("self" : Str)) = some (.ref x) := by simp [List.lookup]
  refine ks_codeAny_call_defAt (fd := ksFn "__init__" qual (iA0 p1) [supS tx j q1 q2 q3 q4 q5 q6] iS0 .none .none doc pm an (.ref cda) ct cc) (body := [supS tx j q1 q2 q3 q4 q5 q6]) (binds := [("self", .ref x)]) hroom (X _ _ ho) rfl hlim (codeRec_of X hcd) rfl (BindsTo.of_eq (by first | rfl | with_unfolding_all rfl)) c0 (by
    intro y hy
    simp at hy
    subst hy
    exact l0) (fun h₁ hns hk₁ => ?_)
  have hxL : x ≠ s.heap.objs.size := Nat.ne_of_lt (Heap.lt_size hx)
  have hsz : s.heap.objs.size < h₁.objs.size := hns.lt
  refine ks_wpAt_execs_cons ?_
  refine sup_stmt (m := fun z => [(("self" : Str), Value.ref x)].reverse.lookup z) (L := s.heap.objs.size) T (X.keeps hk₁) (hg.keeps hk₁) (hb.keeps hk₁) hbt (hk₁ _ _ hx) hns m0 hxL ho rfl rfl rfl l1 l2 l0 (hsw _) (hev _) fun h' tk t1 k hx' z => ?_
  refine wpAt_of_wpAny (wpAny_execs_nil ?_)
  exact hq h' tk t1 (fun b o hb e => k b o hb (hk₁ b o e)) hx' (Nat.le_of_lt (Nat.lt_of_lt_of_le hsz z))
theorem init1 {f y : Str} (T : ExCls prog K mg C fI cc cda) (Fn : ExFn1 K C fI cc cda f y) {x t0 : Addr} {v : Value} {mb : Str → Option Value} (X : K.In s.heap) (hlim : s.heap.NoLimit) (hg : s.heap.Ns mainGlobals mg) (hb : s.heap.Ns builtinsNs mb) (hbt : mb "super" = bootBuiltins "super") (hx : s.heap.get? x = some (excO C t0)) (hlk : K.lookup x = none) (hroom : A.depth < recursionLimit)
    (hq : ∀ h' tk dx t1, InitEnd s.heap h' x C dx t1 f v → R (.ok (.ret .none)) { s with heap := h', toks := tk }) :
    codeAny (model prog w) A (.call (.ref fI) ⟨[.ref x, v], []⟩) R s := by
  obtain ⟨qual, tx, j, oc, od, doc, pm, an, ct, osl, p1, p2, q1, q2, q3, q4, q5, q6, q7, q8, q9, qa, ho, hcd, hsw, hev, hsw2⟩ := Fn.fn
  obtain ⟨nm, q, N, bs, bm, sn, sub, ab, col, dd, k0, k1, k2, k3, k5, hC, hbm⟩ := T.cls
  have hcl : clsIn K C = some { name := nm, bases := bs, mro := .ref C :: bm, ns := N, qualname := q, hasDict := true, slotNames := sn, subclasses := sub, abstract := ab, collection := col, hasDel := false } := by unfold clsIn; rw [hC] <;> rfl
  have ys := Fn.ys
  have l1 := Fn.l1
  have l2 := Fn.l2
  have l3 := Fn.l3
  have l4 := Fn.l4
  refine ks_codeAny_call_defAt (fd := ksFn "__init__" qual (iA y p1 p2) [supS tx j q1 q2 q3 q4 q5 q6, atS f y q7 q8 q9 qa] (iS y) .none .none doc pm an (.ref cda) ct cc) (body := [supS tx j q1 q2 q3 q4 q5 q6, atS f y q7 q8 q9 qa]) (binds := [("self", .ref x), (y, v)]) hroom (X _ _ ho) rfl hlim (codeRec_of X hcd) rfl (BindsTo.of_eq (Fn.bd ..)) Fn.nc (by
    intro z hz
    simp at hz
    rcases hz with h | h
    · rw [h]; exact l1
    · rw [h]; exact l2) (fun h₁ hns hk₁ => ?_)
  have hxL : x ≠ s.heap.objs.size := Nat.ne_of_lt (Heap.lt_size hx)
  have hsz : s.heap.objs.size < h₁.objs.size := hns.lt
  have m1 : ([(("self" : Str), Value.ref x), (y, v)].reverse.lookup ("self" : Str)) = some (.ref x) := by
    simp only [List.reverse_cons, List.reverse_nil, List.nil_append, List.cons_append, List.lookup, ys, beq_self_eq_true]
  have m2 : ([(("self" : Str), Value.ref x), (y, v)].reverse.lookup y) = some v := by
    simp only [List.reverse_cons, List.reverse_nil, List.nil_append, List.cons_append, List.lookup, beq_self_eq_true]
  refine ks_wpAt_execs_cons ?_
  refine sup_stmt (m := fun z => [(("self" : Str), Value.ref x), (y, v)].reverse.lookup z) (L := s.heap.objs.size) T (X.keeps hk₁) (hg.keeps hk₁) (hb.keeps hk₁) hbt (hk₁ _ _ hx) hns m1 hxL ho rfl rfl rfl l3 l4 l1 (hsw _) (hev _) fun h2 tk t1 k hx2 z => ?_
  have X2 : K.In h2 := fun a o e => k a o (fun w => by rw [w, hlk] at e; cases e) (hk₁ _ _ (X a o e))
  have hn2 : h2.Ns s.heap.objs.size (fun z => [(("self" : Str), Value.ref x), (y, v)].reverse.lookup z) := by
    obtain ⟨oL, es, ep, e1, r⟩ := hns
    exact ⟨oL, es, ep, k _ _ (Ne.symm hxL) e1, r⟩
  refine wpAt_of_wpAny (wpAny_execs_cons (plainObj_wpAny_Assign_Attribute ?_ (hsw2 _)))
  refine wpAny_Name (wpAny_loadName_local rfl l2 hn2 m2 ?_) Fn.yd
  refine wpAny_Name (wpAny_loadName_local rfl l1 hn2 m1 ?_) (by decide)
  refine set_plain X2 (ox := excO C t1) (od := none) ⟨hx2, rfl, rfl, trivial⟩ T.sa ?_
  refine exc_osa X2 hx2 hcl (show refsVE (.ref C :: bm) = true from hbm) rfl Fn.noN (fun h₃ tk₃ dx k₃ dn dne hx₃ hn₃ => ?_)
  exact wpAny_execs_nil (hq h₃ tk₃ dx t1 ⟨fun b o hb e => k₃ b o hb (k b o hb (hk₁ b o e)), hx₃, Nat.le_of_lt (Nat.lt_of_lt_of_le hsz (Nat.le_trans z dn)), dne, hn₃⟩)

/-- a made exception -/
structure Made1 (h h' : Heap) (e C d : Addr) (f : Str) (v : Value) : Prop where
  keep : ∀ b o, h.get? b = some o → h'.get? b = some o
  new : h.objs.size ≤ e
  obj : ∃ t1, h'.get? e = some { cls := .ref C, dict := some d, data := .fields #[.ref t1, .none, .none, .none, .bool false, .none] }
  dbig : h.objs.size ≤ d
  dne : d ≠ e
  ns : h'.Ns1 d (fun y => if y = f then some v else none)
structure Made0 (h h' : Heap) (e C : Addr) : Prop where
  keep : ∀ b o, h.get? b = some o → h'.get? b = some o
  new : h.objs.size ≤ e
  obj : ∃ t1, h'.get? e = some (excO C t1)
theorem one_size (v : Value) : [v].length ≤ sizeLine := by
  rw [sizeLine_eq]
  exact (by decide : 1 ≤ 16777216)
theorem made1 {f y : Str} (T : ExCls prog K mg C fI cc cda) (Fn : ExFn1 K C fI cc cda f y) {v : Value} {mb : Str → Option Value} (X : K.In s.heap) (hlim : s.heap.NoLimit) (hg : s.heap.Ns mainGlobals mg) (hb : s.heap.Ns builtinsNs mb) (hbt : mb "super" = bootBuiltins "super") (hroom : A.depth + 1 < recursionLimit)
    (hq : ∀ h' tk e d, Made1 s.heap h' e C d f v → R (.ok (.ret (.ref e))) { s with heap := h', toks := tk }) :
    codeAny (model prog w) A (.call (.ref C) ⟨[v], []⟩) R s := by
  obtain ⟨nm, q, N, bs, bm, sn, sub, ab, col, dd, k0, k1, k2, k3, k5, hC, hbm⟩ := T.cls
  obtain ⟨hp, g, dr, tk, os⟩ := s
  have k : ∀ b o, hp.get? b = some o → ((hp.push (kdv_tup [v])).push (excO C hp.objs.size)).get? b = some o := fun b o e => Heap.get?_push_of_some _ (Heap.get?_push_of_some _ e)
  have hget : ((hp.push (kdv_tup [v])).push (excO C hp.objs.size)).get? (hp.objs.size + 1) = some (excO C hp.objs.size) := by heap_get
  have hnx : K.lookup (hp.objs.size + 1) = none := by
    cases e : K.lookup (hp.objs.size + 1) with
    | none => rfl
    | some o =>
      have z : hp.get? (hp.objs.size + 1) = some o := X _ _ e
      exact absurd (Nat.lt_of_succ_lt (Heap.lt_size z)) (Nat.lt_irrefl _)
  refine call_own F.excBase_ValueError (fun X => refsVE_contains X bm hbm) (X _ _ hC) (looks_findIn X T.iC) (fun self => bind_fn X self T.tC) (one_size v) ?_
  refine init1 (s := ⟨(hp.push (kdv_tup [v])).push (excO C hp.objs.size), g, dr, tk, os⟩) T Fn (X.keeps k) (hlim.keeps k) (hg.keeps k) (hb.keeps k) hbt hget hnx ?_ fun h' tk' dx t1 ⟨k', hx, dn, dne, hns⟩ => ?_
  · show A.depth + 1 < recursionLimit
    exact hroom
  · have old : ∀ b o, hp.get? b = some o → h'.get? b = some o := fun b o e => k' b o (Nat.ne_of_lt (Nat.lt_succ_of_lt (Heap.lt_size e))) (k b o e)
    have z : hp.objs.size + 1 + 1 ≤ dx := by
      first
        | (simpa only [Heap.size_push] using dn)
        | exact dn
        | (have q := dn; rw [Heap.size_push, Heap.size_push] at q; exact q)
    exact ⟨rfl, hq h' tk' (hp.objs.size + 1) dx ⟨old, Nat.le_succ _, ⟨_, hx⟩, Nat.le_trans (Nat.le_trans (Nat.le_succ _) (Nat.le_succ _)) z, dne, hns⟩⟩
theorem made0 (T : ExCls prog K mg C fI cc cda) (Fn : ExFn0 K fI cc cda) {mb : Str → Option Value} (X : K.In s.heap) (hlim : s.heap.NoLimit) (hg : s.heap.Ns mainGlobals mg) (hb : s.heap.Ns builtinsNs mb) (hbt : mb "super" = bootBuiltins "super") (hroom : A.depth + 1 < recursionLimit)
    (hq : ∀ h' tk e, Made0 s.heap h' e C → R (.ok (.ret (.ref e))) { s with heap := h', toks := tk }) :
    codeAny (model prog w) A (.call (.ref C) ⟨[], []⟩) R s := by
  obtain ⟨nm, q, N, bs, bm, sn, sub, ab, col, dd, k0, k1, k2, k3, k5, hC, hbm⟩ := T.cls
  obtain ⟨hp, g, dr, tk, os⟩ := s
  have k : ∀ b o, hp.get? b = some o → ((hp.push (kdv_tup [])).push (excO C hp.objs.size)).get? b = some o := fun b o e => Heap.get?_push_of_some _ (Heap.get?_push_of_some _ e)
  have hget : ((hp.push (kdv_tup [])).push (excO C hp.objs.size)).get? (hp.objs.size + 1) = some (excO C hp.objs.size) := by heap_get
  refine call_own F.excBase_ValueError (fun X => refsVE_contains X bm hbm) (X _ _ hC) (looks_findIn X T.iC) (fun self => bind_fn X self T.tC) (by rw [sizeLine_eq]; exact (by decide : 0 ≤ 16777216)) ?_
  refine init0 (s := ⟨(hp.push (kdv_tup [])).push (excO C hp.objs.size), g, dr, tk, os⟩) T Fn (X.keeps k) (hlim.keeps k) (hg.keeps k) (hb.keeps k) hbt hget ?_ fun h' tk' t1 k' hx z => ?_
  · show A.depth + 1 < recursionLimit
    exact hroom
  · have old : ∀ b o, hp.get? b = some o → h'.get? b = some o := fun b o e => k' b o (Nat.ne_of_lt (Nat.lt_succ_of_lt (Heap.lt_size e))) (k b o e)
    exact ⟨rfl, hq h' tk' (hp.objs.size + 1) ⟨old, Nat.le_succ _, _, hx⟩⟩
end
end ExS
end PySem

namespace L2
open PySem PySem.Spec PyProof.Rows PySem.ExS
section
variable {X : Cx} {pins : List (Addr × Obj)} {σ : L2.St} {H : Hp} {s : Shared} {C fI cc cda : Addr} {f y x : Str} {k : Nat} {e : Expr} {es : List Expr} {te : TE} {ta : TA} {p pos : Pos}
theorem xd_ok {P : Program} {w : World} {H : Hp} {h : Heap} {d : Addr} {f : Str} {v : V} {u : Value} (r : RelV v u) (hn : h.Ns1 d (fun y => if y = f then some u else none)) : ObjOk P w H h d (exd d [(f, v)]) :=
  exd_ok hn (relO_put (fs := []) r fun g => True.intro)
/-- two new objects are laid and tracked -/
theorem Inv.laid2 {h' : Heap} {a d : Addr} {o u : HO} {t' : Nat} (I : Inv X pins σ H s) (k : ∀ b w, s.heap.get? b = some w → h'.get? b = some w) (ha : s.heap.objs.size ≤ a) (hd : s.heap.objs.size ≤ d) (ne : d ≠ a) (no : ∀ x, u ≠ .own x) (nt : ∀ xs, u ≠ .tup xs) (no2 : ∀ x, o ≠ .own x) (nt2 : ∀ xs, o ≠ .tup xs)
    (n1 : ObjOk X.prog X.w (upd (upd H d u) a o) h' d u) (n2 : ObjOk X.prog X.w (upd (upd H d u) a o) h' a o) : Inv X pins σ (upd (upd H d u) a o) { s with heap := h', toks := t' } := by
  have fa : H a = none := I.hok.fresh ha
  have fd : H d = none := I.hok.fresh hd
  have na : ∀ {b w}, s.heap.get? b = some w → b ≠ a := fun {b w} q => Nat.ne_of_lt (Nat.lt_of_lt_of_le (Heap.lt_size q) ha)
  have nd : ∀ {b w}, s.heap.get? b = some w → b ≠ d := fun {b w} q => Nat.ne_of_lt (Nat.lt_of_lt_of_le (Heap.lt_size q) hd)
  have up : ∀ {b w}, H b = some w → upd (upd H d u) a o b = some w := fun {b w} q => by rw [upd_ne (ne_of_none q fa), upd_ne (ne_of_none q fd)]; exact q
  refine I.un ⟨fun b w q n _ _ => k b w q, fun b w q n _ _ => ⟨w.slots, k b w q⟩, fun b w q n _ => by rw [upd_ne (na q), upd_ne (nd q)]; exact n, fun b w q _ => ⟨w, k b w q⟩, fun b xs q => up q, fun b w xs q => up q, fun b ps q => ⟨#[], by rw [up q]; simp⟩⟩ fun b w q => ?_
  by_cases hb : b = a
  · subst hb; rw [upd_same] at q; cases q; exact n2
  · rw [upd_ne hb] at q
    by_cases hb2 : b = d
    · subst hb2; rw [upd_same] at q; cases q; exact n1
    · rw [upd_ne hb2] at q
      exact (I.hok b w q).stay (fun c v _ z => k c v z) (fun c z => up z) fun c xs z => up z
/-- the value of C(e): a new exception, held -/
def tExV1 (C : Addr) (f : Str) (ta : TA) : TE := fun σ H Q => ta σ H fun vs H1 => ∃ v, vs = [v] ∧ ∀ a d, H1 a = none → H1 d = none → d ≠ a → Q (.ref a) (upd (upd H1 d (exd d [(f, v)])) a (exo a C (some d)))
def tExV0 (C : Addr) : TE := fun σ H Q => ∀ a, H a = none → Q (.ref a) (upd H a (exo a C none))
theorem pe_exv1 (T : ExCls X.prog X.K X.mg C fI cc cda) (Fn : ExFn1 X.K C fI cc cda f y) (hr : Room k X.A) (he : PA X [e] ta) (hm : X.mg x = some (.ref C)) (hg : Gl X x := by rfl) (hdb : (x == ("__debug__" : Str)) = false := by decide)
    (hst : starEach [e] X.env = [(false, eval e X.env)] := by rfl) (hpl : (backTo pos (starEach [] X.env)).any (·.1) = false := by rfl) : PE X (.Call (.Name x p) [e] [] pos) (tExV1 C f ta) := by
  refine ⟨fun pins s σ H Q I h => ?_⟩
  refine wpAny_Call_Name_kw (ld_glob I hg hm ?_ hdb)
  refine PySem.W.callWith_K (h₀ := X.base) I.ok.mod.kin T.kC (thn (he.run pos pins s σ H _ I h) fun us s1 ⟨vs, H1, I1, r1, v, ev, q⟩ => ⟨I1.kIn, ?_⟩) hst hpl
  subst ev
  obtain ⟨u, rfl, ru⟩ := vals1 r1
  show wpAny _ _ (call (.ref C) [u]) _ _ _
  obtain ⟨mb, h1, h2⟩ := I1.mod.blt
  have hlim := I1.nolimit
  have kin := I1.kIn
  have g1 := I1.mod.glob.keeps I1.bk
  have g2 := h1.keeps I1.bk
  obtain ⟨hp, g, dr, tk, os⟩ := s1
  refine wpAny_call (made1 T Fn kin hlim g1 g2 (h2 _ (by decide)) (by have := hr.dp; omega) fun h' tk' e d M => ?_)
  obtain ⟨t1, ho⟩ := M.obj
  have J := I1.laid2 (t' := tk') (o := exo e C (some d)) (u := exd d [(f, v)]) M.keep M.new M.dbig M.dne (fun x => exd_own) (fun xs => exd_tup) (fun x => exo_own) (fun xs => exo_tup) (xd_ok ru M.ns) (exo_ok ho)
  exact ⟨.ref e, _, J, rfl, q e d (I1.hok.fresh M.new) (I1.hok.fresh M.dbig) M.dne⟩
theorem pe_exv0 (T : ExCls X.prog X.K X.mg C fI cc cda) (Fn : ExFn0 X.K fI cc cda) (hr : Room k X.A) (hm : X.mg x = some (.ref C)) (hg : Gl X x := by rfl) (hdb : (x == ("__debug__" : Str)) = false := by decide) : PE X (.Call (.Name x p) [] [] pos) (tExV0 C) := by
  refine ⟨fun pins s σ H Q I h => ?_⟩
  refine wpAny_Call_Name_kw (ld_glob I hg hm ?_ hdb)
  refine PySem.W.callWith_K0 I.kIn T.kC ?_
  show wpAny _ _ (call (.ref C) []) _ _ _
  obtain ⟨mb, h1, h2⟩ := I.mod.blt
  have hlim := I.nolimit
  have kin := I.kIn
  have g1 := I.mod.glob.keeps I.bk
  have g2 := h1.keeps I.bk
  obtain ⟨hp, g, dr, tk, os⟩ := s
  refine wpAny_call (made0 T Fn kin hlim g1 g2 (h2 _ (by decide)) (by have := hr.dp; omega) fun h' tk' e M => ?_)
  obtain ⟨t1, ho⟩ := M.obj
  have J : Inv X pins σ (upd H e (exo e C none)) ⟨h', g, dr, tk', os⟩ := I.laid (t' := tk') (o := exo e C none) M.keep M.new (exo_ok ho)
  exact ⟨.ref e, _, J, rfl, h e (I.hok.fresh M.new)⟩
/-- e.f, e an exception that is held -/
def tExF (C : Addr) (f : Str) (te : TE) : TE := fun σ H Q => te σ H fun x H1 => ∃ a d fs v, x = .ref a ∧ H1 a = some (exo a C (some d)) ∧ H1 d = some (exd d fs) ∧ fs.lookup f = some v ∧ Q v H1
theorem pe_exf (T : ExCls X.prog X.K X.mg C fI cc cda) (hno : PySem.W.findIn X.K (.ref C) f = some none) (he : PE X e te) (hb : attributeBase e f X.env (eval e X.env) = eval e X.env := by rfl) : PE X (.Attribute e f pos) (tExF C f te) := by
  refine ⟨fun pins s σ H Q I h => ?_⟩
  refine attr_of hb (thn (he.run pins s σ H _ I h) fun u s1 hh => ?_)
  obtain ⟨x, H1, I1, rx, a, d, fs, v, ex, ea, ed, l, q⟩ := hh
  subst ex
  obtain rfl : u = Value.ref a := rx
  obtain ⟨t1, ha⟩ := exo_at I1.hok ea
  obtain ⟨mA, hns, hr⟩ := exd_at I1.hok ed
  obtain ⟨od, ho, hl⟩ := lookIn_ns hns
  obtain ⟨u, hu, ru⟩ := RelO.some_of (v := v) (o := mA f) (by rw [← l]; exact hr f)
  have J : PySem.W.InstAt s1.heap a { cls := .ref C, dict := some d, data := .fields #[.ref t1, .none, .none, .none, .bool false, .none] } C (some od) := ⟨ha, rfl, rfl, ho⟩
  exact HandSPX.exc_get I1.kIn J T.ga T.gg T.exC (PySem.W.findObj_own T.hdC hno rfl (by rw [hl, hu])) (handed_of ru) ⟨v, H1, I1.tok _, ru, q⟩
end
end L2

set_option Elab.async false
set_option linter.all false
set_option maxRecDepth 100000
set_option maxHeartbeats 2000000
/-! Fd1: data in place of values: what an expression, a test, a statement makes of plain data, the heap out of sight. -/
namespace Fd
open PySem PySem.Spec PyProof.Rows L2

/-! ### data -/
inductive D where
  | non | bl (b : Bool) | int (i : Int) | str (x : Str)
  | lst (xs : List D) | tup (xs : List D)
  /-- a list that may be read alone (the script) -/
  | rdl (xs : List D)
  | ins (C : Addr) (ns : List Str) (xs : List D)
  | dct (ks : List Key) (xs : List D)
  /-- an exception that is held -/
  | exc (C : Addr) (ns : List Str) (xs : List D)
  | adr (a : Addr) | ty (n : String)

section
variable (K : PySem.W.Frag) (H : Hp)
mutual
/-- the value v is the datum d in the heap H -/
def Is : D → V → Prop
  | .non, v => v = .non
  | .bl b, v => v = .bl b
  | .int i, v => v = .int i
  | .str x, v => v = .str x
  | .lst xs, v => ∃ a vs, v = .ref a ∧ H a = some (.lst vs) ∧ IsL xs vs
  | .rdl xs, v => ∃ a vs, v = .ref a ∧ SqL K H a vs ∧ IsL xs vs
  | .tup xs, v => ∃ a vs, v = .ref a ∧ SqT K H a vs ∧ IsL xs vs
  | .ins C ns xs, v => ∃ a dx fs, v = .ref a ∧ H a = some (.ins C dx fs) ∧ fs.map (·.1) = ns ∧ IsL xs (fs.map (·.2))
  | .dct ks xs, v => ∃ a kvs, v = .ref a ∧ H a = some (.dK kvs) ∧ kvs.map (·.1) = ks ∧ IsL xs (kvs.map (·.2))
  | .exc C ns xs, v => ∃ a od fs, v = .ref a ∧ H a = some (exo a C od) ∧ fs.map (·.1) = ns ∧ IsL xs (fs.map (·.2)) ∧ (∀ d, od = some d → H d = some (exd d fs)) ∧ (od = none → fs = [])
  | .adr a, v => v = .ref a
  | .ty n, v => v = .ty n
def IsL : List D → List V → Prop
  | [], vs => vs = []
  | x :: xs, vs => ∃ v r, vs = v :: r ∧ Is x v ∧ IsL xs r
end
end
section
variable {K : PySem.W.Frag} {H H' : Hp}
theorem ext_seqL {a : Addr} {vs : List V} (e : Ext H H') (h : SqL K H a vs) : SqL K H' a vs := SqL.ext h e
theorem ext_seqT {a : Addr} {vs : List V} (e : Ext H H') (h : SqT K H a vs) : SqT K H' a vs := SqT.ext h e
mutual
theorem Is.mono (e : Ext H H') : ∀ (d : D) {v : V}, Is K H d v → Is K H' d v
  | .non, _, h => h
  | .bl _, _, h => h
  | .int _, _, h => h
  | .str _, _, h => h
  | .lst xs, _, h => let ⟨a, vs, e1, e2, e3⟩ := h; ⟨a, vs, e1, e _ _ e2, IsL.mono e xs e3⟩
  | .rdl xs, _, h => let ⟨a, vs, e1, e2, e3⟩ := h; ⟨a, vs, e1, ext_seqL e e2, IsL.mono e xs e3⟩
  | .tup xs, _, h => let ⟨a, vs, e1, e2, e3⟩ := h; ⟨a, vs, e1, ext_seqT e e2, IsL.mono e xs e3⟩
  | .ins C ns xs, _, h => let ⟨a, dx, fs, e1, e2, e3, e4⟩ := h; ⟨a, dx, fs, e1, e _ _ e2, e3, IsL.mono e xs e4⟩
  | .dct ks xs, _, h => let ⟨a, kvs, e1, e2, e3, e4⟩ := h; ⟨a, kvs, e1, e _ _ e2, e3, IsL.mono e xs e4⟩
  | .exc C ns xs, _, h => let ⟨a, od, fs, e1, e2, e3, e4, e5, e6⟩ := h; ⟨a, od, fs, e1, e _ _ e2, e3, IsL.mono e xs e4, fun d q => e _ _ (e5 d q), e6⟩
  | .adr _, _, h => h
  | .ty _, _, h => h
theorem IsL.mono (e : Ext H H') : ∀ (ds : List D) {vs : List V}, IsL K H ds vs → IsL K H' ds vs
  | [], _, h => h
  | x :: xs, _, h => let ⟨v, r, e1, e2, e3⟩ := h; ⟨v, r, e1, Is.mono e x e2, IsL.mono e xs e3⟩
end
theorem IsL.length : ∀ {ds : List D} {vs : List V}, IsL K H ds vs → vs.length = ds.length
  | [], _, h => by cases (show _ = _ from h); rfl
  | x :: xs, _, h => by obtain ⟨v, r, rfl, _, h⟩ := h; simp [IsL.length h]
theorem IsL.nil : IsL K H [] [] := rfl
theorem IsL.cons {x : D} {xs : List D} {v : V} {vs : List V} (h : Is K H x v) (t : IsL K H xs vs) : IsL K H (x :: xs) (v :: vs) := ⟨v, vs, rfl, h, t⟩
theorem IsL.get : ∀ {ds : List D} {vs : List V} {i : Nat} {v : V}, IsL K H ds vs → vs[i]? = some v → ∃ x, ds[i]? = some x ∧ Is K H x v
  | [], _, i, _, h, e => by cases (show _ = _ from h); simp at e
  | x :: xs, _, 0, v, h, e => by obtain ⟨v', r, rfl, h1, h⟩ := h; simp at e; subst e; exact ⟨x, rfl, h1⟩
  | x :: xs, _, i + 1, v, h, e => by obtain ⟨v', r, rfl, h1, h⟩ := h; simp at e; obtain ⟨y, e1, e2⟩ := IsL.get h e; exact ⟨y, by simpa using e1, e2⟩
theorem IsL.get' : ∀ {ds : List D} {vs : List V} {i : Nat} {x : D}, IsL K H ds vs → ds[i]? = some x → ∃ v, vs[i]? = some v ∧ Is K H x v
  | [], _, i, _, h, e => by simp at e
  | x :: xs, _, 0, y, h, e => by obtain ⟨v', r, rfl, h1, h⟩ := h; simp at e; subst e; exact ⟨v', rfl, h1⟩
  | x :: xs, _, i + 1, y, h, e => by obtain ⟨v', r, rfl, h1, h⟩ := h; simp at e; obtain ⟨y, e1, e2⟩ := IsL.get' h e; exact ⟨y, by simpa using e1, e2⟩
theorem IsL.append : ∀ {ds es : List D} {vs us : List V}, IsL K H ds vs → IsL K H es us → IsL K H (ds ++ es) (vs ++ us)
  | [], _, _, _, h, g => by cases (show _ = _ from h); exact g
  | x :: xs, _, _, _, h, g => by obtain ⟨v, r, rfl, h1, h⟩ := h; exact ⟨v, _, rfl, h1, IsL.append h g⟩
theorem IsL.take : ∀ {ds : List D} {vs : List V} (n : Nat), IsL K H ds vs → IsL K H (ds.take n) (vs.take n)
  | _, _, 0, _ => rfl
  | [], _, n + 1, h => by cases (show _ = _ from h); exact rfl
  | x :: xs, _, n + 1, h => by obtain ⟨v, r, rfl, h1, h⟩ := h; exact ⟨v, _, rfl, h1, IsL.take n h⟩
theorem IsL.drop : ∀ {ds : List D} {vs : List V} (n : Nat), IsL K H ds vs → IsL K H (ds.drop n) (vs.drop n)
  | _, _, 0, h => h
  | [], _, n + 1, h => by cases (show _ = _ from h); exact rfl
  | x :: xs, _, n + 1, h => by obtain ⟨v, r, rfl, h1, h⟩ := h; exact IsL.drop n h
theorem IsL.snoc {ds : List D} {vs : List V} {x : D} {v : V} (h : IsL K H ds vs) (g : Is K H x v) : IsL K H (ds ++ [x]) (vs ++ [v]) := h.append (.cons g .nil)
theorem Is.int_of {i : Int} {v : V} (h : Is K H (.int i) v) : v = .int i := h
end

/-! ### the state -/
inductive S where
  /-- nothing is known -/
  | no
  /-- a datum that is never changed -/
  | d (x : D)
  /-- a list of one's own -/
  | own (xs : List D)
  /-- an object of one's own -/
  | obj (a C : Addr) (ns : List Str) (xs : List D)
  /-- a dict of one's own -/
  | dic (ks : List Key) (xs : List D)
abbrev SS := List S
def S.mine : S → Bool
  | .own _ => true | .obj _ _ _ _ => true | .dic _ _ => true | _ => false
section
variable (T : List (Addr × Str)) (K : PySem.W.Frag)
/-- what a slot holds: F the heap of what is never changed, H the whole -/
def SlotIs (F H : Hp) : S → Option V → Prop
  | .no, _ => True
  | .d x, o => ∃ v, o = some v ∧ Is K F x v
  | .own xs, o => ∃ p vs, o = some (.ref p) ∧ F p = none ∧ H p = some (.lst vs) ∧ IsL K F xs vs
  | .obj p C ns xs, o => ∃ dx fs, o = some (.ref p) ∧ F p = none ∧ H p = some (.ins C dx fs) ∧ fs.map (·.1) = ns ∧ IsL K F xs (fs.map (·.2))
  | .dic ks xs, o => ∃ p kvs, o = some (.ref p) ∧ F p = none ∧ H p = some (.dK kvs) ∧ kvs.map (·.1) = ks ∧ IsL K F xs (kvs.map (·.2))
/-- a table of code objects, or a code object -/
def Codey (o : HO) : Prop := (∃ ps, o = .tbl ps) ∨ ∃ c q, o = LamX.CodeO c q
/-- nothing stands at p, or a table of code objects -/
def Fr (H : Hp) (p : Addr) : Prop := ∀ o, H p = some o → ∃ ps, o = .tbl ps
theorem Fr.of {H : Hp} {p : Addr} (h : H p = none) : Fr H p := fun o e => by rw [h] at e; cases e
theorem Fr.no {H : Hp} {p : Addr} {o : HO} {C : Prop} (h : Fr H p) (e : H p = some o) (n : ∀ ps, o ≠ .tbl ps) : C := by
  obtain ⟨ps, z⟩ := h o e
  exact absurd z (n ps)
/-- the heap grows: all but the tables of code objects stays, those of T are tables of theirs -/
structure Gr (T : List (Addr × Str)) (H H1 : Hp) : Prop where
  k : ∀ p o, H p = some o → (∀ ps, o ≠ .tbl ps) → H1 p = some o
  t : LamX.Tabs T H → LamX.Tabs T H1
theorem Gr.of {T : List (Addr × Str)} {H H1 : Hp} (e : Ext H H1) : Gr T H H1 where
  k := fun p o h _ => e p o h
  t := fun t => t.ext e
theorem Gr.refl {T : List (Addr × Str)} (H : Hp) : Gr T H H := .of fun _ _ h => h
theorem Gr.trans {T : List (Addr × Str)} {H H1 H2 : Hp} (a : Gr T H H1) (b : Gr T H1 H2) : Gr T H H2 := ⟨fun p o h n => b.k p o (a.k p o h n) n, fun t => b.t (a.t t)⟩
theorem Gr.fr {T : List (Addr × Str)} {H H1 : Hp} {p : Addr} (a : Gr T H H1) (h : Fr H1 p) : Fr H p := fun o e => by
  cases o with
  | tbl ps => exact ⟨ps, rfl⟩
  | _ => exact h _ (a.k p _ e fun _ z => nomatch z)
theorem Gr.ff {T : List (Addr × Str)} {H H1 : Hp} {p : Addr} (a : Gr T H H1) (h : H1 p = none) : Fr H p := a.fr (.of h)
theorem tabs_upd {T : List (Addr × Str)} {H : Hp} {p : Addr} {o : HO} (t : LamX.Tabs T H) (h : ∀ o', H p = some o' → ¬ Codey o') : LamX.Tabs T (upd H p o) := fun x hx => by
  obtain ⟨ps, h1, h2, h3⟩ := t x hx
  have ne : x.1 ≠ p := fun e => h _ (by rw [← e]; exact h1) (.inl ⟨ps, rfl⟩)
  refine ⟨ps, by rw [upd_ne ne]; exact h1, h2, fun pos cv hc => ?_⟩
  obtain ⟨c, e1, e2⟩ := h3 pos cv hc
  have ne2 : c ≠ p := fun e => h _ (by rw [← e]; exact e2) (.inr ⟨c, x.2, rfl⟩)
  exact ⟨c, e1, by rw [upd_ne ne2]; exact e2⟩
/-- new objects alone were added -/
structure Nx (T : List (Addr × Str)) (F H F1 H1 : Hp) : Prop where
  f : Ext F F1
  h : Gr T H H1
  s : Ext F1 H1
  nt : ∀ p ps, F1 p = some (.tbl ps) → F p = some (.tbl ps)
  n : ∀ p o, F1 p = some o → F p ≠ none ∨ Fr H p
structure StR (B : Hp × Hp) (F H : Hp) (σ : L2.St) (ss : SS) : Prop where
  len : σ.length = ss.length
  bF : Ext B.1 F
  bH : Gr T B.2 H
  sub : Ext F H
  nt : ∀ p ps, F p ≠ some (.tbl ps)
  tb : LamX.Tabs T H
  new : ∀ p o, F p = some o → B.1 p ≠ none ∨ Fr B.2 p
  slots : ∀ (i : Nat) (s : S) (o : Option V), ss[i]? = some s → σ[i]? = some o → SlotIs K F H s o
  own : ∀ (i : Nat) (s : S) (p : Addr), ss[i]? = some s → s.mine = true → σ[i]? = some (some (.ref p)) → Fr B.2 p
  dis : ∀ (i j : Nat) (s t : S) (p : Addr), ss[i]? = some s → ss[j]? = some t → s.mine = true → t.mine = true → σ[i]? = some (some (.ref p)) → σ[j]? = some (some (.ref p)) → i = j
end
section
variable {T : List (Addr × Str)} {K : PySem.W.Frag} {B : Hp × Hp} {F H F1 H1 F2 H2 : Hp} {σ : L2.St} {ss : SS}
theorem Nx.refl (s : Ext F H) : Nx T F H F H := ⟨fun _ _ h => h, .refl H, s, fun _ _ h => h, fun p o h => .inl (by rw [h]; exact fun z => nomatch z)⟩
theorem Nx.trans (a : Nx T F H F1 H1) (b : Nx T F1 H1 F2 H2) : Nx T F H F2 H2 := ⟨a.f.trans b.f, a.h.trans b.h, b.s, fun p ps h => a.nt p ps (b.nt p ps h), fun p o h => by
  rcases b.n p o h with z | z
  · cases e : F1 p with
    | none => exact absurd e z
    | some u => exact a.n p u e
  · exact .inr (a.h.fr z)⟩
theorem Nx.alloc {p : Addr} {o : HO} (s : Ext F H) (h : H p = none) (ho : ∀ ps, o ≠ .tbl ps := by intro ps z; cases z) : Nx T F H (upd F p o) (upd H p o) := by
  have hF : F p = none := by
    cases e : F p with
    | none => rfl
    | some u => rw [s p u e] at h; cases h
  refine ⟨Ext.upd hF, .of (Ext.upd h), fun a u e => ?_, fun a ps e => ?_, fun a u e => ?_⟩
  · by_cases q : a = p
    · subst q; rw [upd_same] at e ⊢; exact e
    · rw [upd_ne q] at e ⊢; exact s a u e
  · by_cases q : a = p
    · subst q; rw [upd_same] at e; exact absurd (Option.some.inj e) (ho ps)
    · rw [upd_ne q] at e; exact e
  · by_cases q : a = p
    · subst q; exact .inr (.of h)
    · rw [upd_ne q] at e; exact .inl (by rw [e]; exact fun z => nomatch z)
/-- a new object that is not among the data -/
theorem Nx.allocH {p : Addr} {o : HO} (s : Ext F H) (h : H p = none) : Nx T F H F (upd H p o) :=
  ⟨fun _ _ h => h, .of (Ext.upd h), fun a u e => by rw [upd_ne (ne_of_none (s a u e) h)]; exact s a u e, fun _ _ h => h, fun p o h => .inl (by rw [h]; exact fun z => nomatch z)⟩
theorem SlotIs.grow {s : S} {o : Option V} (a : Nx T F H F1 H1) (h : SlotIs K F H s o) : SlotIs K F1 H1 s o := by
  have free : ∀ {p : Addr} {u : HO}, F p = none → H p = some u → (∀ ps, u ≠ .tbl ps) → F1 p = none := fun {p u} e1 e2 hn => by
    cases e : F1 p with
    | none => rfl
    | some w =>
      rcases a.n p w e with z | z
      · exact absurd e1 z
      · exact z.no e2 hn
  cases s with
  | no => exact True.intro
  | d x => obtain ⟨v, e, h⟩ := h; exact ⟨v, e, Is.mono a.f x h⟩
  | own xs => obtain ⟨p, vs, e, e1, e2, h⟩ := h; exact ⟨p, vs, e, free e1 e2 (fun _ z => nomatch z), a.h.k _ _ e2 (fun _ z => nomatch z), IsL.mono a.f xs h⟩
  | obj p C ns xs => obtain ⟨dx, fs, e, e1, e2, e3, h⟩ := h; exact ⟨dx, fs, e, free e1 e2 (fun _ z => nomatch z), a.h.k _ _ e2 (fun _ z => nomatch z), e3, IsL.mono a.f xs h⟩
  | dic ks xs => obtain ⟨p, kvs, e, e1, e2, e3, h⟩ := h; exact ⟨p, kvs, e, free e1 e2 (fun _ z => nomatch z), a.h.k _ _ e2 (fun _ z => nomatch z), e3, IsL.mono a.f xs h⟩
theorem StR.grow (R : StR T K B F H σ ss) (a : Nx T F H F1 H1) : StR T K B F1 H1 σ ss where
  len := R.len
  bF := R.bF.trans a.f
  bH := R.bH.trans a.h
  sub := a.s
  nt := fun p ps e => R.nt p ps (a.nt p ps e)
  tb := a.h.t R.tb
  new := fun p o e => by
    rcases a.n p o e with z | z
    · cases q : F p with
      | none => exact absurd q z
      | some u => exact R.new p u q
    · exact .inr (R.bH.fr z)
  slots := fun i s o e1 e2 => (R.slots i s o e1 e2).grow a
  own := R.own
  dis := R.dis
theorem StR.nx (R : StR T K B F H σ ss) : Nx T F H F H := Nx.refl R.sub
theorem StR.alloc {p : Addr} {o : HO} (R : StR T K B F H σ ss) (h : H p = none) (ho : ∀ ps, o ≠ .tbl ps := by intro ps z; cases z) : StR T K B (upd F p o) (upd H p o) σ ss := R.grow (Nx.alloc R.sub h ho)
theorem StR.get {i : Nat} {x : D} (R : StR T K B F H σ ss) (h : ss[i]? = some (.d x)) : ∃ v, σ[i]? = some (some v) ∧ Is K F x v := by
  have hi : i < ss.length := (List.getElem?_eq_some_iff.mp h).1
  have hs : i < σ.length := by rw [R.len]; exact hi
  obtain ⟨v, e, q⟩ := R.slots i _ _ h (List.getElem?_eq_getElem hs)
  exact ⟨v, by rw [List.getElem?_eq_getElem hs, e], q⟩
theorem set_get {α : Type} {l : List α} {i j : Nat} {a x : α} (h : (l.set i a)[j]? = some x) : (i = j ∧ x = a) ∨ (i ≠ j ∧ l[j]? = some x) := by
  by_cases e : i = j
  · subst e
    have hl : i < l.length := by
      have := (List.getElem?_eq_some_iff.mp h).1
      simpa using this
    rw [List.getElem?_set_self hl] at h
    exact .inl ⟨rfl, (Option.some.inj h).symm⟩
  · rw [List.getElem?_set_ne e] at h
    exact .inr ⟨e, h⟩
/-- a slot is given a datum -/
theorem StR.put {i : Nat} {x : D} {v : V} (R : StR T K B F H σ ss) (h : Is K F x v) : StR T K B F H (σ.set i (some v)) (ss.set i (.d x)) where
  len := by simp [R.len]
  bF := R.bF
  bH := R.bH
  sub := R.sub
  nt := R.nt
  tb := R.tb
  new := R.new
  slots := fun j s o e1 e2 => by
    rcases set_get e1 with ⟨q, rfl⟩ | ⟨q, e1⟩
    · rcases set_get e2 with ⟨_, rfl⟩ | ⟨q2, _⟩
      · exact ⟨v, rfl, h⟩
      · exact absurd q q2
    · rcases set_get e2 with ⟨q2, _⟩ | ⟨_, e2⟩
      · exact absurd q2 q
      · exact R.slots j s o e1 e2
  own := fun j s p e1 m e2 => by
    rcases set_get e1 with ⟨q, rfl⟩ | ⟨q, e1⟩
    · cases m
    · rcases set_get e2 with ⟨q2, _⟩ | ⟨_, e2⟩
      · exact absurd q2 q
      · exact R.own j s p e1 m e2
  dis := fun j k s t p e1 e2 m1 m2 e3 e4 => by
    rcases set_get e1 with ⟨q, rfl⟩ | ⟨q, e1⟩
    · cases m1
    · rcases set_get e2 with ⟨q', rfl⟩ | ⟨q', e2⟩
      · cases m2
      · rcases set_get e3 with ⟨q2, _⟩ | ⟨_, e3⟩
        · exact absurd q2 q
        · rcases set_get e4 with ⟨q2, _⟩ | ⟨_, e4⟩
          · exact absurd q2 q'
          · exact R.dis j k s t p e1 e2 m1 m2 e3 e4
/-- a slot is forgotten -/
theorem StR.forget {i : Nat} {o : Option V} (R : StR T K B F H σ ss) : StR T K B F H (σ.set i o) (ss.set i .no) where
  len := by simp [R.len]
  bF := R.bF
  bH := R.bH
  sub := R.sub
  nt := R.nt
  tb := R.tb
  new := R.new
  slots := fun j s o e1 e2 => by
    rcases set_get e1 with ⟨q, rfl⟩ | ⟨q, e1⟩
    · exact True.intro
    · rcases set_get e2 with ⟨q2, _⟩ | ⟨_, e2⟩
      · exact absurd q2 q
      · exact R.slots j s o e1 e2
  own := fun j s p e1 m e2 => by
    rcases set_get e1 with ⟨q, rfl⟩ | ⟨q, e1⟩
    · cases m
    · rcases set_get e2 with ⟨q2, _⟩ | ⟨_, e2⟩
      · exact absurd q2 q
      · exact R.own j s p e1 m e2
  dis := fun j k s t p e1 e2 m1 m2 e3 e4 => by
    rcases set_get e1 with ⟨q, rfl⟩ | ⟨q, e1⟩
    · cases m1
    · rcases set_get e2 with ⟨q', rfl⟩ | ⟨q', e2⟩
      · cases m2
      · rcases set_get e3 with ⟨q2, _⟩ | ⟨_, e3⟩
        · exact absurd q2 q
        · rcases set_get e4 with ⟨q2, _⟩ | ⟨_, e4⟩
          · exact absurd q2 q'
          · exact R.dis j k s t p e1 e2 m1 m2 e3 e4
/-- a slot of which less is known -/
theorem StR.less {i : Nat} {s : S} (R : StR T K B F H σ ss) (h : ss[i]? = some s) (hm : s.mine = false ∨ True) : StR T K B F H σ (ss.set i .no) where
  len := by simp [R.len]
  bF := R.bF
  bH := R.bH
  sub := R.sub
  nt := R.nt
  tb := R.tb
  new := R.new
  slots := fun j s o e1 e2 => by
    rcases set_get e1 with ⟨q, rfl⟩ | ⟨q, e1⟩
    · exact True.intro
    · exact R.slots j s o e1 e2
  own := fun j s p e1 m e2 => by
    rcases set_get e1 with ⟨q, rfl⟩ | ⟨q, e1⟩
    · cases m
    · exact R.own j s p e1 m e2
  dis := fun j k s t p e1 e2 m1 m2 e3 e4 => by
    rcases set_get e1 with ⟨q, rfl⟩ | ⟨q, e1⟩
    · cases m1
    · rcases set_get e2 with ⟨q', rfl⟩ | ⟨q', e2⟩
      · cases m2
      · exact R.dis j k s t p e1 e2 m1 m2 e3 e4
end

/-! ### what an expression makes: canonical readings -/
section
variable (T : List (Addr × Str)) (K : PySem.W.Frag)
/-- from ss the datum d; Rl : which ss, d -/
def tEv (Rl : SS → D → Prop) : TE := fun σ H Q => ∃ B F ss d, Rl ss d ∧ StR T K B F H σ ss ∧ ∀ v F1 H1, Nx T F H F1 H1 → StR T K B F1 H1 σ ss → Is K F1 d v → Q v H1
def tEvs (Rl : SS → List D → Prop) : TA := fun σ H Q => ∃ B F ss ds, Rl ss ds ∧ StR T K B F H σ ss ∧ ∀ vs F1 H1, Nx T F H F1 H1 → StR T K B F1 H1 σ ss → IsL K F1 ds vs → Q vs H1
def tTv (Rl : SS → Bool → Prop) : TT := fun σ H Q => ∃ B F ss b, Rl ss b ∧ StR T K B F H σ ss ∧ ∀ F1 H1, Nx T F H F1 H1 → StR T K B F1 H1 σ ss → Q b H1
end
section
variable {T : List (Addr × Str)} {X : Cx}
theorem PE.imp {e : Expr} {t t' : TE} (h : PE X e t) (k : ∀ σ H Q, t' σ H Q → t σ H Q) : PE X e t' := ⟨fun pins s σ H Q I q => h.run pins s σ H Q I (k σ H Q q)⟩
theorem PT.imp {e : Expr} {t t' : TT} (h : PT X e t) (k : ∀ σ H Q, t' σ H Q → t σ H Q) : PT X e t' := ⟨fun pins s σ H Q I q => h.run pins s σ H Q I (k σ H Q q)⟩
theorem PA.imp {es : List Expr} {t t' : TA} (h : PA X es t) (k : ∀ σ H Q, t' σ H Q → t σ H Q) : PA X es t' := ⟨fun pos pins s σ H Q I q => h.run pos pins s σ H Q I (k σ H Q q)⟩
theorem PS.imp {e : Stmt} {t t' : TS} (h : PS X e t) (k : ∀ D σ H, t' D σ H → t D σ H) : PS X e t' := ⟨fun pins s σ H D I q => h.run pins s σ H D I (k D σ H q)⟩
theorem PSs.imp {e : List Stmt} {t t' : TS} (h : PSs X e t) (k : ∀ D σ H, t' D σ H → t D σ H) : PSs X e t' := ⟨fun pins s σ H D I q => h.run pins s σ H D I (k D σ H q)⟩
/-- e makes of the state ss the datum d -/
def EV (T : List (Addr × Str)) (X : Cx) (e : Expr) (ss : SS) (d : D) : Prop := PE X e (tEv T X.K fun ss' d' => ss' = ss ∧ d' = d)
def EVs (T : List (Addr × Str)) (X : Cx) (es : List Expr) (ss : SS) (ds : List D) : Prop := PA X es (tEvs T X.K fun ss' d' => ss' = ss ∧ d' = ds)
def TV (T : List (Addr × Str)) (X : Cx) (e : Expr) (ss : SS) (b : Bool) : Prop := PT X e (tTv T X.K fun ss' b' => ss' = ss ∧ b' = b)
abbrev EvP (T : List (Addr × Str)) (K : PySem.W.Frag) (ss : SS) (d : D) : TE := tEv T K fun ss' d' => ss' = ss ∧ d' = d
abbrev EvsP (T : List (Addr × Str)) (K : PySem.W.Frag) (ss : SS) (ds : List D) : TA := tEvs T K fun ss' d' => ss' = ss ∧ d' = ds
abbrev TvP (T : List (Addr × Str)) (K : PySem.W.Frag) (ss : SS) (b : Bool) : TT := tTv T K fun ss' d' => ss' = ss ∧ d' = b
/-- a family of readings -/
theorem pe_fam {e : Expr} {Rl : SS → D → Prop} (h : ∀ ss d, Rl ss d → EV T X e ss d) : PE X e (tEv T X.K Rl) := ⟨fun pins s σ H Q I q => by
  obtain ⟨B, F, ss, d, r, R, k⟩ := q
  exact (h ss d r).run pins s σ H Q I ⟨B, F, ss, d, ⟨rfl, rfl⟩, R, k⟩⟩
theorem pt_fam {e : Expr} {Rl : SS → Bool → Prop} (h : ∀ ss d, Rl ss d → TV T X e ss d) : PT X e (tTv T X.K Rl) := ⟨fun pins s σ H Q I q => by
  obtain ⟨B, F, ss, d, r, R, k⟩ := q
  exact (h ss d r).run pins s σ H Q I ⟨B, F, ss, d, ⟨rfl, rfl⟩, R, k⟩⟩
/-- from any reading -/
theorem EV.of {e : Expr} {t : TE} {ss : SS} {d : D} (h : PE X e t)
    (k : ∀ B F H σ Q, StR T X.K B F H σ ss → (∀ v F1 H1, Nx T F H F1 H1 → StR T X.K B F1 H1 σ ss → Is X.K F1 d v → Q v H1) → t σ H Q) : EV T X e ss d :=
  PE.imp h fun σ H Q ⟨B, F, ss', d', ⟨e1, e2⟩, R, q⟩ => by subst e1; subst e2; exact k B F H σ Q R q
theorem TV.of {e : Expr} {t : TT} {ss : SS} {b : Bool} (h : PT X e t)
    (k : ∀ B F H σ Q, StR T X.K B F H σ ss → (∀ F1 H1, Nx T F H F1 H1 → StR T X.K B F1 H1 σ ss → Q b H1) → t σ H Q) : TV T X e ss b :=
  PT.imp h fun σ H Q ⟨B, F, ss', d', ⟨e1, e2⟩, R, q⟩ => by subst e1; subst e2; exact k B F H σ Q R q
theorem EVs.of {es : List Expr} {t : TA} {ss : SS} {ds : List D} (h : PA X es t)
    (k : ∀ B F H σ Q, StR T X.K B F H σ ss → (∀ vs F1 H1, Nx T F H F1 H1 → StR T X.K B F1 H1 σ ss → IsL X.K F1 ds vs → Q vs H1) → t σ H Q) : EVs T X es ss ds :=
  PA.imp h fun σ H Q ⟨B, F, ss', d', ⟨e1, e2⟩, R, q⟩ => by subst e1; subst e2; exact k B F H σ Q R q
/-- use of one -/
theorem ev_go {K : PySem.W.Frag} {B : Hp × Hp} {F H : Hp} {σ : L2.St} {ss : SS} {d : D} {Q : VK} (R : StR T K B F H σ ss) (k : ∀ v F1 H1, Nx T F H F1 H1 → StR T K B F1 H1 σ ss → Is K F1 d v → Q v H1) : EvP T K ss d σ H Q := ⟨B, F, ss, d, ⟨rfl, rfl⟩, R, k⟩
theorem evs_go {K : PySem.W.Frag} {B : Hp × Hp} {F H : Hp} {σ : L2.St} {ss : SS} {ds : List D} {Q : List V → Hp → Prop} (R : StR T K B F H σ ss) (k : ∀ vs F1 H1, Nx T F H F1 H1 → StR T K B F1 H1 σ ss → IsL K F1 ds vs → Q vs H1) : EvsP T K ss ds σ H Q := ⟨B, F, ss, ds, ⟨rfl, rfl⟩, R, k⟩
theorem tv_go {K : PySem.W.Frag} {B : Hp × Hp} {F H : Hp} {σ : L2.St} {ss : SS} {b : Bool} {Q : Bool → Hp → Prop} (R : StR T K B F H σ ss) (k : ∀ F1 H1, Nx T F H F1 H1 → StR T K B F1 H1 σ ss → Q b H1) : TvP T K ss b σ H Q := ⟨B, F, ss, b, ⟨rfl, rfl⟩, R, k⟩
end

/-! ### expressions -/
section
variable {T : List (Addr × Str)} {X : Cx} {ss : SS} {a b c e : Expr} {es : List Expr} {pos : Pos} {d : D} {ds : List D}
theorem ev_var (i : Nat) {x : Str} (h : ss[i]? = some (.d d)) (hN : X.N[i]? = some x := by rfl) (hv : Vis X.env.scope x := by first | exact Or.inl rfl | exact Or.inr (Or.inl rfl) | exact Or.inr (Or.inr rfl)) (hd : (x == ("__debug__" : Str)) = false := by decide)
    (hcd : (x == ("__classdict__" : Str)) = false := by decide) : EV T X (.Name x pos) ss d := EV.of (pe_var hN hv hd hcd) fun B F H σ Q R k => by
  obtain ⟨v, e, q⟩ := R.get h
  exact ⟨v, e, k v F H R.nx R q⟩
theorem ev_int {i : Int} {j} : EV T X (.Constant (.int i) j pos) ss (.int i) := EV.of pe_int fun B F H σ Q R k => k _ F H R.nx R rfl
theorem ev_bl {i : Bool} {j} : EV T X (.Constant (.bool i) j pos) ss (.bl i) := EV.of pe_bl fun B F H σ Q R k => k _ F H R.nx R rfl
theorem ev_non {j} : EV T X (.Constant .none j pos) ss .non := EV.of pe_non fun B F H σ Q R k => k _ F H R.nx R rfl
theorem ev_str {x : Str} {j} : EV T X (.Constant (.str x) j pos) ss (.str x) := EV.of pe_str fun B F H σ Q R k => k _ F H R.nx R rfl
/-- two in a row, by a rule of values -/
theorem ev_op {op : Operator} {r : R2} {x y : D} (ho : OpR X (binaryOp op) r) (ha : EV T X a ss x) (hb : EV T X b ss y)
    (k : ∀ B F H σ v u Q, StR T X.K B F H σ ss → Is X.K F x v → Is X.K F y u → (∀ z F1 H1, Nx T F H F1 H1 → StR T X.K B F1 H1 σ ss → Is X.K F1 d z → Q z H1) → r v u H Q) : EV T X (.BinOp a op b pos) ss d :=
  EV.of (pe_op ho ha hb) fun B F H σ Q R q => ev_go R fun v F1 H1 n1 R1 i1 => ev_go R1 fun u F2 H2 n2 R2 i2 =>
    k B F2 H2 σ v u Q R2 (Is.mono n2.f _ i1) i2 fun z F3 H3 n3 R3 i3 => q z F3 H3 ((n1.trans n2).trans n3) R3 i3
theorem ev_cmp {op : CmpOp} {r : R2} {x y : D} (ho : OpR X (compareOp op) r) (ha : EV T X a ss x) (hb : EV T X b ss y)
    (k : ∀ B F H σ v u Q, StR T X.K B F H σ ss → Is X.K F x v → Is X.K F y u → (∀ z F1 H1, Nx T F H F1 H1 → StR T X.K B F1 H1 σ ss → Is X.K F1 d z → Q z H1) → r v u H Q)
    (h1 : behindInMarks op b = false := by first | exact nomark _ | rfl) : EV T X (.Compare a [op] [b] pos) ss d :=
  EV.of (pe_cmpR ho ha hb h1) fun B F H σ Q R q => ev_go R fun v F1 H1 n1 R1 i1 => ev_go R1 fun u F2 H2 n2 R2 i2 =>
    k B F2 H2 σ v u Q R2 (Is.mono n2.f _ i1) i2 fun z F3 H3 n3 R3 i3 => q z F3 H3 ((n1.trans n2).trans n3) R3 i3
theorem ev_add {i j : Int} (ha : EV T X a ss (.int i)) (hb : EV T X b ss (.int j)) : EV T X (.BinOp a .Add b pos) ss (.int (i + j)) :=
  ev_op op_add ha hb fun B F H σ v u Q R i1 i2 q => ⟨i, j, i1, i2, q _ F H R.nx R rfl⟩
theorem ev_sub {i j : Int} (ha : EV T X a ss (.int i)) (hb : EV T X b ss (.int j)) : EV T X (.BinOp a .Sub b pos) ss (.int (i - j)) :=
  ev_op op_sub ha hb fun B F H σ v u Q R i1 i2 q => ⟨i, j, i1, i2, q _ F H R.nx R rfl⟩
theorem ev_mod {i j : Int} (hj : 0 < j) (ha : EV T X a ss (.int i)) (hb : EV T X b ss (.int j)) : EV T X (.BinOp a .Mod b pos) ss (.int (i % j)) :=
  ev_op op_mod ha hb fun B F H σ v u Q R i1 i2 q => ⟨i, j, i1, i2, hj, q _ F H R.nx R rfl⟩
theorem ev_pow {i j : Int} (hj : CPow i j) (ha : EV T X a ss (.int i)) (hb : EV T X b ss (.int j)) : EV T X (.BinOp a .Pow b pos) ss (.int (i ^ j.toNat)) :=
  ev_op op_pow ha hb fun B F H σ v u Q R i1 i2 q => ⟨i, j, i1, i2, hj, q _ F H R.nx R rfl⟩
theorem ev_neg {i : Int} (ha : EV T X a ss (.int i)) : EV T X (.UnaryOp .USub a pos) ss (.int (-i)) :=
  EV.of (pe_un un_neg ha) fun B F H σ Q R q => ev_go R fun v F1 H1 n1 R1 i1 => ⟨i, i1, q _ F1 H1 n1 R1 rfl⟩
theorem ev_addS {x y : Str} (hl : x.length + y.length ≤ sizeLine) (ha : EV T X a ss (.str x)) (hb : EV T X b ss (.str y)) : EV T X (.BinOp a .Add b pos) ss (.str (x ++ y)) :=
  ev_op op_add_str ha hb fun B F H σ v u Q R i1 i2 q => ⟨x, y, i1, i2, hl, q _ F H R.nx R rfl⟩
theorem ev_lt {i j : Int} (ha : EV T X a ss (.int i)) (hb : EV T X b ss (.int j)) : EV T X (.Compare a [.Lt] [b] pos) ss (.bl (decide (i < j))) :=
  ev_cmp op_lt ha hb fun B F H σ v u Q R i1 i2 q => ⟨i, j, i1, i2, q _ F H R.nx R rfl⟩
theorem ev_le {i j : Int} (ha : EV T X a ss (.int i)) (hb : EV T X b ss (.int j)) : EV T X (.Compare a [.LtE] [b] pos) ss (.bl (decide (i ≤ j))) :=
  ev_cmp op_le ha hb fun B F H σ v u Q R i1 i2 q => ⟨i, j, i1, i2, q _ F H R.nx R rfl⟩
theorem ev_gt {i j : Int} (ha : EV T X a ss (.int i)) (hb : EV T X b ss (.int j)) : EV T X (.Compare a [.Gt] [b] pos) ss (.bl (decide (j < i))) :=
  ev_cmp op_gt ha hb fun B F H σ v u Q R i1 i2 q => ⟨i, j, i1, i2, q _ F H R.nx R rfl⟩
theorem ev_ge {i j : Int} (ha : EV T X a ss (.int i)) (hb : EV T X b ss (.int j)) : EV T X (.Compare a [.GtE] [b] pos) ss (.bl (decide (j ≤ i))) :=
  ev_cmp op_ge ha hb fun B F H σ v u Q R i1 i2 q => ⟨i, j, i1, i2, q _ F H R.nx R rfl⟩
theorem ev_eqI {i j : Int} (ha : EV T X a ss (.int i)) (hb : EV T X b ss (.int j)) : EV T X (.Compare a [.Eq] [b] pos) ss (.bl (decide (i = j))) :=
  ev_cmp op_eq ha hb fun B F H σ v u Q R i1 i2 q => by
    cases i1; cases i2
    exact ⟨rfl, q _ F H R.nx R (by show V.bl _ = V.bl _; rw [dec_int, Bool.beq_eq_decide_eq])⟩
theorem ev_neI {i j : Int} (ha : EV T X a ss (.int i)) (hb : EV T X b ss (.int j)) : EV T X (.Compare a [.NotEq] [b] pos) ss (.bl (!decide (i = j))) :=
  ev_cmp op_ne ha hb fun B F H σ v u Q R i1 i2 q => by
    cases i1; cases i2
    exact ⟨rfl, q _ F H R.nx R (by show V.bl _ = V.bl _; rw [dec_int, Bool.beq_eq_decide_eq])⟩
theorem ev_eqS {i j : Str} (ha : EV T X a ss (.str i)) (hb : EV T X b ss (.str j)) : EV T X (.Compare a [.Eq] [b] pos) ss (.bl (decide (i = j))) :=
  ev_cmp op_eq ha hb fun B F H σ v u Q R i1 i2 q => by
    cases i1; cases i2
    exact ⟨rfl, q _ F H R.nx R (by show V.bl _ = V.bl _; rw [dec_str, Bool.beq_eq_decide_eq])⟩
/-! arguments, displays -/
theorem evs_nil : EVs T X [] ss [] := EVs.of pa_nil fun B F H σ Q R k => k [] F H R.nx R rfl
theorem evs_cons (ha : EV T X e ss d) (hr : EVs T X es ss ds) (hs : starEach (e :: es) X.env = (false, eval e X.env) :: starEach es X.env := by rfl) : EVs T X (e :: es) ss (d :: ds) :=
  EVs.of (pa_cons ha hr hs) fun B F H σ Q R k => ev_go R fun v F1 H1 n1 R1 i1 => evs_go R1 fun vs F2 H2 n2 R2 i2 =>
    k (v :: vs) F2 H2 (n1.trans n2) R2 ⟨v, vs, rfl, Is.mono n2.f _ i1, i2⟩
theorem small_len {n : Nat} (h : n ≤ 100000) : n ≤ sizeLine := by rw [sizeLine_eq]; omega
theorem ev_tup {x1} (h : EVs T X es ss ds) (hl : ds.length ≤ 100000 := by exact Nat.le_of_ble_eq_true rfl) : EV T X (.Tuple es x1 pos) ss (.tup ds) :=
  EV.of (pe_tup h) fun B F H σ Q R k => evs_go R fun vs F1 H1 n1 R1 i1 => ⟨by rw [i1.length]; exact small_len hl, fun p hp =>
    k _ _ _ (n1.trans (Nx.alloc R1.sub hp)) (R1.alloc hp) ⟨p, vs, rfl, SqT.of upd_same, IsL.mono (Nx.alloc (T := T) R1.sub hp).f _ i1⟩⟩
theorem ev_lst (h : EVs T X es ss ds) (hl : ds.length ≤ 100000 := by exact Nat.le_of_ble_eq_true rfl) : EV T X (.List es pos) ss (.lst ds) :=
  EV.of (pe_lst h) fun B F H σ Q R k => evs_go R fun vs F1 H1 n1 R1 i1 => ⟨by rw [i1.length]; exact small_len hl, fun p hp =>
    k _ _ _ (n1.trans (Nx.alloc R1.sub hp)) (R1.alloc hp) ⟨p, vs, rfl, upd_same, IsL.mono (Nx.alloc (T := T) R1.sub hp).f _ i1⟩⟩
/-! items -/
theorem ev_ixL {xs : List D} {i : Int} (hi : ∃ n : Nat, i = n ∧ xs[n]? = some d) (ha : EV T X a ss (.lst xs)) (hb : EV T X b ss (.int i)) (hs : PlainIx b := by exact fun _ _ => rfl) : EV T X (.Subscript a b pos) ss d :=
  EV.of (pe_ix ix_list ha hb hs) fun B F H σ Q R q => ev_go R fun v F1 H1 n1 R1 i1 => ev_go R1 fun u F2 H2 n2 R2 i2 => by
    obtain ⟨p, vs, rfl, e2, e3⟩ := i1
    obtain ⟨n, rfl, hn⟩ := hi
    obtain ⟨w, hw, iw⟩ := IsL.get' e3 hn
    exact ⟨p, vs, _, w, rfl, i2, SqL.of (R2.sub _ _ (n2.f _ _ e2)), atI_nat hw, q _ _ _ (n1.trans n2) R2 (Is.mono n2.f _ iw)⟩
theorem ev_ixR {xs : List D} {i : Int} (hi : ∃ n : Nat, i = n ∧ xs[n]? = some d) (ha : EV T X a ss (.rdl xs)) (hb : EV T X b ss (.int i)) (hs : PlainIx b := by exact fun _ _ => rfl) : EV T X (.Subscript a b pos) ss d :=
  EV.of (pe_ix ix_list ha hb hs) fun B F H σ Q R q => ev_go R fun v F1 H1 n1 R1 i1 => ev_go R1 fun u F2 H2 n2 R2 i2 => by
    obtain ⟨p, vs, rfl, e2, e3⟩ := i1
    obtain ⟨n, rfl, hn⟩ := hi
    obtain ⟨w, hw, iw⟩ := IsL.get' e3 hn
    exact ⟨p, vs, _, w, rfl, i2, ext_seqL (n2.f.trans R2.sub) e2, atI_nat hw, q _ _ _ (n1.trans n2) R2 (Is.mono n2.f _ iw)⟩
theorem ev_ixT {xs : List D} {i : Int} (hi : ∃ n : Nat, i = n ∧ xs[n]? = some d) (ha : EV T X a ss (.tup xs)) (hb : EV T X b ss (.int i)) (hs : PlainIx b := by exact fun _ _ => rfl) : EV T X (.Subscript a b pos) ss d :=
  EV.of (pe_ix ix_tup ha hb hs) fun B F H σ Q R q => ev_go R fun v F1 H1 n1 R1 i1 => ev_go R1 fun u F2 H2 n2 R2 i2 => by
    obtain ⟨p, vs, rfl, e2, e3⟩ := i1
    obtain ⟨n, rfl, hn⟩ := hi
    obtain ⟨w, hw, iw⟩ := IsL.get' e3 hn
    exact ⟨p, vs, _, w, rfl, i2, ext_seqT (n2.f.trans R2.sub) e2, atI_nat hw, q _ _ _ (n1.trans n2) R2 (Is.mono n2.f _ iw)⟩
/-! tests -/
theorem tv_of {b : Bool} (h : EV T X e ss (.bl b)) (he : ∀ whole, isTrue e X.env whole = (do let v ← whole; standAt e.pos; holding [v] (truthy v)) := by intro _; rfl) : TV T X e ss b :=
  TV.of (pt_val h he) fun B F H σ Q R q => ev_go R fun v F1 H1 n1 R1 i1 => ⟨b, i1, q F1 H1 n1 R1⟩
theorem tv_cmp {op : CmpOp} {r : R2} {x y : D} {k : Bool} (ho : OpR X (compareOp op) r) (ha : EV T X a ss x) (hb : EV T X b ss y)
    (kk : ∀ B F H σ v u Q, StR T X.K B F H σ ss → Is X.K F x v → Is X.K F y u → (∀ F1 H1, Nx T F H F1 H1 → StR T X.K B F1 H1 σ ss → Q (.bl k) H1) → r v u H Q)
    (h1 : behindInMarks op b = false := by first | exact nomark _ | rfl) : TV T X (.Compare a [op] [b] pos) ss k :=
  TV.of (pt_cmpR ho ha hb h1) fun B F H σ Q R q => ev_go R fun v F1 H1 n1 R1 i1 => ev_go R1 fun u F2 H2 n2 R2 i2 =>
    kk B F2 H2 σ v u _ R2 (Is.mono n2.f _ i1) i2 fun F3 H3 n3 R3 => ⟨k, rfl, q F3 H3 ((n1.trans n2).trans n3) R3⟩
theorem tv_lt {i j : Int} (ha : EV T X a ss (.int i)) (hb : EV T X b ss (.int j)) : TV T X (.Compare a [.Lt] [b] pos) ss (decide (i < j)) :=
  tv_cmp op_lt ha hb fun B F H σ v u Q R i1 i2 q => ⟨i, j, i1, i2, q F H R.nx R⟩
theorem tv_le {i j : Int} (ha : EV T X a ss (.int i)) (hb : EV T X b ss (.int j)) : TV T X (.Compare a [.LtE] [b] pos) ss (decide (i ≤ j)) :=
  tv_cmp op_le ha hb fun B F H σ v u Q R i1 i2 q => ⟨i, j, i1, i2, q F H R.nx R⟩
theorem tv_gt {i j : Int} (ha : EV T X a ss (.int i)) (hb : EV T X b ss (.int j)) : TV T X (.Compare a [.Gt] [b] pos) ss (decide (j < i)) :=
  tv_cmp op_gt ha hb fun B F H σ v u Q R i1 i2 q => ⟨i, j, i1, i2, q F H R.nx R⟩
theorem tv_ge {i j : Int} (ha : EV T X a ss (.int i)) (hb : EV T X b ss (.int j)) : TV T X (.Compare a [.GtE] [b] pos) ss (decide (j ≤ i)) :=
  tv_cmp op_ge ha hb fun B F H σ v u Q R i1 i2 q => ⟨i, j, i1, i2, q F H R.nx R⟩
theorem tv_eqI {i j : Int} (ha : EV T X a ss (.int i)) (hb : EV T X b ss (.int j)) : TV T X (.Compare a [.Eq] [b] pos) ss (decide (i = j)) :=
  tv_cmp op_eq ha hb fun B F H σ v u Q R i1 i2 q => by
    cases i1; cases i2
    refine ⟨rfl, ?_⟩
    rw [dec_int, Bool.beq_eq_decide_eq]
    exact q F H R.nx R
theorem tv_neI {i j : Int} (ha : EV T X a ss (.int i)) (hb : EV T X b ss (.int j)) : TV T X (.Compare a [.NotEq] [b] pos) ss (!decide (i = j)) :=
  tv_cmp op_ne ha hb fun B F H σ v u Q R i1 i2 q => by
    cases i1; cases i2
    refine ⟨rfl, ?_⟩
    rw [dec_int, Bool.beq_eq_decide_eq]
    exact q F H R.nx R
theorem tv_not {k : Bool} (h : TV T X a ss k) : TV T X (.UnaryOp .Not a pos) ss (!k) := TV.of (pt_not h) fun B F H σ Q R q => tv_go R q
def TW (T : List (Addr × Str)) (X : Cx) (e : Expr) (ss : SS) (b : Bool) : Prop := PW X e (tTv T X.K fun ss' b' => ss' = ss ∧ b' = b)
theorem PW.imp {e : Expr} {t t' : TT} (h : PW X e t) (k : ∀ σ H Q, t' σ H Q → t σ H Q) : PW X e t' := ⟨fun wh pins s σ H Q I q => h.run wh pins s σ H Q I (k σ H Q q)⟩
theorem TW.tv {k : Bool} (h : TW T X e ss k) : TV T X e ss k := PW.pt h
theorem tw_and1 {k : Bool} (h : TV T X a ss k) : TW T X (.BoolOp .And [a] pos) ss k := pw_and1 h
theorem tw_or1 {k : Bool} (h : TV T X a ss k) : TW T X (.BoolOp .Or [a] pos) ss k := pw_or1 h
theorem tw_andT {k : Bool} (h : TV T X a ss true) (g : TW T X (.BoolOp .And (b :: es) pos) ss k) : TW T X (.BoolOp .And (a :: b :: es) pos) ss k :=
  PW.imp (pw_and h g) fun σ H Q ⟨B, F, ss', d', ⟨e1, e2⟩, R, q⟩ => by
    subst e1; subst e2
    exact tv_go R fun F1 H1 n1 R1 => iteT (tv_go R1 fun F2 H2 n2 R2 => q F2 H2 (n1.trans n2) R2)
theorem tw_andF {t : TT} (h : TV T X a ss false) (g : PW X (.BoolOp .And (b :: es) pos) t) : TW T X (.BoolOp .And (a :: b :: es) pos) ss false :=
  PW.imp (pw_and h g) fun σ H Q ⟨B, F, ss', d', ⟨e1, e2⟩, R, q⟩ => by
    subst e1; subst e2
    exact tv_go R fun F1 H1 n1 R1 => iteF (q F1 H1 n1 R1)
end
end Fd

set_option Elab.async false
set_option linter.all false
set_option maxRecDepth 100000
set_option maxHeartbeats 2000000
/-! Fd2: statements, loops, comprehensions, calls of defs. -/
namespace Fd
open PySem PySem.Spec PyProof.Rows L2
/-! ### statements -/
structure Post where
  nx : SS → Prop
  rt : D → Prop
  bk : SS → Prop := fun _ => False
  ct : SS → Prop := fun _ => False
def tSv (T : List (Addr × Str)) (K : PySem.W.Frag) (Rl : SS → Post → Prop) : TS := fun Dn σ H => ∃ B F ss P, Rl ss P ∧ StR T K B F H σ ss ∧ (∀ ss' σ' F1 H1, P.nx ss' → StR T K B F1 H1 σ' ss' → Dn.nx σ' H1) ∧
  (∀ d v ss' σ' F1 H1, P.rt d → StR T K B F1 H1 σ' ss' → Is K F1 d v → Dn.rt v H1) ∧ (∀ ss' σ' F1 H1, P.bk ss' → StR T K B F1 H1 σ' ss' → Dn.bk σ' H1) ∧ (∀ ss' σ' F1 H1, P.ct ss' → StR T K B F1 H1 σ' ss' → Dn.ct σ' H1)
def SV (T : List (Addr × Str)) (X : Cx) (st : Stmt) (ss : SS) (P : Post) : Prop := PS X st (tSv T X.K fun ss' P' => ss' = ss ∧ P' = P)
def SVs (T : List (Addr × Str)) (X : Cx) (st : List Stmt) (ss : SS) (P : Post) : Prop := PSs X st (tSv T X.K fun ss' P' => ss' = ss ∧ P' = P)
section
variable {T : List (Addr × Str)} {X : Cx} {ss : SS} {P : Post} {st : Stmt} {sts rest : List Stmt} {e : Expr} {d : D} {pos : Pos}
/-- the ends of a statement from a state -/
structure Go (T : List (Addr × Str)) (K : PySem.W.Frag) (B : Hp × Hp) (P : Post) (Dn : Ends) : Prop where
  nx : ∀ ss' σ' F1 H1, P.nx ss' → StR T K B F1 H1 σ' ss' → Dn.nx σ' H1
  rt : ∀ d v ss' σ' F1 H1, P.rt d → StR T K B F1 H1 σ' ss' → Is K F1 d v → Dn.rt v H1
  bk : ∀ ss' σ' F1 H1, P.bk ss' → StR T K B F1 H1 σ' ss' → Dn.bk σ' H1
  ct : ∀ ss' σ' F1 H1, P.ct ss' → StR T K B F1 H1 σ' ss' → Dn.ct σ' H1
theorem SV.of {t : TS} (h : PS X st t) (k : ∀ B F H σ Dn, StR T X.K B F H σ ss → Go T X.K B P Dn → t Dn σ H) : SV T X st ss P :=
  PS.imp h fun Dn σ H ⟨B, F, ss', P', ⟨e1, e2⟩, R, q1, q2, q3, q4⟩ => by subst e1; subst e2; exact k B F H σ Dn R ⟨q1, q2, q3, q4⟩
theorem SVs.of {t : TS} (h : PSs X sts t) (k : ∀ B F H σ Dn, StR T X.K B F H σ ss → Go T X.K B P Dn → t Dn σ H) : SVs T X sts ss P :=
  PSs.imp h fun Dn σ H ⟨B, F, ss', P', ⟨e1, e2⟩, R, q1, q2, q3, q4⟩ => by subst e1; subst e2; exact k B F H σ Dn R ⟨q1, q2, q3, q4⟩
theorem pss_fam {Rl : SS → Post → Prop} (h : ∀ ss P, Rl ss P → SVs T X sts ss P) : PSs X sts (tSv T X.K Rl) := ⟨fun pins s σ H Dn I q => by
  obtain ⟨B, F, ss, P, r, R, q⟩ := q
  exact (h ss P r).run pins s σ H Dn I ⟨B, F, ss, P, ⟨rfl, rfl⟩, R, q⟩⟩
abbrev AllSv (T : List (Addr × Str)) (X : Cx) (sts : List Stmt) : TS := tSv T X.K fun ss P => SVs T X sts ss P
theorem pss_all : PSs X sts (AllSv T X sts) := pss_fam fun _ _ h => h
theorem sv_go {B : Hp × Hp} {F H : Hp} {σ : L2.St} {Dn : Ends} (h : SVs T X sts ss P) (R : StR T X.K B F H σ ss) (g : Go T X.K B P Dn) : AllSv T X sts Dn σ H := ⟨B, F, ss, P, h, R, g.nx, g.rt, g.bk, g.ct⟩
theorem svs_nil (h : P.nx ss) : SVs T X [] ss P := SVs.of pss_nil fun B F H σ Dn R g => g.nx _ _ _ _ h R
theorem svs_cons (h : SV T X st ss ⟨fun ss' => SVs T X rest ss' P, P.rt, P.bk, P.ct⟩) : SVs T X (st :: rest) ss P :=
  SVs.of (pss_cons h pss_all) fun B F H σ Dn R g => ⟨B, F, ss, _, ⟨rfl, rfl⟩, R, fun ss' σ' F1 H1 q R1 => sv_go q R1 g, g.rt, g.bk, g.ct⟩
theorem svs_one (h : SV T X st ss P) : SVs T X [st] ss P := SVs.of (pss_one h) fun B F H σ Dn R g => ⟨B, F, ss, P, ⟨rfl, rfl⟩, R, g.nx, g.rt, g.bk, g.ct⟩
theorem SV.post {P' : Post} (h : SV T X st ss P') (h1 : ∀ s, P'.nx s → P.nx s) (h2 : ∀ d, P'.rt d → P.rt d) (h3 : ∀ s, P'.bk s → P.bk s) (h4 : ∀ s, P'.ct s → P.ct s) : SV T X st ss P :=
  SV.of h fun B F H σ Dn R g => ⟨B, F, ss, P', ⟨rfl, rfl⟩, R, fun ss' σ' F1 H1 q => g.nx ss' σ' F1 H1 (h1 _ q), fun d v ss' σ' F1 H1 q => g.rt d v ss' σ' F1 H1 (h2 _ q), fun ss' σ' F1 H1 q => g.bk ss' σ' F1 H1 (h3 _ q), fun ss' σ' F1 H1 q => g.ct ss' σ' F1 H1 (h4 _ q)⟩
theorem SVs.post {P' : Post} (h : SVs T X sts ss P') (h1 : ∀ s, P'.nx s → P.nx s) (h2 : ∀ d, P'.rt d → P.rt d) (h3 : ∀ s, P'.bk s → P.bk s) (h4 : ∀ s, P'.ct s → P.ct s) : SVs T X sts ss P :=
  SVs.of h fun B F H σ Dn R g => ⟨B, F, ss, P', ⟨rfl, rfl⟩, R, fun ss' σ' F1 H1 q => g.nx ss' σ' F1 H1 (h1 _ q), fun d v ss' σ' F1 H1 q => g.rt d v ss' σ' F1 H1 (h2 _ q), fun ss' σ' F1 H1 q => g.bk ss' σ' F1 H1 (h3 _ q), fun ss' σ' F1 H1 q => g.ct ss' σ' F1 H1 (h4 _ q)⟩
theorem sv_pass (h : P.nx ss) : SV T X (.Pass pos) ss P := SV.of ps_pass fun B F H σ Dn R g => g.nx _ _ _ _ h R
theorem sv_break (h : P.bk ss) : SV T X (.Break pos) ss P := SV.of ps_break fun B F H σ Dn R g => g.bk _ _ _ _ h R
theorem sv_continue (h : P.ct ss) : SV T X (.Continue pos) ss P := SV.of ps_continue fun B F H σ Dn R g => g.ct _ _ _ _ h R
theorem sv_ret (h : EV T X e ss d) (k : P.rt d) : SV T X (.Return (some e) pos) ss P := SV.of (ps_ret h) fun B F H σ Dn R g => ev_go R fun v F1 H1 n1 R1 i1 => g.rt d v ss σ F1 H1 k R1 i1
theorem sv_retN (k : P.rt .non) : SV T X (.Return none pos) ss P := SV.of ps_retN fun B F H σ Dn R g => g.rt .non _ ss σ F H k R rfl
theorem sv_expr (h : EV T X e ss d) (k : P.nx ss) (hs : swapsWith e none pos.line X.env = pure false := by rfl) : SV T X (.Expr e pos) ss P := SV.of (ps_expr h hs) fun B F H σ Dn R g => ev_go R fun v F1 H1 n1 R1 i1 => g.nx ss σ F1 H1 k R1
theorem sv_if {c : Expr} {a b : List Stmt} {t : Bool} (hc : TV T X c ss t) (h1 : t = true → SVs T X a ss P) (h2 : t = false → SVs T X b ss P) : SV T X (.If c a b pos) ss P :=
  SV.of (ps_if hc pss_all pss_all) fun B F H σ Dn R g => tv_go R fun F1 H1 n1 R1 => by
    cases t with
    | true => exact iteT (sv_go (h1 rfl) R1 g)
    | false => exact iteF (sv_go (h2 rfl) R1 g)
theorem sv_set (i : Nat) {x : Str} {pos' : Pos} (he : EV T X e ss d) (k : P.nx (ss.set i (.d d))) (hN : X.N.Nodup) (hi : X.N[i]? = some x := by rfl) (hx : Loc X.env.scope x := by first | exact Or.inl rfl | exact Or.inr rfl)
    (hs : swapsWith e (some (.Name x pos')) pos.line X.env = pure false := by rfl) (hf : X.fn x = true ∨ X.env.scope.names.lookup x = some .local := by first | exact .inl rfl | exact .inr rfl | assumption) : SV T X (.Assign [.Name x pos'] e pos) ss P :=
  SV.of (ps_set hN hi hx he hs hf) fun B F H σ Dn R g => ev_go R fun v F1 H1 n1 R1 i1 => g.nx _ _ F1 H1 k (R1.put i1)
end
/-! ### lists of one's own -/
section
variable {T : List (Addr × Str)} {K : PySem.W.Frag} {B : Hp × Hp} {F H F1 H1 F2 H2 : Hp} {σ : L2.St} {ss : SS}
/-- B.2 p = none for what is new -/
theorem StR.base_none (R : StR T K B F H σ ss) {p : Addr} (h : H p = none) : Fr B.2 p := R.bH.ff h
theorem StR.base_fr (R : StR T K B F H σ ss) {p : Addr} (h : Fr H p) : Fr B.2 p := R.bH.fr h
/-- an own slot's object is no table, no code object -/
theorem StR.plain (R : StR T K B F H σ ss) {i : Nat} {s : S} {p : Addr} (h : ss[i]? = some s) (m : s.mine = true) (hσ : σ[i]? = some (some (.ref p))) : ∀ o', H p = some o' → ¬ Codey o' := by
  have q := R.slots i _ _ h hσ
  intro o' e z
  cases s with
  | own xs => obtain ⟨p, vs, e0, e1, e2, _⟩ := q; cases e0; rw [e] at e2; cases e2; rcases z with ⟨_, z⟩ | ⟨_, _, z⟩ <;> cases z
  | obj p C ns xs => obtain ⟨dx, fs, e0, e1, e2, _⟩ := q; cases e0; rw [e] at e2; cases e2; rcases z with ⟨_, z⟩ | ⟨_, _, z⟩ <;> cases z
  | dic ks xs => obtain ⟨p, kvs, e0, e1, e2, _⟩ := q; cases e0; rw [e] at e2; cases e2; rcases z with ⟨_, z⟩ | ⟨_, _, z⟩ <;> cases z
  | _ => cases m
theorem StR.free (R : StR T K B F H σ ss) {p : Addr} (h : H p = none) : F p = none := by
  cases e : F p with
  | none => rfl
  | some u => rw [R.sub p u e] at h; cases h
/-- own slots stand in the heap -/
theorem StR.mine_at (R : StR T K B F H σ ss) {i : Nat} {s : S} (h : ss[i]? = some s) (m : s.mine = true) : ∃ p, σ[i]? = some (some (.ref p)) ∧ F p = none ∧ H p ≠ none := by
  have hi : i < ss.length := (List.getElem?_eq_some_iff.mp h).1
  have hs : i < σ.length := by rw [R.len]; exact hi
  have q := R.slots i _ _ h (List.getElem?_eq_getElem hs)
  rw [List.getElem?_eq_getElem hs]
  cases s with
  | own xs => obtain ⟨p, vs, e, e1, e2, _⟩ := q; exact ⟨p, by rw [e], e1, by rw [e2]; exact fun z => nomatch z⟩
  | obj p C ns xs => obtain ⟨dx, fs, e, e1, e2, _⟩ := q; exact ⟨p, by rw [e], e1, by rw [e2]; exact fun z => nomatch z⟩
  | dic ks xs => obtain ⟨p, kvs, e, e1, e2, _⟩ := q; exact ⟨p, by rw [e], e1, by rw [e2]; exact fun z => nomatch z⟩
  | _ => cases m
/-- a change at p of the whole heap alone, p no own slot's -/
theorem StR.updH {p : Addr} {o : HO} (R : StR T K B F H σ ss) (hF : F p = none) (hB : Fr B.2 p) (hk : ∀ o', H p = some o' → ¬ Codey o') (ho : ∀ (i : Nat) (s : S), ss[i]? = some s → s.mine = true → σ[i]? ≠ some (some (.ref p))) : StR T K B F (upd H p o) σ ss where
  len := R.len
  bF := R.bF
  bH := ⟨fun q u e n => by
    by_cases z : q = p
    · subst z; exact hB.no e n
    · rw [upd_ne z]; exact R.bH.k q u e n, fun t => tabs_upd (R.bH.t t) hk⟩
  sub := fun q u e => by rw [upd_ne (ne_of_none e hF)]; exact R.sub q u e
  nt := R.nt
  tb := tabs_upd R.tb hk
  new := R.new
  slots := fun i s oo e1 e2 => by
    have q := R.slots i s oo e1 e2
    have ne : ∀ {p' : Addr}, s.mine = true → oo = some (.ref p') → p' ≠ p := fun {p'} m e z => ho i s e1 m (by rw [e2, e, z])
    cases s with
    | no => exact True.intro
    | d x => exact q
    | own xs => obtain ⟨p', vs, e, e3, e4, h⟩ := q; exact ⟨p', vs, e, e3, by rw [upd_ne (ne rfl e)]; exact e4, h⟩
    | obj p' C ns xs => obtain ⟨dx, fs, e, e3, e4, h⟩ := q; exact ⟨dx, fs, e, e3, by rw [upd_ne (ne rfl e)]; exact e4, h⟩
    | dic ks xs => obtain ⟨p', kvs, e, e3, e4, h⟩ := q; exact ⟨p', kvs, e, e3, by rw [upd_ne (ne rfl e)]; exact e4, h⟩
  own := R.own
  dis := R.dis
/-- a slot is given an object of its own -/
theorem StR.putOwn {i : Nat} {s : S} {p : Addr} (R : StR T K B F H σ ss) (m : s.mine = true) (h : SlotIs K F H s (some (.ref p))) (hB : Fr B.2 p) (ho : ∀ (j : Nat) (t : S), j ≠ i → ss[j]? = some t → t.mine = true → σ[j]? ≠ some (some (.ref p))) :
    StR T K B F H (σ.set i (some (.ref p))) (ss.set i s) where
  len := by simp [R.len]
  bF := R.bF
  bH := R.bH
  sub := R.sub
  nt := R.nt
  tb := R.tb
  new := R.new
  slots := fun j t o e1 e2 => by
    rcases set_get e1 with ⟨q, rfl⟩ | ⟨q, e1⟩
    · rcases set_get e2 with ⟨_, rfl⟩ | ⟨q2, _⟩
      · exact h
      · exact absurd q q2
    · rcases set_get e2 with ⟨q2, _⟩ | ⟨_, e2⟩
      · exact absurd q2 q
      · exact R.slots j t o e1 e2
  own := fun j t p' e1 m' e2 => by
    rcases set_get e1 with ⟨q, rfl⟩ | ⟨q, e1⟩
    · rcases set_get e2 with ⟨_, z⟩ | ⟨q2, _⟩
      · cases z; exact hB
      · exact absurd q q2
    · rcases set_get e2 with ⟨q2, _⟩ | ⟨_, e2⟩
      · exact absurd q2 q
      · exact R.own j t p' e1 m' e2
  dis := fun j k s' t p' e1 e2 m1 m2 e3 e4 => by
    rcases set_get e3 with ⟨q, z⟩ | ⟨q, e3⟩
    · cases z
      rcases set_get e4 with ⟨q', z⟩ | ⟨q', e4⟩
      · exact q.symm.trans q'
      · rcases set_get e2 with ⟨q2, _⟩ | ⟨_, e2⟩
        · exact absurd q2 q'
        · exact absurd e4 (ho k t (fun z => q' z.symm) e2 m2)
    · rcases set_get e1 with ⟨q2, _⟩ | ⟨_, e1⟩
      · exact absurd q2 q
      · rcases set_get e4 with ⟨q', z⟩ | ⟨q', e4⟩
        · cases z
          exact absurd e3 (ho j s' (fun z => q z.symm) e1 m1)
        · rcases set_get e2 with ⟨q2, _⟩ | ⟨_, e2⟩
          · exact absurd q2 q'
          · exact R.dis j k s' t p' e1 e2 m1 m2 e3 e4
/-- a fresh object laid and given to a slot -/
theorem StR.newOwn {i : Nat} {s : S} {p : Addr} {o : HO} (R : StR T K B F H σ ss) (hp : H p = none) (m : s.mine = true) (h : SlotIs K F (upd H p o) s (some (.ref p))) : StR T K B F (upd H p o) (σ.set i (some (.ref p))) (ss.set i s) := by
  have no : ∀ (j : Nat) (t : S), ss[j]? = some t → t.mine = true → σ[j]? ≠ some (some (.ref p)) := fun j t e mt z => by
    obtain ⟨p', e1, _, e3⟩ := R.mine_at e mt
    rw [z] at e1
    cases e1
    exact e3 hp
  exact (R.updH (R.free hp) (R.base_none hp) (fun o' e => by rw [hp] at e; cases e) no).putOwn m h (R.base_none hp) fun j t _ => no j t
theorem set_self {α : Type} {l : List α} {i : Nat} {a : α} (h : l[i]? = some a) : l.set i a = l := by
  apply List.ext_getElem?
  intro j
  by_cases e : i = j
  · subst e
    rw [List.getElem?_set_self (List.getElem?_eq_some_iff.mp h).1, h]
  · rw [List.getElem?_set_ne e]
/-- an own object is changed -/
theorem StR.chg {i : Nat} {s s' : S} {p : Addr} {o : HO} (R : StR T K B F H σ ss) (hs : ss[i]? = some s) (m : s.mine = true) (hσ : σ[i]? = some (some (.ref p))) (m' : s'.mine = true) (hF : F p = none) (h : SlotIs K F (upd H p o) s' (some (.ref p))) :
    StR T K B F (upd H p o) σ (ss.set i s') := by
  have hB := R.own i s p hs m hσ
  have R1 : StR T K B F H σ (ss.set i .no) := R.less hs (.inr trivial)
  have hil : i < ss.length := (List.getElem?_eq_some_iff.mp hs).1
  have no : ∀ (j : Nat) (t : S), (ss.set i .no)[j]? = some t → t.mine = true → σ[j]? ≠ some (some (.ref p)) := fun j t e mt z => by
    rcases set_get e with ⟨_, rfl⟩ | ⟨q, e⟩
    · cases mt
    · exact q (R.dis i j s t p hs e m mt hσ z)
  have R2 := (R1.updH (o := o) hF hB (R.plain hs m hσ) no).putOwn (i := i) m' h hB fun j t _ => no j t
  rw [set_self hσ, List.set_set] at R2
  exact R2
/-- what was one's own is never changed again: a datum -/
theorem StR.freeze {i : Nat} {xs : List D} (R : StR T K B F H σ ss) (h : ss[i]? = some (.own xs)) : ∃ F', Ext F F' ∧ Nx T F H F' H ∨ True := ⟨F, .inr trivial⟩
theorem StR.freezeL {i : Nat} {xs : List D} (R : StR T K B F H σ ss) (h : ss[i]? = some (.own xs)) : ∃ F', Ext F F' ∧ StR T K B F' H σ (ss.set i (.d (.lst xs))) := by
  have hi : i < ss.length := (List.getElem?_eq_some_iff.mp h).1
  have hs : i < σ.length := by rw [R.len]; exact hi
  obtain ⟨p, vs, e, e1, e2, hx⟩ := R.slots i _ _ h (List.getElem?_eq_getElem hs)
  have hσ : σ[i]? = some (some (.ref p)) := by rw [List.getElem?_eq_getElem hs, e]
  have hB := R.own i _ p h rfl hσ
  have xF : Ext F (upd F p (.lst vs)) := Ext.upd e1
  refine ⟨upd F p (.lst vs), xF, ⟨by simp [R.len], R.bF.trans xF, R.bH, fun q u z => ?_, fun q ps z => ?_, R.tb, fun q u z => ?_, fun j s o z1 z2 => ?_, fun j s q z1 m z2 => ?_, fun j k s t q z1 z2 m1 m2 z3 z4 => ?_⟩⟩
  · by_cases hq : q = p
    · subst hq; rw [upd_same] at z; rw [e2]; exact z
    · rw [upd_ne hq] at z; exact R.sub q u z
  · by_cases hq : q = p
    · subst hq; rw [upd_same] at z; cases z
    · rw [upd_ne hq] at z; exact R.nt q ps z
  · by_cases hq : q = p
    · subst hq; exact .inr hB
    · rw [upd_ne hq] at z; exact R.new q u z
  · rcases set_get z1 with ⟨q, rfl⟩ | ⟨q, z1⟩
    · subst q
      rw [hσ] at z2
      cases z2
      exact ⟨.ref p, rfl, p, vs, rfl, upd_same, IsL.mono xF _ hx⟩
    · have w := R.slots j s o z1 z2
      have ne : ∀ {p' : Addr}, s.mine = true → o = some (.ref p') → p' ≠ p := fun {p'} m e' z => q (R.dis i j _ s p h z1 rfl m hσ (by rw [z2, e', z]))
      cases s with
      | no => exact True.intro
      | d x => obtain ⟨v, w1, w2⟩ := w; exact ⟨v, w1, Is.mono xF x w2⟩
      | own ys => obtain ⟨p', us, w1, w2, w3, w4⟩ := w; exact ⟨p', us, w1, by rw [upd_ne (ne rfl w1)]; exact w2, w3, IsL.mono xF _ w4⟩
      | obj p' C ns ys => obtain ⟨dx, fs, w1, w2, w3, w4, w5⟩ := w; exact ⟨dx, fs, w1, by rw [upd_ne (ne rfl w1)]; exact w2, w3, w4, IsL.mono xF _ w5⟩
      | dic ks ys => obtain ⟨p', kvs, w1, w2, w3, w4, w5⟩ := w; exact ⟨p', kvs, w1, by rw [upd_ne (ne rfl w1)]; exact w2, w3, w4, IsL.mono xF _ w5⟩
  · rcases set_get z1 with ⟨_, rfl⟩ | ⟨_, z1⟩
    · cases m
    · exact R.own j s q z1 m z2
  · rcases set_get z1 with ⟨_, rfl⟩ | ⟨_, z1⟩
    · cases m1
    · rcases set_get z2 with ⟨_, rfl⟩ | ⟨_, z2⟩
      · cases m2
      · exact R.dis j k s t q z1 z2 m1 m2 z3 z4
theorem StR.rebase (R : StR T K B F H σ ss) : StR T K (F, B.2) F H σ ss := ⟨R.len, fun _ _ h => h, R.bH, R.sub, R.nt, R.tb, fun p o e => .inl (by show F p ≠ none; rw [e]; exact fun z => nomatch z), R.slots, R.own, R.dis⟩
theorem StR.unbase {σ' : L2.St} {ss' : SS} (R : StR T K B F H σ ss) (R' : StR T K (F, B.2) F1 H1 σ' ss') : StR T K B F1 H1 σ' ss' := ⟨R'.len, R.bF.trans R'.bF, R'.bH, R'.sub, R'.nt, R'.tb, fun p o e => by
  rcases R'.new p o e with z | z
  · cases q : F p with
    | none => exact absurd q z
    | some u => exact R.new p u q
  · exact .inr z, R'.slots, R'.own, R'.dis⟩
end
section
variable {T : List (Addr × Str)} {X : Cx} {ss : SS} {P : Post} {st : Stmt} {sts rest : List Stmt} {e : Expr} {d : D} {ds : List D} {es : List Expr} {pos : Pos}
/-- an own list is a datum from here on -/
theorem sv_freeze (i : Nat) {xs : List D} (hi : ss[i]? = some (.own xs)) (h : SV T X st (ss.set i (.d (.lst xs))) P) : SV T X st ss P :=
  SV.of h fun B F H σ Dn R g => let ⟨F', _, R'⟩ := R.freezeL hi; ⟨B, F', _, P, ⟨rfl, rfl⟩, R', g.nx, g.rt, g.bk, g.ct⟩
theorem svs_freeze (i : Nat) {xs : List D} (hi : ss[i]? = some (.own xs)) (h : SVs T X sts (ss.set i (.d (.lst xs))) P) : SVs T X sts ss P :=
  SVs.of h fun B F H σ Dn R g => let ⟨F', _, R'⟩ := R.freezeL hi; ⟨B, F', _, P, ⟨rfl, rfl⟩, R', g.nx, g.rt, g.bk, g.ct⟩
/-- x = [..]: a list of one's own -/
theorem sv_setOwn (i : Nat) {x : Str} {pos' pl : Pos} (he : EVs T X es ss ds) (k : P.nx (ss.set i (.own ds))) (hN : X.N.Nodup) (hl : ds.length ≤ 100000 := by exact Nat.le_of_ble_eq_true rfl) (hi : X.N[i]? = some x := by rfl) (hx : Loc X.env.scope x := by first | exact Or.inl rfl | exact Or.inr rfl)
    (hs : swapsWith (.List es pl) (some (.Name x pos')) pos.line X.env = pure false := by rfl) (hf : X.fn x = true ∨ X.env.scope.names.lookup x = some .local := by first | exact .inl rfl | exact .inr rfl | assumption) :
    SV T X (.Assign [.Name x pos'] (.List es pl) pos) ss P :=
  SV.of (ps_set hN hi hx (pe_lst he) hs hf) fun B F H σ Dn R g => evs_go R fun vs F1 H1 n1 R1 i1 => ⟨by rw [i1.length]; exact small_len hl, fun p hp =>
    g.nx _ _ _ _ k (R1.newOwn hp rfl ⟨p, vs, rfl, R1.free hp, upd_same, i1⟩)⟩
/-- x.append(e) -/
theorem sv_append (i : Nat) {xs : List D} {x : Str} {px ap cp : Pos} (hx : ss[i]? = some (.own xs)) (he : EV T X e ss d) (k : P.nx (ss.set i (.own (xs ++ [d])))) (hl : xs.length ≤ 100000)
    (hp : ∀ {te : TE}, PE X e te → PE X (.Call (.Attribute (.Name x px) "append" ap) [e] [] cp) (tBM X.K "list" rAppend (tVar i) (tCons te tNil)) := by
      intro te h; exact pe_bm PySem.F.plainAttrs_list PySem.F.slot_list_append PySem.F.type_list_append mt_append (pv _) (pa_cons h pa_nil))
    (hs : swapsWith (.Call (.Attribute (.Name x px) "append" ap) [e] [] cp) none pos.line X.env = pure false := by rfl) :
    SV T X (.Expr (.Call (.Attribute (.Name x px) "append" ap) [e] [] cp) pos) ss P := by
  refine SV.of (ps_expr (hp he) hs) fun B F H σ Dn R g => ?_
  have hi : i < ss.length := (List.getElem?_eq_some_iff.mp hx).1
  have hsl : i < σ.length := by rw [R.len]; exact hi
  obtain ⟨p, vs, e1, e2, e3, e4⟩ := R.slots i _ _ hx (List.getElem?_eq_getElem hsl)
  have hσ : σ[i]? = some (some (.ref p)) := by rw [List.getElem?_eq_getElem hsl, e1]
  refine ⟨.ref p, hσ, .inl ⟨rfl, vs, SqL.of e3⟩, ev_go R fun v F1 H1 n1 R1 i1 => ?_⟩
  obtain ⟨p', vs', q1, q2, q3, q4⟩ := R1.slots i _ _ hx (List.getElem?_eq_getElem hsl)
  rw [q1] at e1
  cases e1
  refine ⟨p, _, v, rfl, rfl, q3, ?_, g.nx _ _ _ _ k (R1.chg hx rfl hσ rfl q2 ⟨p, _, rfl, q2, upd_same, q4.snoc i1⟩)⟩
  rw [q4.length, sizeLine_eq]; omega
end
end Fd

set_option Elab.async false
set_option linter.all false
set_option maxRecDepth 100000
set_option maxHeartbeats 2000000
/-! Fd3: loops, comprehensions, calls of defs. -/
namespace Fd
open PySem PySem.Spec PyProof.Rows L2
/-! ### what is walked -/
/-- J yields the data xs, one after another; it may lay new objects -/
structure Yl (T : List (Addr × Str)) (K : PySem.W.Frag) (J : It) (F1 : Hp) (xs : List D) : Prop where
  item : ∀ (i : Nat) (F H : Hp), Ext F1 F → Ext F H → i < xs.length → J.go i H ∧ ∀ x H', J.yld i H x H' → ∃ F' d, Nx T F H F' H' ∧ xs[i]? = some d ∧ Is K F' d x
  stop : ∀ (F H : Hp), Ext F1 F → Ext F H → J.stop xs.length H
def tIv (T : List (Addr × Str)) (K : PySem.W.Frag) (ss : SS) (xs : List D) : TI := fun σ H R => ∃ B F, StR T K B F H σ ss ∧ ∀ J F1 H1, Nx T F H F1 H1 → StR T K B F1 H1 σ ss → Yl T K J F1 xs → R J H1
def IV (T : List (Addr × Str)) (X : Cx) (tg e : Expr) (ss : SS) (xs : List D) : Prop := PI X tg e (tIv T X.K ss xs)
section
variable {T : List (Addr × Str)} {X : Cx} {ss : SS} {tg e : Expr} {xs : List D} {d : D}
theorem PI.imp {t t' : TI} (h : PI X tg e t) (k : ∀ σ H R, t' σ H R → t σ H R) : PI X tg e t' := ⟨fun pins s σ H R I q => h.run pins s σ H R I (k σ H R q)⟩
theorem IV.of {t : TI} (h : PI X tg e t) (k : ∀ B F H σ R, StR T X.K B F H σ ss → (∀ J F1 H1, Nx T F H F1 H1 → StR T X.K B F1 H1 σ ss → Yl T X.K J F1 xs → R J H1) → t σ H R) : IV T X tg e ss xs :=
  PI.imp h fun σ H R ⟨B, F, R0, q⟩ => k B F H σ R R0 q
theorem iv_list (he : EV T X e ss (.lst xs)) : IV T X tg e ss xs := IV.of (pi_list he) fun B F H σ R R0 q => ev_go R0 fun v F1 H1 n1 R1 i1 => by
  obtain ⟨a, vs, rfl, e2, e3⟩ := i1
  refine ⟨a, rfl, ⟨vs, SqL.of (R1.sub _ _ e2)⟩, q _ F1 H1 n1 R1 ⟨fun i F H x1 x2 hi => ?_, fun F H x1 x2 => ⟨vs, SqL.of (x2 _ _ (x1 _ _ e2)), by rw [e3.length]; exact Nat.le_refl _⟩⟩⟩
  obtain ⟨v, hv, iv⟩ := IsL.get' e3 (List.getElem?_eq_getElem hi)
  refine ⟨⟨vs, v, SqL.of (x2 _ _ (x1 _ _ e2)), hv⟩, fun x H' y => ?_⟩
  obtain ⟨rfl, y⟩ := y
  have := y vs (SqL.of (x2 _ _ (x1 _ _ e2)))
  rw [hv] at this
  cases this
  exact ⟨F, _, Nx.refl x2, List.getElem?_eq_getElem hi, Is.mono x1 _ iv⟩
theorem iv_rdl (he : EV T X e ss (.rdl xs)) : IV T X tg e ss xs := IV.of (pi_list he) fun B F H σ R R0 q => ev_go R0 fun v F1 H1 n1 R1 i1 => by
  obtain ⟨a, vs, rfl, e2, e3⟩ := i1
  refine ⟨a, rfl, ⟨vs, ext_seqL R1.sub e2⟩, q _ F1 H1 n1 R1 ⟨fun i F H x1 x2 hi => ?_, fun F H x1 x2 => ⟨vs, ext_seqL (x1.trans x2) e2, by rw [e3.length]; exact Nat.le_refl _⟩⟩⟩
  obtain ⟨v, hv, iv⟩ := IsL.get' e3 (List.getElem?_eq_getElem hi)
  refine ⟨⟨vs, v, ext_seqL (x1.trans x2) e2, hv⟩, fun x H' y => ?_⟩
  obtain ⟨rfl, y⟩ := y
  have := y vs (ext_seqL (x1.trans x2) e2)
  rw [hv] at this
  cases this
  exact ⟨F, _, Nx.refl x2, List.getElem?_eq_getElem hi, Is.mono x1 _ iv⟩
theorem iv_tup (he : EV T X e ss (.tup xs)) : IV T X tg e ss xs := IV.of (pi_tup he) fun B F H σ R R0 q => ev_go R0 fun v F1 H1 n1 R1 i1 => by
  obtain ⟨a, vs, rfl, e2, e3⟩ := i1
  refine ⟨a, rfl, ⟨vs, ext_seqT R1.sub e2⟩, q _ F1 H1 n1 R1 ⟨fun i F H x1 x2 hi => ?_, fun F H x1 x2 => ⟨vs, ext_seqT (x1.trans x2) e2, by rw [e3.length]; exact Nat.le_refl _⟩⟩⟩
  obtain ⟨v, hv, iv⟩ := IsL.get' e3 (List.getElem?_eq_getElem hi)
  refine ⟨⟨vs, v, ext_seqT (x1.trans x2) e2, hv⟩, fun x H' y => ?_⟩
  obtain ⟨rfl, y⟩ := y
  have := y vs (ext_seqT (x1.trans x2) e2)
  rw [hv] at this
  cases this
  exact ⟨F, _, Nx.refl x2, List.getElem?_eq_getElem hi, Is.mono x1 _ iv⟩
/-- lo, lo + 1, .. -/
def rng (lo : Int) (n : Nat) : List D := (List.range n).map fun (i : Nat) => D.int (lo + (i : Int))
theorem rng_len (lo : Int) (n : Nat) : (rng lo n).length = n := by simp [rng]
theorem rng_get {lo : Int} {n i : Nat} (h : i < n) : (rng lo n)[i]? = some (.int (lo + (i : Int))) := by
  unfold rng
  rw [List.getElem?_map, List.getElem?_range h]
  rfl
theorem yl_range (K : PySem.W.Frag) (F1 : Hp) (lo : Int) (n : Nat) : Yl T K (Itr lo n) F1 (rng lo n) := by
  refine ⟨fun i F H x1 x2 hi => ?_, fun F H x1 x2 => by show n ≤ _; rw [rng_len]; exact Nat.le_refl _⟩
  rw [rng_len] at hi
  refine ⟨hi, fun x H' y => ?_⟩
  obtain ⟨rfl, rfl⟩ := y
  exact ⟨F, _, Nx.refl x2, rng_get hi, rfl⟩
theorem iv_range1 {a : Expr} {n : Int} {p pos : Pos} (ha : EV T X a ss (.int n)) (hb : -(2 ^ 62) ≤ n ∧ n < 2 ^ 62) (hm : X.mg "range" = none) (hg : Gl X "range" := by rfl) (hs : starEach [a] X.env = [(false, eval a X.env)] := by rfl) :
    IV T X tg (.Call (.Name "range" p) [a] [] pos) ss (rng 0 n.toNat) :=
  IV.of (pi_range1 hg hm (pa_cons ha pa_nil hs) hs) fun B F H σ R R0 q => ev_go R0 fun v F1 H1 n1 R1 i1 => ⟨n, by cases i1; rfl, hb.1, hb.2, q _ F1 H1 n1 R1 (yl_range _ _ _ _)⟩
theorem iv_range2 {a b : Expr} {m n : Int} {p pos : Pos} (ha : EV T X a ss (.int m)) (hb' : EV T X b ss (.int n)) (hb : -(2 ^ 62) ≤ m ∧ m < 2 ^ 62 ∧ -(2 ^ 62) ≤ n ∧ n < 2 ^ 62) (hm : X.mg "range" = none) (hg : Gl X "range" := by rfl)
    (hs : starEach [a, b] X.env = [(false, eval a X.env), (false, eval b X.env)] := by rfl) (hs2 : starEach [b] X.env = [(false, eval b X.env)] := by rfl) :
    IV T X tg (.Call (.Name "range" p) [a, b] [] pos) ss (rng m (n - m).toNat) :=
  IV.of (pi_range2 hg hm (pa_cons ha (pa_cons hb' pa_nil hs2) (by rw [hs, hs2])) hs hs2) fun B F H σ R R0 q => ev_go R0 fun v F1 H1 n1 R1 i1 => ev_go R1 fun u F2 H2 n2 R2 i2 =>
    ⟨m, n, by cases i1; cases i2; rfl, hb, q _ F2 H2 (n1.trans n2) R2 (yl_range _ _ _ _)⟩
/-- a text's signs -/
def signs (x : Str) : List D := x.cps.toList.map fun c => .str ⟨#[c]⟩
theorem iv_str {x : Str} (he : EV T X e ss (.str x)) : IV T X tg e ss (signs x) := IV.of (pi_str he) fun B F H σ R R0 q => ev_go R0 fun v F1 H1 n1 R1 i1 => by
  refine ⟨x, i1, q _ F1 H1 n1 R1 ⟨fun i F H x1 x2 hi => ?_, fun F H x1 x2 => by show _ ≤ _; simp [signs]⟩⟩
  have hi' : i < x.cps.size := by simpa [signs] using hi
  refine ⟨hi', fun y H' z => ?_⟩
  obtain ⟨rfl, c, hc, rfl⟩ := z
  refine ⟨F, .str ⟨#[c]⟩, Nx.refl x2, ?_, rfl⟩
  unfold signs
  rw [List.getElem?_map, Array.getElem?_toList, hc]
  rfl
/-! ### targets -/
inductive Tg where
  | one (j : Nat)
  | many (js : List Nat)
def gNames : List Nat → TGs
  | [] => gNil
  | j :: js => gCons (gName j) (gNames js)
def gOf (K : PySem.W.Frag) : Tg → TG
  | .one j => gName j
  | .many js => gTup K js.length (gNames js)
def putMany : List Nat → List D → SS → SS
  | j :: js, x :: xs, ss => putMany js xs (ss.set j (.d x))
  | _, _, ss => ss
def Tg.put : Tg → D → SS → SS
  | .one j, x, ss => ss.set j (.d x)
  | .many js, .tup xs, ss => putMany js xs ss
  | _, _, ss => ss
def Tg.fits : Tg → D → Bool
  | .one _, _ => true
  | .many js, .tup xs => js.length == xs.length
  | _, _ => false
def Tg.slots : Tg → List Nat
  | .one j => [j]
  | .many js => js
end
section
theorem wipe_get (σ : L2.St) (i : Nat) : ∀ vs : List Nat, (wipe σ vs)[i]? = if i ∈ vs then (σ[i]?).map fun _ => none else σ[i]?
  | [] => by simp [wipe]
  | v :: vs => by
    have ih := wipe_get σ i vs
    unfold wipe
    by_cases e : v = i
    · subst e
      rw [if_pos List.mem_cons_self]
      by_cases h : v < (wipe σ vs).length
      · rw [List.getElem?_set_self h]
        rw [wipe_length] at h
        rw [List.getElem?_eq_getElem h]
        rfl
      · rw [List.getElem?_eq_none (by simpa using h)]
        rw [wipe_length] at h
        rw [List.getElem?_eq_none (by omega)]
        rfl
    · rw [List.getElem?_set_ne e, ih]
      by_cases h : i ∈ vs
      · rw [if_pos h, if_pos (List.mem_cons_of_mem _ h)]
      · rw [if_neg h, if_neg (by simp only [List.mem_cons, not_or]; exact ⟨fun z => e z.symm, h⟩)]
theorem wipe_set {σ : L2.St} {vs : List Nat} {j : Nat} {o : Option V} (h : j ∈ vs) : wipe (σ.set j o) vs = wipe σ vs := by
  apply List.ext_getElem?
  intro i
  rw [wipe_get, wipe_get]
  by_cases e : j = i
  · subst e
    rw [if_pos h, if_pos h]
    by_cases hl : j < σ.length
    · rw [List.getElem?_set_self hl, List.getElem?_eq_getElem hl]; rfl
    · rw [List.getElem?_eq_none (by simpa using hl), List.getElem?_eq_none (by simpa using hl)]
  · rw [List.getElem?_set_ne e]
theorem wipe_wipe {σ : L2.St} {vs : List Nat} : wipe (wipe σ vs) vs = wipe σ vs := by
  apply List.ext_getElem?
  intro i
  rw [wipe_get, wipe_get]
  split
  · rename_i h
    cases σ[i]? <;> rfl
  · rfl
/-- the same of what is known -/
def wipeS (ss : SS) : List Nat → SS
  | [] => ss
  | v :: vs => (wipeS ss vs).set v .no
variable {T : List (Addr × Str)} {K : PySem.W.Frag} {B : Hp × Hp} {F H F1 H1 F2 H2 : Hp} {σ : L2.St} {ss : SS}
theorem StR.wipe (R : StR T K B F H σ ss) : ∀ vs : List Nat, StR T K B F H (L2.wipe σ vs) (wipeS ss vs)
  | [] => R
  | v :: vs => (StR.wipe R vs).forget
theorem names_go : ∀ {js : List Nat} {xs : List D} {vs : List V} {σ : L2.St} {ss : SS} {Q : L2.St → Hp → Prop} {ws : List Nat}, StR T K B F H σ ss → IsL K F xs vs → js.length = xs.length → (∀ j ∈ js, j ∈ ws ∨ ws = []) →
    (∀ σ', StR T K B F H σ' (putMany js xs ss) → (ws ≠ [] → L2.wipe σ' ws = L2.wipe σ ws) → Q σ' H) → gNames js vs σ H Q
  | [], [], _, σ, ss, Q, ws, R, h, _, _, k => by
    cases (show _ = _ from h)
    exact ⟨rfl, k σ R fun _ => rfl⟩
  | j :: js, x :: xs, _, σ, ss, Q, ws, R, h, hl, hw, k => by
    obtain ⟨v, r, rfl, h1, h2⟩ := h
    refine ⟨v, r, rfl, ?_⟩
    show gNames js r (σ.set j (some v)) H Q
    refine names_go (ws := ws) (R.put h1) h2 (by simpa using hl) (fun i hi => hw i (List.mem_cons_of_mem _ hi)) fun σ' R' e => k σ' R' fun hne => ?_
    rw [e hne]
    rcases hw j List.mem_cons_self with q | q
    · exact wipe_set q
    · exact absurd q hne
theorem tg_go {t : Tg} {d : D} {v : V} {Q : L2.St → Hp → Prop} {ws : List Nat} (R : StR T K B F H σ ss) (h : Is K F d v) (hf : t.fits d = true) (hw : ∀ j ∈ t.slots, j ∈ ws ∨ ws = []) (k : ∀ σ', StR T K B F H σ' (t.put d ss) → (ws ≠ [] → L2.wipe σ' ws = L2.wipe σ ws) → Q σ' H) : gOf K t v σ H Q := by
  cases t with
  | one j => exact k _ (R.put h) fun hne => (hw j List.mem_cons_self).elim (fun q => wipe_set q) fun q => absurd q hne
  | many js =>
    cases d with
    | tup xs =>
      obtain ⟨a, vs, rfl, e1, e2⟩ := h
      have hl : js.length = xs.length := by simpa [Tg.fits] using hf
      exact ⟨a, vs, rfl, ext_seqT R.sub e1, by rw [e2.length, hl], names_go R e2 hl hw k⟩
    | _ => cases hf
end
/-! ### loops -/
section
variable {T : List (Addr × Str)} {X : Cx} {ss : SS} {P : Post} {tg e c : Expr} {body : List Stmt} {xs : List D} {d : D} {pos : Pos}
theorem sv_for (t : Tg) (I : Nat → SS → Prop) (hi : IV T X tg e ss xs) (hg : PG X tg (gOf X.K t)) (h0 : I 0 ss)
    (hs : ∀ i x ss', xs[i]? = some x → I i ss' → t.fits x = true ∧ SVs T X body (t.put x ss') ⟨I (i + 1), P.rt, P.nx, I (i + 1)⟩)
    (hd : ∀ ss', I xs.length ss' → P.nx ss') (hp : PassesOwn (model X.prog X.w) X.A X.env X.xe := by exact PassesOwn.never) (hc : X.calm = true := by rfl) (hf : ∀ x, foldedSetIterable e X.env x = pure x := by intro _; rfl) : SV T X (.For tg e body [] pos) ss P := by
  refine SV.of (ps_for hp hc hi hg (pss_all (T := T) (sts := body)) hf) fun B F H σ Dn R g => ⟨B, F, R, fun J F1 H1 n1 R1 Y => ?_⟩
  refine ⟨fun i m σ' H' => m = xs.length - i ∧ i ≤ xs.length ∧ ∃ F' ss', StR T X.K (F1, B.2) F' H' σ' ss' ∧ I i ss', ⟨xs.length, by simp, Nat.zero_le _, F1, ss, R1.rebase, h0⟩, ?_⟩
  rintro i m σ' H' ⟨rfl, hi', F', ss', R', hI⟩
  by_cases hlt : i < xs.length
  · obtain ⟨go, yl⟩ := Y.item i F' H' R'.bF R'.sub hlt
    refine .inr ⟨go, fun σ2 H2 => ∃ F2 ss2, StR T X.K (F1, B.2) F2 H2 σ2 ss2 ∧ I (i + 1) ss2, fun σ2 H2 ⟨F2, ss2, R2, h2⟩ => ⟨xs.length - (i + 1), by omega, rfl, hlt, F2, ss2, R2, h2⟩, fun v H2 y => ?_⟩
    obtain ⟨F2, x, n2, hx, ix⟩ := yl v H2 y
    obtain ⟨hfit, hbody⟩ := hs i x ss' hx hI
    refine tg_go (ws := []) (R'.grow n2) ix hfit (fun j _ => .inr rfl) fun σ3 R3 _ => ?_
    exact sv_go hbody R3 ⟨fun ss4 σ4 F4 H4 q R4 => ⟨F4, ss4, R4, q⟩, fun d v ss4 σ4 F4 H4 q R4 i4 => g.rt d v ss4 σ4 F4 H4 q (R1.unbase R4) i4, fun ss4 σ4 F4 H4 q R4 => g.nx ss4 σ4 F4 H4 q (R1.unbase R4), fun ss4 σ4 F4 H4 q R4 => ⟨F4, ss4, R4, q⟩⟩
  · have e : i = xs.length := by omega
    subst e
    exact .inl ⟨Y.stop F' H' R'.bF R'.sub, g.nx ss' σ' F' H' (hd ss' hI) (R1.unbase R')⟩
theorem sv_while (I : SS → Prop) (μ : SS → Nat) (h0 : I ss) (hs : ∀ ss', I ss' → ∃ b, TV T X c ss' b ∧ (b = true → SVs T X body ss' ⟨fun s2 => I s2 ∧ μ s2 < μ ss', P.rt, P.nx, fun s2 => I s2 ∧ μ s2 < μ ss'⟩) ∧ (b = false → P.nx ss'))
    (hp : PassesOwn (model X.prog X.w) X.A X.env X.xe := by exact PassesOwn.never) : SV T X (.While c body [] pos) ss P := by
  have hc : PT X c (tTv T X.K fun ss' b => TV T X c ss' b) := pt_fam fun ss' b h => h
  refine SV.of (ps_while hp hc (pss_all (T := T) (sts := body))) fun B F H σ Dn R g => ⟨fun m σ' H' => ∃ F' ss', StR T X.K B F' H' σ' ss' ∧ I ss' ∧ m = μ ss', ⟨_, F, ss, R, h0, rfl⟩, ?_⟩
  rintro m σ' H' ⟨F', ss', R', hI, rfl⟩
  obtain ⟨b, tv, ht, hf⟩ := hs ss' hI
  refine ⟨B, F', ss', b, tv, R', fun F1 H1 n1 R1 => ?_⟩
  cases b with
  | true =>
    refine iteT ⟨fun σ2 H2 => ∃ F2 ss2, StR T X.K B F2 H2 σ2 ss2 ∧ I ss2 ∧ μ ss2 < μ ss', fun σ2 H2 ⟨F2, ss2, R2, h2, l2⟩ => ⟨μ ss2, l2, F2, ss2, R2, h2, rfl⟩, ?_⟩
    exact sv_go (ht rfl) R1 ⟨fun ss4 σ4 F4 H4 q R4 => ⟨F4, ss4, R4, q⟩, g.rt, g.nx, fun ss4 σ4 F4 H4 q R4 => ⟨F4, ss4, R4, q⟩⟩
  | false => exact iteF (g.nx _ _ _ _ (hf rfl) R1)
end
/-! ### comprehensions -/
section
variable {T : List (Addr × Str)} {X : Cx} {ss : SS} {tg e elt : Expr} {ifs : List Expr} {xs : List D} {pos : Pos}
def TsV (T : List (Addr × Str)) (X : Cx) (ifs : List Expr) (ss : SS) (b : Bool) : Prop := PTs X ifs (tTv T X.K fun ss' b' => ss' = ss ∧ b' = b)
theorem PTs.imp {t t' : TT} (h : PTs X ifs t) (k : ∀ σ H Q, t' σ H Q → t σ H Q) : PTs X ifs t' := ⟨fun pins s σ H Q I q => h.run pins s σ H Q I (k σ H Q q)⟩
theorem ts_nil : TsV T X [] ss true := PTs.imp pts_nil fun σ H Q ⟨B, F, ss', b', ⟨e1, e2⟩, R, q⟩ => by subst e1; subst e2; exact q F H R.nx R
theorem ts_one {c : Expr} {b : Bool} (h : TV T X c ss b) : TsV T X [c] ss b := pts_one h
theorem pts_fam {Rl : SS → Bool → Prop} (h : ∀ ss d, Rl ss d → TsV T X ifs ss d) : PTs X ifs (tTv T X.K Rl) := ⟨fun pins s σ H Q I q => by
  obtain ⟨B, F, ss, d, r, R, k⟩ := q
  exact (h ss d r).run pins s σ H Q I ⟨B, F, ss, d, ⟨rfl, rfl⟩, R, k⟩⟩
/-- what the block's items give: keep x, then f x -/
def outs (keep : D → Bool) (f : D → D) (xs : List D) : List D := (xs.filter keep).map f
theorem outs_take {keep : D → Bool} {f : D → D} {xs : List D} {i : Nat} {x : D} (h : xs[i]? = some x) : outs keep f (xs.take (i + 1)) = if keep x = true then outs keep f (xs.take i) ++ [f x] else outs keep f (xs.take i) := by
  have e : xs.take (i + 1) = xs.take i ++ [x] := by
    rw [List.take_succ, h]; rfl
  unfold outs
  rw [e, List.filter_append, List.map_append]
  by_cases hk : keep x = true
  · rw [if_pos hk, List.filter_cons, if_pos hk]; rfl
  · rw [if_neg hk, List.filter_cons, if_neg hk]
    simp
theorem outs_len (keep : D → Bool) (f : D → D) (xs : List D) : (outs keep f xs).length ≤ xs.length := by
  unfold outs
  rw [List.length_map]
  exact List.length_filter_le _ _
/-- the reading's proof, for the value and for the store -/
theorem lc_go {K : PySem.W.Frag} {B : Hp × Hp} {F H : Hp} {σ : L2.St} {vs : List Nat} {t : Tg} {keep : D → Bool} {f : D → D} {Q : VK} (hv : vs ≠ []) (ht : ∀ j ∈ t.slots, j ∈ vs) (hfit : ∀ x ∈ xs, t.fits x = true) (hlen : xs.length ≤ 100000) (R : StR T K B F H σ ss)
    (q : ∀ D vs' F1 H1, Nx T F H F1 H1 → StR T K B F1 H1 σ ss → F1 D = none → Fr B.2 D → Fr H D → H1 D = some (.lst vs') → IsL K F1 (outs keep f xs) vs' → Q (.ref D) H1) :
    tLc (tIv T K ss xs) (gOf K t) (tTv T K fun ss' b => ∃ x ∈ xs, ss' = t.put x (wipeS ss vs) ∧ b = keep x) (tEv T K fun ss' d => ∃ x ∈ xs, keep x = true ∧ ss' = t.put x (wipeS ss vs) ∧ d = f x) vs σ H Q := by
  refine ⟨B, F, R, fun J F1 H1 n1 R1 Y D hD => ?_⟩
  have HD : Fr H D := n1.h.ff hD
  refine ⟨fun i m H' => m = xs.length - i ∧ i ≤ xs.length ∧ ∃ F' acc, Nx T F1 H1 F' H' ∧ F' D = none ∧ H' D = some (.lst acc) ∧ IsL K F' (outs keep f (xs.take i)) acc, ⟨xs.length, by simp, Nat.zero_le _, F1, [], Nx.allocH R1.sub hD, R1.free hD, upd_same, by simp [outs]; exact rfl⟩, ?_⟩
  rintro i m H' ⟨rfl, hi', F', acc, n2, fD, eD, hacc⟩
  by_cases hlt : i < xs.length
  · obtain ⟨go, yl⟩ := Y.item i F' H' n2.f n2.s hlt
    refine .inr ⟨go, fun H2 => ∃ F2 acc', Nx T F1 H1 F2 H2 ∧ F2 D = none ∧ H2 D = some (.lst acc') ∧ IsL K F2 (outs keep f (xs.take (i + 1))) acc', fun H2 ⟨F2, acc', h⟩ => ⟨xs.length - (i + 1), by omega, rfl, hlt, F2, acc', h⟩, fun v H2 y => ?_⟩
    obtain ⟨F2, x, n3, hx, ix⟩ := yl v H2 y
    have hmem : x ∈ xs := List.mem_of_getElem? hx
    have noD : ∀ {Fa Ha Fb Hb : Hp}, Nx T Fa Ha Fb Hb → Fa D = none → ∀ {o : HO}, Ha D = some o → (∀ ps, o ≠ .tbl ps) → Fb D = none := fun {Fa Ha Fb Hb} n e1 o e2 e3 => by
      cases e : Fb D with
      | none => rfl
      | some u =>
        rcases n.n D u e with z | z
        · exact absurd e1 z
        · exact z.no e2 e3
    have fD2 : F2 D = none := noD n3 fD eD (fun _ z => nomatch z)
    have n12 := n2.trans n3
    have eD2 := n3.h.k _ _ eD (fun _ z => nomatch z)
    have R2 : StR T K B F2 H2 (L2.wipe σ vs) (wipeS ss vs) := (R1.wipe vs).grow n12
    refine tg_go (ws := vs) R2 ix (hfit x hmem) (fun j hj => .inl (ht j hj)) fun σ3 R3 hw => ⟨by rw [hw hv, wipe_wipe], ?_⟩
    refine ⟨B, F2, _, keep x, ⟨x, hmem, rfl, rfl⟩, R3, fun F3 H3 n4 R4 => ?_⟩
    have fD3 : F3 D = none := noD n4 fD2 eD2 (fun _ z => nomatch z)
    have eD3 := n4.h.k _ _ eD2 (fun _ z => nomatch z)
    have n13 := n12.trans n4
    have hacc3 := IsL.mono (n3.f.trans n4.f) _ hacc
    cases hk : keep x with
    | true =>
      refine iteT ⟨B, F3, _, f x, ⟨x, hmem, hk, rfl, rfl⟩, R4, fun w F4 H4 n5 R5 i5 => ?_⟩
      have fD4 : F4 D = none := noD n5 fD3 eD3 (fun _ z => nomatch z)
      have n14 := n13.trans n5
      refine ⟨acc, n5.h.k _ _ eD3 (fun _ z => nomatch z), ?_, F4, acc ++ [w], ⟨n14.f, ⟨fun p o e nn => ?_, fun t => tabs_upd (n14.h.t t) fun o' e z => ?_⟩, fun p o e => ?_, n14.nt, fun p o e => n14.n p o e⟩, fD4, upd_same, ?_⟩
      · have := hacc.length
        have h2 := outs_len keep f (xs.take i)
        rw [List.length_take] at h2
        rw [sizeLine_eq]; omega
      · rw [upd_ne (ne_of_none e hD)]; exact n14.h.k p o e nn
      · rw [n5.h.k _ _ eD3 (fun _ z => nomatch z)] at e
        cases e
        rcases z with ⟨_, z⟩ | ⟨_, _, z⟩ <;> cases z
      · rw [upd_ne (ne_of_none e fD4)]; exact n14.s p o e
      · rw [outs_take hx, if_pos hk]
        exact (IsL.mono n5.f _ hacc3).snoc i5
    | false =>
      refine iteF ⟨F3, acc, n13, fD3, eD3, ?_⟩
      rw [outs_take hx, if_neg (by rw [hk]; decide)]
      exact hacc3
  · have e : i = xs.length := by omega
    subst e
    refine .inl ⟨Y.stop F' H' n2.f n2.s, q D acc F' H' (n1.trans n2) (R1.grow n2) fD ?_ HD eD ?_⟩
    · exact R.base_fr HD
    · rw [List.take_length] at hacc
      exact hacc
theorem Nx.told {F H F1 H1 : Hp} {D : Addr} {o : HO} (n : Nx T F H F1 H1) (h1 : F1 D = none) (h2 : Fr H D) (h3 : H1 D = some o) (ho : ∀ ps, o ≠ .tbl ps := by intro ps z; cases z) : Nx T F H (upd F1 D o) H1 where
  f := n.f.trans (Ext.upd h1)
  h := n.h
  s := fun p u e => by
    by_cases q : p = D
    · subst q; rw [upd_same] at e; rw [h3]; exact e
    · rw [upd_ne q] at e; exact n.s p u e
  nt := fun p ps e => by
    by_cases q : p = D
    · subst q; rw [upd_same] at e; exact absurd (Option.some.inj e) (ho ps)
    · rw [upd_ne q] at e; exact n.nt p ps e
  n := fun p u e => by
    by_cases q : p = D
    · subst q; exact .inr h2
    · rw [upd_ne q] at e; exact n.n p u e
/-- [elt for target in iter if ..] -/
theorem ev_lc {scope : Scope} (own : List (Str × Nat)) (t : Tg) (keep : D → Bool) (f : D → D) (hi : IV T X tg e ss xs) (ok : BlkOk X.N X.env.scope scope own)
    (hg : ∀ (s : Shared) (H : Hp) (C : Addr) (cl : List (Str × Addr)) (fp : List Addr), PG (X.blk s H scope (compEnvC scope cl C X.env) fp) tg (gOf X.K t))
    (ht : ∀ (s : Shared) (H : Hp) (C : Addr) (cl : List (Str × Addr)) (fp : List Addr) x, x ∈ xs → TsV T (X.blk s H scope (compEnvC scope cl C X.env) fp) ifs (t.put x (wipeS ss (own.map (·.2)))) (keep x))
    (he : ∀ (s : Shared) (H : Hp) (C : Addr) (cl : List (Str × Addr)) (fp : List Addr) x, x ∈ xs → keep x = true → EV T (X.blk s H scope (compEnvC scope cl C X.env) fp) elt (t.put x (wipeS ss (own.map (·.2)))) (f x))
    (hN : X.N.Nodup) (hfit : ∀ x ∈ xs, t.fits x = true) (hlen : xs.length ≤ 100000) (hv : own.map (·.2) ≠ [] := by decide) (hsl : ∀ j ∈ t.slots, j ∈ own.map (·.2) := by decide) (hc : X.calm = true := by rfl) (hs : ∀ x, foldedSetIterable e X.env x = pure x := by intro _; rfl) :
    EV T X (.ListComp elt [⟨tg, e, ifs, 0⟩] scope pos) ss (.lst (outs keep f xs)) := by
  refine EV.of (pe_lc (tt := tTv T X.K fun ss' b => ∃ x ∈ xs, ss' = t.put x (wipeS ss (own.map (·.2))) ∧ b = keep x) (te := tEv T X.K fun ss' d => ∃ x ∈ xs, keep x = true ∧ ss' = t.put x (wipeS ss (own.map (·.2))) ∧ d = f x) hc hN hi ok hg (fun s H C cl fp => pts_fam (X := X.blk s H scope (compEnvC scope cl C X.env) fp) (Rl := fun ss' b => ∃ x ∈ xs, ss' = t.put x (wipeS ss (own.map (·.2))) ∧ b = keep x) fun ss' b ⟨x, hx, e1, e2⟩ => by rw [e1, e2]; exact ht s H C cl fp x hx)
    (fun s H C cl fp => pe_fam (X := X.blk s H scope (compEnvC scope cl C X.env) fp) (Rl := fun ss' d => ∃ x ∈ xs, keep x = true ∧ ss' = t.put x (wipeS ss (own.map (·.2))) ∧ d = f x) fun ss' d ⟨x, hx, hk, e1, e2⟩ => by rw [e1, e2]; exact he s H C cl fp x hx hk) hs) fun B F H σ Q R q => ?_
  exact lc_go hv hsl hfit hlen R fun D vs' F1 H1 n1 R1 f1 b1 h1 d1 i1 => by
    have n2 := n1.told f1 h1 d1
    exact q _ _ H1 n2 (R.grow n2) ⟨D, vs', rfl, upd_same, IsL.mono (Ext.upd f1) _ i1⟩
end
end Fd

set_option Elab.async false
set_option linter.all false
set_option maxRecDepth 100000
set_option maxHeartbeats 2000000
/-! Fd4: defs by what they make of data; objects; built-in functions. -/
namespace Fd
open PySem PySem.Spec PyProof.Rows L2
/-! ### defs -/
/-- a def that hands back, of the data ds, the datum d, wherever pre ds d -/
def spD (T : List (Addr × Str)) (K : PySem.W.Frag) (n : Nat) (pre : List D → D → Prop) : Sp := fun vs H Q _ => ∃ F ds d, Ext F H ∧ (∀ p ps, F p ≠ some (.tbl ps)) ∧ LamX.Tabs T H ∧ IsL K F ds vs ∧ ds.length = n ∧ pre ds d ∧ ∀ v F1 H1, Nx T F H F1 H1 → Is K F1 d v → Q v H1
/-- the def under the module's name x (level k, n parameters) -/
def FD (T : List (Addr × Str)) (P : Program) (w : World) (K : PySem.W.Frag) (mg : Str → Option Value) (base : Heap) (x : Str) (n k : Nat) (pre : List D → D → Prop) : Prop :=
  ∃ f fd ps, mg x = some (.ref f) ∧ PySem.W.keepIn K (.ref f) = true ∧ Binds K fd ps [] ∧ ps.length = n ∧ FnOk P w K mg base CX0 k f fd ps (spD T K n pre)
def startS (N : List Str) (ds : List D) : SS := ds.map S.d ++ List.replicate (N.length - ds.length) S.no
abbrev bodyX (CX : CXT) (P : Program) (w : World) (K : PySem.W.Frag) (mg : Str → Option Value) (base : Heap) (N : List Str) (qual : Str) (st : Stmt) (f : Addr) (cdv : Value) (A : Around) (outer : List Env) (s : Shared) (H : Hp) (E : XK) : Cx :=
  (cxOf CX P w K mg base N qual (defScope st) f cdv A outer s H E).nox
section
variable {T : List (Addr × Str)} {P : Program} {w : World} {K : PySem.W.Frag} {mg : Str → Option Value} {base : Heap}
theorem start_slots {N : List Str} {F H : Hp} : ∀ {ds : List D} {vs : List V} (m : Nat) (i : Nat) (s : S) (o : Option V), IsL K F ds vs → (ds.map S.d ++ List.replicate m S.no)[i]? = some s → (vs.map some ++ List.replicate m none)[i]? = some o → SlotIs K F H s o
  | [], _, m, i, s, o, h, e1, e2 => by
    cases (show _ = _ from h)
    simp only [List.map_nil, List.nil_append] at e1 e2
    have : s = S.no := by
      rw [List.getElem?_replicate] at e1
      split at e1 <;> simp at e1
      exact e1.symm
    subst this
    exact True.intro
  | x :: xs, _, m, 0, s, o, h, e1, e2 => by
    obtain ⟨v, r, rfl, h1, _⟩ := h
    simp at e1 e2
    subst e1; subst e2
    exact ⟨v, rfl, h1⟩
  | x :: xs, _, m, i + 1, s, o, h, e1, e2 => by
    obtain ⟨v, r, rfl, _, h⟩ := h
    simp only [List.map_cons, List.cons_append, List.getElem?_cons_succ] at e1 e2
    exact start_slots (N := N) m i s o h e1 e2
theorem start_mine {ds : List D} {m i : Nat} {s : S} (h : (ds.map S.d ++ List.replicate m S.no)[i]? = some s) : s.mine = false := by
  have := List.mem_of_getElem? h
  rcases List.mem_append.mp this with q | q
  · obtain ⟨x, _, rfl⟩ := List.mem_map.mp q; rfl
  · rw [(List.mem_replicate.mp q).2]; rfl
theorem start_str {N : List Str} {F H : Hp} {ds : List D} {vs : List V} (x : Ext F H) (nt : ∀ p ps, F p ≠ some (.tbl ps)) (tb : LamX.Tabs T H) (h : IsL K F ds vs) : StR T K (F, H) F H (L2.start N vs) (startS N ds) where
  len := by unfold L2.start startS; simp [h.length]
  bF := fun _ _ h => h
  bH := .refl H
  sub := x
  nt := nt
  tb := tb
  new := fun p o e => .inl (by show F p ≠ none; rw [e]; exact fun z => nomatch z)
  slots := fun i s o e1 e2 => by
    unfold L2.start at e2
    unfold startS at e1
    rw [h.length] at e2
    exact start_slots (N := N) _ i s o h e1 e2
  own := fun i s p e1 m _ => by
    unfold startS at e1
    rw [start_mine e1] at m; cases m
  dis := fun i j s t p e1 _ m _ _ _ => by
    unfold startS at e1
    rw [start_mine e1] at m; cases m
theorem StR.back {B : Hp × Hp} {F H : Hp} {σ : L2.St} {ss : SS} (R : StR T K B F H σ ss) : Nx T B.1 B.2 F H := ⟨R.bF, R.bH, R.sub, fun p ps e => absurd e (R.nt p ps), fun p o e => R.new p o e⟩
/-- THE RULE for a def -/
theorem fd_ok {x qual : Str} {st : Stmt} {f : Addr} {fd : FuncData} {N ps : List Str} {k n : Nat} {pre : List D → D → Prop} (F : Fun K x qual st f fd) (S : FnScope N ps (defScope st)) (hn : ps.length = n)
    (h : ∀ (cdv : Value) (A : Around) (outer : List Env) (s : Shared) (H : Hp) (E : XK) (ds : List D) (d : D), Room k (A.deeper (envOfC qual (defScope st) s.heap.objs.size f cdv)) → ds.length = n → pre ds d →
      SVs T (bodyX CX0 P w K mg base N qual st f cdv A outer s H E) (defBody st) (startS N ds) { nx := fun _ => d = .non, rt := fun d' => d' = d }) : FnOk P w K mg base CX0 (k + 1) f fd ps (spD T K n pre) := by
  refine F.ok S (fun vs H Q E ⟨F, ds, d, _, _, _, i, l, _⟩ => by rw [i.length, l, hn]) (fun cdv A outer s H vs Q E hr hsp => ?_)
  obtain ⟨F0, ds, d, x, nt, tb, i, l, p, q⟩ := hsp
  refine ⟨_, h cdv A outer s H E ds d hr l p, (F0, H), F0, _, _, ⟨rfl, rfl⟩, start_str x nt tb i, fun ss' σ' F1 H1 e R1 => ?_, fun d' v ss' σ' F1 H1 e R1 i1 => ?_, fun _ _ _ _ z => z.elim, fun _ _ _ _ z => z.elim⟩
  · subst e
    exact q .non F1 H1 R1.back rfl
  · subst e
    exact q v F1 H1 R1.back i1
theorem FD.mk {x : Str} {f : Addr} {fd : FuncData} {ps : List Str} {n k : Nat} {pre : List D → D → Prop} (h1 : mg x = some (.ref f)) (h2 : PySem.W.keepIn K (.ref f) = true) (h3 : Binds K fd ps []) (h4 : ps.length = n) (h5 : FnOk P w K mg base CX0 k f fd ps (spD T K n pre)) : FD T P w K mg base x n k pre :=
  ⟨f, fd, ps, h1, h2, h3, h4, h5⟩
end
section
variable {T : List (Addr × Str)} {X : Cx} {ss : SS} {e a b c o : Expr} {es : List Expr} {d : D} {ds : List D} {x m : Str} {p pos apos : Pos} {n k : Nat} {pre : List D → D → Prop}
/-- f(..) -/
theorem ev_call (G : FD T X.prog X.w X.K X.mg X.base x n k pre) (hr : Room k X.A) (ha : EVs T X (e :: es) ss ds) (hp : pre ds d) (hn : ds.length = n := by rfl) (hg : Gl X x := by rfl) (hdb : (x == ("__debug__" : Str)) = false := by decide)
    (he : starEach (e :: es) X.env = (false, eval e X.env) :: starEach es X.env := by rfl) (hpl : (backTo pos (starEach es X.env)).any (·.1) = false := by rfl) : EV T X (.Call (.Name x p) (e :: es) [] pos) ss d := by
  obtain ⟨f, fd, ps, h1, h2, h3, h4, h5⟩ := G
  refine EV.of (pe_call h5 hr hg h1 h2 h3 .nil pass0 ha hdb he hpl) fun B F H σ Q R q => evs_go R fun vs F1 H1 n1 R1 i1 => ?_
  show spD T X.K n pre (vs ++ []) H1 Q E0
  rw [List.append_nil]
  exact ⟨F1, ds, d, R1.sub, R1.nt, R1.tb, i1, hn, hp, fun v F2 H2 n2 i2 => q v F2 H2 (n1.trans n2) (R1.grow n2) i2⟩
theorem ev_call0 (G : FD T X.prog X.w X.K X.mg X.base x 0 k pre) (hr : Room k X.A) (hp : pre [] d) (hg : Gl X x := by rfl) (hdb : (x == ("__debug__" : Str)) = false := by decide) : EV T X (.Call (.Name x p) [] [] pos) ss d := by
  obtain ⟨f, fd, ps, h1, h2, h3, h4, h5⟩ := G
  refine EV.of (pe_call0 h5 hr hg h1 h2 h3 .nil pass0 hdb) fun B F H σ Q R q => ?_
  show spD T X.K 0 pre ([] ++ []) H Q E0
  exact ⟨F, [], d, R.sub, R.nt, R.tb, rfl, rfl, hp, fun v F2 H2 n2 i2 => q v F2 H2 n2 (R.grow n2) i2⟩
/-- o.f -/
theorem ev_fld {C : Addr} {ns : List Str} {xs : List D} {f : Str} (he : EV T X o ss (.ins C ns xs)) (cl : Cls X.K C) (na : NoAttr X.K C f) (i : Nat) (hn : ns[i]? = some f) (hx : xs[i]? = some d) (nd : ns.Nodup)
    (hb : attributeBase o f X.env (eval o X.env) = eval o X.env := by rfl) : EV T X (.Attribute o f pos) ss d :=
  EV.of (pe_fld he hb) fun B F H σ Q R q => ev_go R fun v F1 H1 n1 R1 i1 => by
    obtain ⟨a, dx, fs, rfl, e1, e2, e3⟩ := i1
    obtain ⟨w, hw, iw⟩ := IsL.get' e3 hx
    refine ⟨a, C, dx, fs, w, rfl, R1.sub _ _ e1, cl, na, ?_, q w F1 H1 n1 R1 iw⟩
    have look : ∀ {l : List (Str × V)} {j : Nat}, (l.map (·.1)).Nodup → (l.map (·.1))[j]? = some f → (l.map (·.2))[j]? = some w → l.lookup f = some w := by
      intro l
      induction l with
      | nil => intro j _ h; simp at h
      | cons y r ih =>
        intro j nd h1 h2
        cases j with
        | zero =>
          simp at h1 h2
          subst h1; subst h2
          simp [List.lookup]
        | succ j =>
          simp at h1 h2
          have nd' : (y.1 :: r.map (·.1)).Nodup := nd
          obtain ⟨n1, n2⟩ := List.nodup_cons.mp nd'
          have ne : ¬ f = y.1 := fun z => n1 (by rw [← z]; exact List.mem_of_getElem? (l := r.map (·.1)) (by simpa using h1))
          have hb : (f == y.1) = false := beq_eq_false_iff_ne.mpr ne
          simp only [List.lookup, hb]
          exact ih n2 (by simpa using h1) (by simpa using h2)
    subst e2
    exact look nd hn hw
/-! built-in functions -/
theorem ev_blt {id : String} {r : List V → Hp → VK → Prop} (hc : CallR X (.builtin id) r) (ha : EVs T X (e :: es) ss ds) (hm : X.mg x = none) (hv : bootBuiltins x = some (.builtin id))
    (k : ∀ B F H σ vs Q, StR T X.K B F H σ ss → IsL X.K F ds vs → (∀ z F1 H1, Nx T F H F1 H1 → StR T X.K B F1 H1 σ ss → Is X.K F1 d z → Q z H1) → r vs H Q) (hg : Gl X x := by rfl) (hn : x ≠ "__name__" := by decide) (hdb : (x == ("__debug__" : Str)) = false := by decide)
    (he : starEach (e :: es) X.env = (false, eval e X.env) :: starEach es X.env := by rfl) (hpl : (backTo pos (starEach es X.env)).any (·.1) = false := by rfl) : EV T X (.Call (.Name x p) (e :: es) [] pos) ss d :=
  EV.of (pe_callB hc hg hm hv ha hn hdb he hpl) fun B F H σ Q R q => evs_go R fun vs F1 H1 n1 R1 i1 => k B F1 H1 σ vs Q R1 i1 fun z F2 H2 n2 R2 i2 => q z F2 H2 (n1.trans n2) R2 i2
theorem ev_bty {tn : String} {r : List V → Hp → VK → Prop} (hc : CallR X (.type tn) r) (ha : EVs T X (e :: es) ss ds) (hm : X.mg x = none) (hv : bootBuiltins x = some (.type tn))
    (k : ∀ B F H σ vs Q, StR T X.K B F H σ ss → IsL X.K F ds vs → (∀ z F1 H1, Nx T F H F1 H1 → StR T X.K B F1 H1 σ ss → Is X.K F1 d z → Q z H1) → r vs H Q) (hg : Gl X x := by rfl) (hn : x ≠ "__name__" := by decide) (hdb : (x == ("__debug__" : Str)) = false := by decide)
    (he : starEach (e :: es) X.env = (false, eval e X.env) :: starEach es X.env := by rfl) (hpl : (backTo pos (starEach es X.env)).any (·.1) = false := by rfl) : EV T X (.Call (.Name x p) (e :: es) [] pos) ss d :=
  EV.of (pe_callTy hc hg hm hv ha hn hdb he hpl) fun B F H σ Q R q => evs_go R fun vs F1 H1 n1 R1 i1 => k B F1 H1 σ vs Q R1 i1 fun z F2 H2 n2 R2 i2 => q z F2 H2 (n1.trans n2) R2 i2
/-- f(..), f a module's name for a built-in function -/
theorem ev_blf {id : String} {r : List V → Hp → VK → Prop} (hc : CallR X (.builtin id) r) (ha : EVs T X (e :: es) ss ds) (hm : X.mg x = some (.builtin id))
    (k : ∀ B F H σ vs Q, StR T X.K B F H σ ss → IsL X.K F ds vs → (∀ z F1 H1, Nx T F H F1 H1 → StR T X.K B F1 H1 σ ss → Is X.K F1 d z → Q z H1) → r vs H Q) (hg : Gl X x := by rfl) (hdb : (x == ("__debug__" : Str)) = false := by decide)
    (he : starEach (e :: es) X.env = (false, eval e X.env) :: starEach es X.env := by rfl) (hpl : (backTo pos (starEach es X.env)).any (·.1) = false := by rfl) : EV T X (.Call (.Name x p) (e :: es) [] pos) ss d :=
  EV.of (pe_callBfun hc hg hm ha hdb he hpl) fun B F H σ Q R q => evs_go R fun vs F1 H1 n1 R1 i1 => k B F1 H1 σ vs Q R1 i1 fun z F2 H2 n2 R2 i2 => q z F2 H2 (n1.trans n2) R2 i2
theorem isL1 {K : PySem.W.Frag} {F : Hp} {x : D} {vs : List V} (h : IsL K F [x] vs) : ∃ v, vs = [v] ∧ Is K F x v := by
  obtain ⟨v, r, rfl, h1, h2⟩ := h
  cases (show _ = _ from h2)
  exact ⟨v, rfl, h1⟩
theorem isL2 {K : PySem.W.Frag} {F : Hp} {x y : D} {vs : List V} (h : IsL K F [x, y] vs) : ∃ v w, vs = [v, w] ∧ Is K F x v ∧ Is K F y w := by
  obtain ⟨v, r, rfl, h1, h2⟩ := h
  obtain ⟨w, rfl, h3⟩ := isL1 h2
  exact ⟨v, w, rfl, h1, h3⟩
theorem ev_abs {i : Int} (ha : EV T X e ss (.int i)) (hm : X.mg "abs" = none) (hg : Gl X "abs" := by rfl) (he : starEach [e] X.env = [(false, eval e X.env)] := by rfl) : EV T X (.Call (.Name "abs" p) [e] [] pos) ss (.int (if i < 0 then -i else i)) :=
  ev_blt call_abs (evs_cons ha evs_nil he) hm (by decide +kernel) (fun B F H σ vs Q R i1 q => by
    obtain ⟨v, rfl, h⟩ := isL1 i1
    cases h
    exact ⟨i, rfl, q _ F H R.nx R rfl⟩) hg (he := he)
theorem ev_int1 {i : Int} (ha : EV T X e ss (.int i)) (hm : X.mg "int" = none) (hg : Gl X "int" := by rfl) (he : starEach [e] X.env = [(false, eval e X.env)] := by rfl) : EV T X (.Call (.Name "int" p) [e] [] pos) ss (.int i) :=
  ev_bty call_int1 (evs_cons ha evs_nil he) hm (by decide +kernel) (fun B F H σ vs Q R i1 q => by
    obtain ⟨v, rfl, h⟩ := isL1 i1
    cases h
    exact .inl ⟨i, rfl, q _ F H R.nx R rfl⟩) hg (he := he)
theorem ev_strI {i : Int} (hz : i.natAbs.log2 < 1920) (ha : EV T X e ss (.int i)) (hm : X.mg "str" = none) (hg : Gl X "str" := by rfl) (he : starEach [e] X.env = [(false, eval e X.env)] := by rfl) : EV T X (.Call (.Name "str" p) [e] [] pos) ss (.str (toString i)) :=
  ev_bty call_str_int (evs_cons ha evs_nil he) hm (by decide +kernel) (fun B F H σ vs Q R i1 q => by
    obtain ⟨v, rfl, h⟩ := isL1 i1
    cases h
    exact ⟨i, rfl, hz, q _ F H R.nx R rfl⟩) hg (he := he)
theorem ev_gcd {i j : Int} (ha : EV T X a ss (.int i)) (hb : EV T X b ss (.int j)) (hm : X.mg x = some (.builtin "math.gcd")) (hg : Gl X x := by rfl) (hdb : (x == ("__debug__" : Str)) = false := by decide) (he : starEach [a, b] X.env = (false, eval a X.env) :: starEach [b] X.env := by rfl) (he2 : starEach [b] X.env = [(false, eval b X.env)] := by rfl) (hpl : (backTo pos (starEach [b] X.env)).any (·.1) = false := by rfl) :
    EV T X (.Call (.Name x p) [a, b] [] pos) ss (.int ((Nat.gcd i.natAbs j.natAbs : Nat) : Int)) :=
  ev_blf cr_gcd (evs_cons ha (evs_cons hb evs_nil he2) he) hm (fun B F H σ vs Q R i1 q => by
    obtain ⟨v, w, rfl, h, h2⟩ := isL2 i1
    cases h; cases h2
    exact ⟨i, j, rfl, q _ F H R.nx R rfl⟩) hg hdb he hpl
/-- len of a list, a tuple, a text -/
def D.len : D → Option Nat
  | .lst xs => some xs.length
  | .rdl xs => some xs.length
  | .tup xs => some xs.length
  | .str x => if x.length ≤ sizeLine then some x.length else none
  | _ => none
theorem ev_len {y : D} {n : Nat} (h : y.len = some n) (ha : EV T X e ss y) (hm : X.mg "len" = none) (hg : Gl X "len" := by rfl) (he : starEach [e] X.env = [(false, eval e X.env)] := by rfl) : EV T X (.Call (.Name "len" p) [e] [] pos) ss (.int n) :=
  ev_blt call_len (evs_cons ha evs_nil he) hm PySem.boot_len (fun B F H σ vs Q R i1 q => by
    obtain ⟨v, rfl, i⟩ := isL1 i1
    refine ⟨v, n, rfl, ?_, q _ F H R.nx R rfl⟩
    cases y with
    | lst xs =>
      obtain ⟨a, us, rfl, e1, e2⟩ := i
      have : xs.length = n := Option.some.inj h
      exact .inl ⟨us, SqL.of (R.sub _ _ e1), by rw [e2.length, this]⟩
    | rdl xs =>
      obtain ⟨a, us, rfl, e1, e2⟩ := i
      have : xs.length = n := Option.some.inj h
      exact .inl ⟨us, ext_seqL R.sub e1, by rw [e2.length, this]⟩
    | tup xs =>
      obtain ⟨a, us, rfl, e1, e2⟩ := i
      have : xs.length = n := Option.some.inj h
      exact .inr ⟨us, ext_seqT R.sub e1, by rw [e2.length, this]⟩
    | str z =>
      cases i
      have h' : (if z.length ≤ sizeLine then some z.length else none) = some n := h
      split at h'
      · cases h'; exact ⟨by assumption, rfl⟩
      · cases h'
    | _ => cases h) hg (he := he)
/-- % and // by great divisors, * of great ints -/
theorem ev_mul {i j : Int} (hc : CMul i j) (ha : EV T X a ss (.int i)) (hb : EV T X b ss (.int j)) : EV T X (.BinOp a .Mult b pos) ss (.int (i * j)) :=
  ev_op op_mul ha hb fun B F H σ v u Q R i1 i2 q => ⟨i, j, i1, i2, hc, q _ F H R.nx R rfl⟩
theorem ev_mulW {i j : Int} (hc : CMulW i j) (ha : EV T X a ss (.int i)) (hb : EV T X b ss (.int j)) : EV T X (.BinOp a .Mult b pos) ss (.int (i * j)) :=
  ev_op op_mulW ha hb fun B F H σ v u Q R i1 i2 q => ⟨i, j, i1, i2, hc, q _ F H R.nx R rfl⟩
theorem ev_fdivW {i j : Int} (hc : CDivW i j) (ha : EV T X a ss (.int i)) (hb : EV T X b ss (.int j)) : EV T X (.BinOp a .FloorDiv b pos) ss (.int (i / j)) :=
  ev_op op_fdivW ha hb fun B F H σ v u Q R i1 i2 q => ⟨i, j, i1, i2, hc, q _ F H R.nx R rfl⟩
/-! a if t else b, and, or -/
theorem ev_if {t : Bool} (hc : TV T X c ss t) (h1 : t = true → EV T X a ss d) (h2 : t = false → EV T X b ss d) : EV T X (.IfExp c a b pos) ss d := by
  have p1 : PE X a (tEv T X.K fun ss' d' => EV T X a ss' d') := pe_fam fun _ _ h => h
  have p2 : PE X b (tEv T X.K fun ss' d' => EV T X b ss' d') := pe_fam fun _ _ h => h
  refine EV.of (pe_ifExp hc p1 p2) fun B F H σ Q R q => tv_go R fun F1 H1 n1 R1 => ?_
  cases t with
  | true => exact iteT ⟨B, F1, ss, d, h1 rfl, R1, fun v F2 H2 n2 R2 i2 => q v F2 H2 (n1.trans n2) R2 i2⟩
  | false => exact iteF ⟨B, F1, ss, d, h2 rfl, R1, fun v F2 H2 n2 R2 i2 => q v F2 H2 (n1.trans n2) R2 i2⟩
theorem tv_if {t u : Bool} {e : Expr} (h : EV T X (.IfExp c a b pos) ss (.bl u)) (he : ∀ whole, isTrue (.IfExp c a b pos) X.env whole = (do let v ← whole; standAt (Expr.IfExp c a b pos).pos; holding [v] (truthy v)) := by intro _; rfl) : TV T X (.IfExp c a b pos) ss u := tv_of h he
theorem ev_not {t : Bool} (h : EV T X a ss (.bl t)) : EV T X (.UnaryOp .Not a pos) ss (.bl (!t)) :=
  EV.of (pe_not h) fun B F H σ Q R q => ev_go R fun v F1 H1 n1 R1 i1 => ⟨t, i1, q _ F1 H1 n1 R1 rfl⟩
theorem ev_one {op} {d : D} (h : EV T X a ss d) : EV T X (.BoolOp op [a] pos) ss d := pe_one h
theorem ev_andB {t u : Bool} (h : EV T X a ss (.bl t)) (g : t = true → EV T X (.BoolOp .And (b :: es) pos) ss (.bl u)) : EV T X (.BoolOp .And (a :: b :: es) pos) ss (.bl (t && u)) := by
  have p2 : PE X (.BoolOp .And (b :: es) pos) (tEv T X.K fun ss' d' => EV T X (.BoolOp .And (b :: es) pos) ss' d') := pe_fam fun _ _ h => h
  refine EV.of (pe_and h p2) fun B F H σ Q R q => ev_go R fun v F1 H1 n1 R1 i1 => ⟨t, i1, ?_⟩
  cases t with
  | true => exact iteT ⟨B, F1, ss, .bl u, g rfl, R1, fun v F2 H2 n2 R2 i2 => q v F2 H2 (n1.trans n2) R2 i2⟩
  | false => exact iteF (q _ F1 H1 n1 R1 rfl)
theorem ev_orB {t u : Bool} (h : EV T X a ss (.bl t)) (g : t = false → EV T X (.BoolOp .Or (b :: es) pos) ss (.bl u)) : EV T X (.BoolOp .Or (a :: b :: es) pos) ss (.bl (t || u)) := by
  have p2 : PE X (.BoolOp .Or (b :: es) pos) (tEv T X.K fun ss' d' => EV T X (.BoolOp .Or (b :: es) pos) ss' d') := pe_fam fun _ _ h => h
  refine EV.of (pe_or h p2) fun B F H σ Q R q => ev_go R fun v F1 H1 n1 R1 i1 => ⟨t, i1, ?_⟩
  cases t with
  | true => exact iteT (q _ F1 H1 n1 R1 rfl)
  | false => exact iteF ⟨B, F1, ss, .bl u, g rfl, R1, fun v F2 H2 n2 R2 i2 => q v F2 H2 (n1.trans n2) R2 i2⟩
theorem tw_andB {t u : Bool} (h : TV T X a ss t) (g : t = true → TW T X (.BoolOp .And (b :: es) pos) ss u) : TW T X (.BoolOp .And (a :: b :: es) pos) ss (t && u) := by
  have p2 : PW X (.BoolOp .And (b :: es) pos) (tTv T X.K fun ss' d' => TW T X (.BoolOp .And (b :: es) pos) ss' d') := ⟨fun wh pins s σ H Q I ⟨B, F, ss, d, r, R, k⟩ => r.run wh pins s σ H Q I ⟨B, F, ss, d, ⟨rfl, rfl⟩, R, k⟩⟩
  refine PW.imp (pw_and h p2) fun σ H Q ⟨B, F, ss', d', ⟨e1, e2⟩, R, q⟩ => ?_
  subst e1; subst e2
  refine tv_go R fun F1 H1 n1 R1 => ?_
  cases t with
  | true => exact iteT ⟨B, F1, _, u, g rfl, R1, fun F2 H2 n2 R2 => q F2 H2 (n1.trans n2) R2⟩
  | false => exact iteF (q F1 H1 n1 R1)
theorem tw_orB {t u : Bool} (h : TV T X a ss t) (g : t = false → TW T X (.BoolOp .Or (b :: es) pos) ss u) : TW T X (.BoolOp .Or (a :: b :: es) pos) ss (t || u) := by
  have p2 : PW X (.BoolOp .Or (b :: es) pos) (tTv T X.K fun ss' d' => TW T X (.BoolOp .Or (b :: es) pos) ss' d') := ⟨fun wh pins s σ H Q I ⟨B, F, ss, d, r, R, k⟩ => r.run wh pins s σ H Q I ⟨B, F, ss, d, ⟨rfl, rfl⟩, R, k⟩⟩
  refine PW.imp (pw_or h p2) fun σ H Q ⟨B, F, ss', d', ⟨e1, e2⟩, R, q⟩ => ?_
  subst e1; subst e2
  refine tv_go R fun F1 H1 n1 R1 => ?_
  cases t with
  | true => exact iteT (q F1 H1 n1 R1)
  | false => exact iteF ⟨B, F1, _, u, g rfl, R1, fun F2 H2 n2 R2 => q F2 H2 (n1.trans n2) R2⟩
theorem EV.cast {d d' : D} (h : EV T X e ss d) (q : d = d') : EV T X e ss d' := q ▸ h
theorem TV.cast {t u : Bool} (h : TV T X e ss t) (q : t = u) : TV T X e ss u := q ▸ h
end
end Fd

set_option Elab.async false
set_option linter.all false
set_option maxRecDepth 100000
set_option maxHeartbeats 4000000
/-! Fd5: operators of own classes, by the library's own terms: an int to the left, ==, !=. -/
namespace FdS
open PySem PySem.Spec PyProof.Rows PySem.W
/-- an int's method that declines an instance -/
abbrev Decl (x C dx : Addr) : PySem.Spec := fun _ R s => s.heap.get? x = some (PySem.W.instObj C dx) ∧ R (.ok (.ret Value.notImplemented)) s
theorem int_add_inst (a : Int) (t : Tok) (x C dx : Addr) : Meets (Builtin.«int.__add__» ⟨[.int a t, .ref x], []⟩) (Decl x C dx) :=
  .of_wp fun prog w A R s h => by obtain ⟨hp, g, d, tk, os⟩ := s; obtain ⟨hl, h⟩ := h; simp only [PySem.W.instObj] at hl; wp_walk; exact ⟨_, rfl, h⟩
theorem int_sub_inst (a : Int) (t : Tok) (x C dx : Addr) : Meets (Builtin.«int.__sub__» ⟨[.int a t, .ref x], []⟩) (Decl x C dx) :=
  .of_wp fun prog w A R s h => by obtain ⟨hp, g, d, tk, os⟩ := s; obtain ⟨hl, h⟩ := h; simp only [PySem.W.instObj] at hl; wp_walk; exact ⟨_, rfl, h⟩
theorem int_mul_inst (a : Int) (t : Tok) (x C dx : Addr) : Meets (Builtin.«int.__mul__» ⟨[.int a t, .ref x], []⟩) (Decl x C dx) :=
  .of_wp fun prog w A R s h => by obtain ⟨hp, g, d, tk, os⟩ := s; obtain ⟨hl, h⟩ := h; simp only [PySem.W.instObj] at hl; wp_walk; exact ⟨_, rfl, h⟩
theorem int_eq_inst (a : Int) (t : Tok) (x C dx : Addr) : Meets (Builtin.«int.__eq__» ⟨[.int a t, .ref x], []⟩) (Decl x C dx) :=
  .of_wp fun prog w A R s h => by obtain ⟨hp, g, d, tk, os⟩ := s; obtain ⟨hl, h⟩ := h; simp only [PySem.W.instObj] at hl; wp_walk; exact ⟨_, rfl, h⟩
theorem int_ne_inst (a : Int) (t : Tok) (x C dx : Addr) : Meets (Builtin.«int.__ne__» ⟨[.int a t, .ref x], []⟩) (Decl x C dx) :=
  .of_wp fun prog w A R s h => by obtain ⟨hp, g, d, tk, os⟩ := s; obtain ⟨hl, h⟩ := h; simp only [PySem.W.instObj] at hl; wp_walk; exact ⟨_, rfl, h⟩
section
variable {prog : Program} {w : World} {A : Around} {E : Value → Shared → Prop} {s : Shared} {K : Frag} {x C dx f f0 : Addr} {od : Option Obj}
/-- the left int declines, the instance's reflected method gives -/
theorem bin_int {op : Operator} {id : String} {B : Builtin} {i : Int} {t : Tok} {Q : Value → Shared → Prop} (X : K.In s.heap) (I : InstAt s.heap x (PySem.W.instObj C dx) C od) (slot : Slot "int" (PySem.dunder op.info.2) id) (entry : entryFor table id = some B) (args : argsOk id ⟨[.int i t, .ref x], []⟩)
    (g : Meets (B ⟨[.int i t, .ref x], []⟩) (Decl x C dx)) (fills : fillsNumberSlot (.type "int") op.info.2 = pure true) (hc : selfFirst K C = true) (hs : findIn K (.ref C) (PySem.dunder op.info.2) = some (some (.ref f0)))
    (hr : findIn K (.ref C) (dunderR op.info.2) = some (some (.ref f))) (hf : isFn K (.ref f) = true) (hsub : subIn K (.ref C) (.type "int") = some false)
    (h : wpAny (model prog w) A (call (.ref f) [.ref x, .int i t]) (PySem.W.CmpBack Q) E s) : wpAny (model prog w) A (binaryOp op (.int i t) (.ref x)) Q E s := by
  obtain ⟨cd, rest, hcd, hm⟩ := ksp_first hc
  rcases hi : op.info with ⟨sym, nm'⟩
  rw [hi] at hs hr fills slot
  dsimp only at hs hr fills slot
  have one := ksp_try (name := dunderR nm') X I hr hf h
  have hx : s.heap.get? x = some (PySem.W.instObj C dx) := I.1
  have L3 : Looks (model prog w) s.heap (fillsNumberSlot (.ref C) nm') true := fills_K X hcd hm hs
  simp only [binaryOp, hi]
  refine wpAny_holding (wpAny_bind ?_)
  unfold binaryOp1
  refine wpAny_bind (wpAny_typeOf (typeIs_int s i t) (wpAny_bind (I.type.here (wpAny_bind (wpAny_of_eq fills ?_)))))
  have hne : (Value.type "int" == Value.ref C) = false := Bool.eq_false_iff.mpr fun q => by cases beq_iff_eq.mp q
  simp only [hne, Bool.false_eq_true, if_false]
  refine wpAny_bind (L3.here ?_)
  simp only [Bool.and_self, if_true]
  refine wpAny_bind ((looks_subIn X hsub).here ?_)
  have hpy : numberSlotInPython (.type "int") nm' = pure false := rfl
  simp only [Bool.false_eq_true, if_false, pure_bind, Bool.not_false, Bool.and_self, if_true, hpy]
  refine wpAny_bind (wpAny_tryMethod_declines (typeIs_int s i t) slot (call_meets slot (typeIs_int s i t) entry args g ⟨hx, rfl, ?_⟩))
  simp only []
  refine wpAny_bind (wpAny_mono one (fun r s' hr' => ?_) fun _ _ e => e)
  obtain ⟨v, rfl, hq⟩ := hr'
  exact wpAny_bind (wpAny_rule (wpAny_pure (wpAny_pure hq)))
/-- tryCompare by an own method -/
theorem try_own {b : Value} {name : Str} {Q : Value → Shared → Prop} {ox : Obj} (X : K.In s.heap) (I : InstAt s.heap x ox C od) (hs : findIn K (.ref C) name = some (some (.ref f))) (hf : isFn K (.ref f) = true)
    (h : wpAny (model prog w) A (call (.ref f) [.ref x, b]) (PySem.W.CmpBack Q) E s) : wpAny (model prog w) A (tryCompare (.ref x) name b) (fun r s' => ∃ v, r = some v ∧ Q v s') E s := by
  unfold tryCompare
  refine wpAny_bind (ifBound_K X I hs hf (wpAny_mono h (fun v s' hv => ?_) fun _ _ e => e))
  cases v <;> first | exact hv.elim | exact wpAny_pure ⟨_, rfl, hv⟩
/-- tryCompare "__ne__" by object.__ne__ over an own __eq__ that gives a bool -/
theorem try_ne {b : Value} {Q : Value → Shared → Prop} {ox : Obj} (hu : A.units + 1 < cLine) (X : K.In s.heap) (I : InstAt s.heap x ox C od) (hn : findIn K (.ref C) "__ne__" = some (some (.builtin "object.__ne__"))) (hob : subIn K (.ref C) (.type "object") = some true)
    (hs : findIn K (.ref C) "__eq__" = some (some (.ref f))) (hf : isFn K (.ref f) = true)
    (h : wpAny (model prog w) A.in1 (call (.ref f) [.ref x, b]) (fun v s' => ∃ k, v = .bool k ∧ Q (.bool (!k)) s') E s) : wpAny (model prog w) A (tryCompare (.ref x) "__ne__" b) (fun r s' => ∃ v, r = some v ∧ Q v s') E s := by
  unfold tryCompare
  refine wpAny_bind ?_
  simp only [callSpecialIfBound?, bindSpecialIfBound?]
  refine wpAny_holding (wpAny_bind (wpAny_bind (wpAny_bind (I.type.here ((looks_findIn X hn).here ?_)))))
  have run : wpAny (model prog w) A (call (.builtin "object.__ne__") ([.ref x] ++ [b])) (fun v s' => ∃ k, v = .bool k ∧ Q (.bool k) s') E s := by
    refine wpAny_call (codeAny_call_builtin F.cmp_object.ne.plain F.cmpEntry_ne (check_slot F.cmpKind_ne F.cmpSplit_ne (I.type.andThen (looks_subIn X hob)) (F.cmpArgs_ne _ _) ?_))
    show wpAny _ A.in1 (Builtin.«object.__ne__» ⟨[.ref x, b], []⟩) _ _ s
    unfold Builtin.«object.__ne__»
    refine wpAny_bind (wpAny_of_eq (a := (.ref x, [b])) rfl ?_)
    refine wpAny_bind (wpAny_cRoomFor hu ?_)
    refine wpAny_bind (ifBound_K X I hs hf (wpAny_mono h (fun v s' hv => ?_) fun _ _ e => e))
    obtain ⟨k, rfl, hq⟩ := hv
    refine wpAny_bind (wpAny_truthy_bool ?_)
    exact wpAny_pure ⟨_, rfl, hq⟩
  have fin : wpAny (model prog w) A (call (.builtin "object.__ne__") ([.ref x] ++ [b]) >>= fun v => pure (some v)) (fun a s₁ => wpAny (model prog w) A (match a with | some .notImplemented | none => pure none | some v => pure (some v)) (fun r s' => ∃ v, r = some v ∧ Q v s') E s₁) E s :=
    wpAny_bind (wpAny_mono run (fun v s' hv => by obtain ⟨k, rfl, hq⟩ := hv; exact wpAny_pure (wpAny_pure ⟨_, rfl, hq⟩)) fun _ _ e => e)
  simp only [F.cmp_object.ne.bind]
  refine wpAny_bind (wpAny_askSetting (wpAny_ite ?_))
  split
  · exact wpAny_bind (wpAny_pure (wpAny_pure fin))
  · exact wpAny_tryCatch (wpAny_bind (wpAny_pure (wpAny_pure fin)))
/-- x op b, the left an instance: its own answer is taken -/
theorem cmp_left {op : CmpOp} {b tb : Value} {Q : Value → Shared → Prop} {ox : Obj} (hu : A.units < cLine) (X : K.In s.heap) (I : InstAt s.heap x ox C od) (hb : Looks (model prog w) s.heap (typeOf b) tb) (hn : notFirst K C tb = true)
    (one : wpAny (model prog w) A (tryCompare (.ref x) (cmpInfo op).2.1 b) (fun r s' => ∃ v, r = some v ∧ Q v s') E s) : wpAny (model prog w) A (richCompare op (.ref x) b) Q E s := by
  unfold richCompare
  simp only [oneThing_ref]
  refine wpAny_holding (wpAny_bind (wpAny_cRoomFor hu ?_))
  refine wpAny_bind (I.type.here (wpAny_bind (hb.here ?_)))
  split
  · rename_i q
    have e : subIn K tb (.ref C) = some false := by
      rcases Bool.or_eq_true_iff.mp hn with e | e
      · rw [beq_iff_eq.mp e] at q; simp at q
      · exact beq_iff_eq.mp e
    refine wpAny_bind ((looks_subIn X e).here ?_)
    simp only [Bool.false_eq_true, if_false]
    refine wpAny_bind (wpAny_mono one (fun r s' z => ?_) fun _ _ e => e)
    obtain ⟨v, rfl, hq⟩ := z
    exact wpAny_pure hq
  · refine wpAny_bind (wpAny_pure ?_)
    simp only [Bool.false_eq_true, if_false]
    refine wpAny_bind (wpAny_mono one (fun r s' z => ?_) fun _ _ e => e)
    obtain ⟨v, rfl, hq⟩ := z
    exact wpAny_pure hq
/-- i op x, the right an instance: the int declines -/
theorem cmp_int {op : CmpOp} {id : String} {B : Builtin} {i : Int} {t : Tok} {Q : Value → Shared → Prop} (hu : A.units < cLine) (X : K.In s.heap) (I : InstAt s.heap x (PySem.W.instObj C dx) C od) (slot : Slot "int" (cmpInfo op).2.1 id) (entry : entryFor table id = some B) (args : argsOk id ⟨[.int i t, .ref x], []⟩)
    (g : Meets (B ⟨[.int i t, .ref x], []⟩) (Decl x C dx)) (hsub : subIn K (.ref C) (.type "int") = some false)
    (one : wpAny (model prog w) A (tryCompare (.ref x) (cmpInfo op).2.2 (.int i t)) (fun r s' => ∃ v, r = some v ∧ Q v s') E s) : wpAny (model prog w) A (richCompare op (.int i t) (.ref x)) Q E s := by
  have hx : s.heap.get? x = some (PySem.W.instObj C dx) := I.1
  unfold richCompare
  have h1 : oneThing? op (.int i t) (.ref x) = none := rfl
  simp only [h1]
  refine wpAny_holding (wpAny_bind (wpAny_cRoomFor hu ?_))
  refine wpAny_bind (wpAny_typeOf (typeIs_int s i t) (wpAny_bind (I.type.here ?_)))
  have hne : (Value.type "int" != Value.ref C) = true := rfl
  simp only [hne, if_true]
  refine wpAny_bind ((looks_subIn X hsub).here ?_)
  simp only [Bool.false_eq_true, if_false, Bool.not_false, if_true]
  refine wpAny_bind (wpAny_tryCompare_declines (typeIs_int s i t) slot (call_meets slot (typeIs_int s i t) entry args g ⟨hx, rfl, ?_⟩))
  refine wpAny_bind (wpAny_mono one (fun r s' z => ?_) fun _ _ e => e)
  obtain ⟨v, rfl, hq⟩ := z
  exact wpAny_pure hq
end
end FdS

set_option Elab.async false
set_option linter.all false
set_option maxRecDepth 100000
set_option maxHeartbeats 4000000
/-! Fd6: operators of own classes on data. -/
namespace Fd
open PySem PySem.Spec PyProof.Rows L2
/-- a two-place operation on data -/
def rD (T : List (Addr × Str)) (K : PySem.W.Frag) (pre : D → D → D → Prop) : R2 := fun x y H Q => ∃ F dx dy d, Ext F H ∧ (∀ p ps, F p ≠ some (.tbl ps)) ∧ LamX.Tabs T H ∧ Is K F dx x ∧ Is K F dy y ∧ pre dx dy d ∧ ∀ v F1 H1, Nx T F H F1 H1 → Is K F1 d v → Q v H1
def OpD (T : List (Addr × Str)) (X : Cx) (f : Value → Value → Sem Value) (pre : D → D → D → Prop) : Prop := OpR X f (rD T X.K pre)
section
variable {T : List (Addr × Str)} {X : Cx} {ss : SS} {a b : Expr} {pos : Pos} {x y d : D} {pre pre' : D → D → D → Prop}
theorem OpD.or {f : Value → Value → Sem Value} (h : OpD T X f pre) (h' : OpD T X f pre') : OpD T X f (fun x y d => pre x y d ∨ pre' x y d) := fun pins s σ H x y v u Q I rx ry ⟨F, dx, dy, d, e, nt, tbs, i1, i2, p, q⟩ => by
  rcases p with p | p
  · exact h pins s σ H x y v u Q I rx ry ⟨F, dx, dy, d, e, nt, tbs, i1, i2, p, q⟩
  · exact h' pins s σ H x y v u Q I rx ry ⟨F, dx, dy, d, e, nt, tbs, i1, i2, p, q⟩
theorem ev_opD {op : Operator} (ho : OpD T X (binaryOp op) pre) (ha : EV T X a ss x) (hb : EV T X b ss y) (hp : pre x y d) : EV T X (.BinOp a op b pos) ss d :=
  ev_op ho ha hb fun B F H σ v u Q R i1 i2 q => ⟨F, x, y, d, R.sub, R.nt, R.tb, i1, i2, hp, fun z F1 H1 n1 iz => q z F1 H1 n1 (R.grow n1) iz⟩
theorem ev_cmpD {op : CmpOp} (ho : OpD T X (compareOp op) pre) (ha : EV T X a ss x) (hb : EV T X b ss y) (hp : pre x y d) (h1 : behindInMarks op b = false := by first | exact nomark _ | rfl) : EV T X (.Compare a [op] [b] pos) ss d :=
  ev_cmp ho ha hb (fun B F H σ v u Q R i1 i2 q => ⟨F, x, y, d, R.sub, R.nt, R.tb, i1, i2, hp, fun z F1 H1 n1 iz => q z F1 H1 n1 (R.grow n1) iz⟩) h1
theorem tv_cmpD {op : CmpOp} {k : Bool} (ho : OpD T X (compareOp op) pre) (ha : EV T X a ss x) (hb : EV T X b ss y) (hp : pre x y (.bl k)) (h1 : behindInMarks op b = false := by first | exact nomark _ | rfl) : TV T X (.Compare a [op] [b] pos) ss k :=
  tv_cmp ho ha hb (fun B F H σ v u Q R i1 i2 q => ⟨F, x, y, .bl k, R.sub, R.nt, R.tb, i1, i2, hp, fun z F1 H1 n1 iz => by cases iz; exact q F1 H1 n1 (R.grow n1)⟩) h1
theorem opD_I0 {f : Value → Value → Sem Value} {g : Int → Int → Int} (h : OpR X f (rI0 fun i j => .int (g i j))) : OpD T X f (fun x y d => ∃ i j, x = .int i ∧ y = .int j ∧ d = .int (g i j)) := fun pins s σ H x y v u Q I rx ry ⟨F, dx, dy, d, e, nt, tbs, i1, i2, ⟨i, j, e1, e2, e3⟩, q⟩ => by
  subst e1; subst e2; subst e3
  exact h pins s σ H x y v u Q I rx ry ⟨i, j, i1, i2, q _ F H (Nx.refl e) rfl⟩
theorem opD_I {f : Value → Value → Sem Value} {C : Int → Int → Prop} {g : Int → Int → Int} (h : OpR X f (rI C fun i j => .int (g i j))) : OpD T X f (fun x y d => ∃ i j, x = .int i ∧ y = .int j ∧ C i j ∧ d = .int (g i j)) := fun pins s σ H x y v u Q I rx ry ⟨F, dx, dy, d, e, nt, tbs, i1, i2, ⟨i, j, e1, e2, c, e3⟩, q⟩ => by
  subst e1; subst e2; subst e3
  exact h pins s σ H x y v u Q I rx ry ⟨i, j, i1, i2, c, q _ F H (Nx.refl e) rfl⟩
end
/-! ### the types of data -/
def D.ty? : D → Option Value
  | .non => some (.type "NoneType") | .bl _ => some (.type "bool") | .int _ => some (.type "int") | .str _ => some (.type "str") | .lst _ => some (.type "list") | .tup _ => some (.type "tuple")
  | .ins C _ _ => some (.ref C) | .dct _ _ => some (.type "dict") | _ => none
section
variable {T : List (Addr × Str)} {X : Cx} {pins : List (Addr × Obj)} {σ : L2.St} {F H : Hp} {s : Shared}
theorem looks_ty {d : D} {v : V} {u t : Value} (I : Inv X pins σ H s) (e : Ext F H) (i : Is X.K F d v) (r : RelV v u) (h : d.ty? = some t) : PySem.W.Looks (model X.prog X.w) s.heap (typeOf u) t := by
  cases d with
  | non => cases i; cases r; cases h; exact PySem.W.Looks.of_pure rfl
  | bl b => cases i; cases r; cases h; exact PySem.W.Looks.of_pure rfl
  | int z => cases i; obtain ⟨t', rfl⟩ := r; cases h; exact PySem.W.Looks.of_pure rfl
  | str z => cases i; obtain ⟨t', rfl⟩ := r; cases h; exact PySem.W.Looks.of_pure rfl
  | lst xs =>
    obtain ⟨a, vs, rfl, e1, _⟩ := i
    cases r; cases h
    obtain ⟨its, _, ⟨o, n, e2, e3, _⟩, _⟩ := I.list (SqL.of (e _ _ e1))
    have : PySem.W.Looks (model X.prog X.w) s.heap (typeOf (.ref a)) o.cls := (PySem.W.Looks.ld e2).andThen .now
    rw [e3] at this
    exact this
  | tup xs =>
    obtain ⟨a, vs, rfl, e1, _⟩ := i
    cases r; cases h
    obtain ⟨its, _, ⟨o, e2, e3, _⟩, _⟩ := I.tuple (ext_seqT e e1)
    have : PySem.W.Looks (model X.prog X.w) s.heap (typeOf (.ref a)) o.cls := (PySem.W.Looks.ld e2).andThen .now
    rw [e3] at this
    exact this
  | ins C ns xs =>
    obtain ⟨a, dx, fs, rfl, e1, _⟩ := i
    cases r; cases h
    obtain ⟨mA, O, _⟩ := ins_get I.hok (e _ _ e1)
    obtain ⟨od, J, _⟩ := O.look
    exact J.type
  | dct ks xs =>
    obtain ⟨a, kvs, rfl, e1, _⟩ := i
    cases r; cases h
    obtain ⟨_, _, vs, _, o, es, ep, h1, h2, _⟩ := (show ObjOk X.prog X.w H s.heap a (.dK kvs) from I.hok a _ (e _ _ e1))
    have : PySem.W.Looks (model X.prog X.w) s.heap (typeOf (.ref a)) o.cls := (PySem.W.Looks.ld h1).andThen .now
    rw [h2.1] at this
    exact this
  | _ => cases h
/-- one level down -/
abbrev Cx.in1 (X : Cx) : Cx := { X with A := X.A.in1 }
theorem Inv.in1 (I : Inv X pins σ H s) : Inv (Cx.in1 X) pins σ H s :=
  ⟨⟨I.ok.mod, I.ok.kind, I.ok.glob, I.ok.blt, I.ok.above, I.ok.inj, I.ok.has, I.ok.cab, I.ok.hd, I.ok.frames, I.ok.stk, I.ok.exf, I.ok.bs, I.ok.bsz, I.ok.noex, I.ok.exfs, I.ok.funs, I.ok.frf⟩, I.os, I.bare, I.base, I.loc, I.cell, I.free, I.freeC, I.pin, I.hok, I.len⟩
theorem Inv.out1 (I : Inv (Cx.in1 X) pins σ H s) : Inv X pins σ H s :=
  ⟨⟨I.ok.mod, I.ok.kind, I.ok.glob, I.ok.blt, I.ok.above, I.ok.inj, I.ok.has, I.ok.cab, I.ok.hd, I.ok.frames, I.ok.stk, I.ok.exf, I.ok.bs, I.ok.bsz, I.ok.noex, I.ok.exfs, I.ok.funs, I.ok.frf⟩, I.os, I.bare, I.base, I.loc, I.cell, I.free, I.freeC, I.pin, I.hok, I.len⟩
theorem back_of {Q : VK} {u : Value} {s' : Shared} (h : EP X pins σ Q u s') : PySem.W.CmpBack (EP X pins σ Q) u s' := by
  obtain ⟨v, H', I', r, q⟩ := id h
  cases v with
  | non => cases (show u = Value.none from r); exact h
  | bl b => cases (show u = Value.bool b from r); exact h
  | int i => obtain ⟨t, e⟩ := (show ∃ t, u = Value.int i t from r); cases e; exact h
  | str x => obtain ⟨t, e⟩ := (show ∃ t, u = Value.str x t from r); cases e; exact h
  | byt b => obtain ⟨t, e⟩ := (show ∃ t, u = Value.bytes b t from r); cases e; exact h
  | flt b => obtain ⟨t, e⟩ := (show ∃ t, u = Value.float b t from r); cases e; exact h
  | ref a => cases (show u = Value.ref a from r); exact h
  | ty n => cases (show u = Value.type n from r); exact h
end
/-! ### a method that an operator calls -/
structure OwnM (T : List (Addr × Str)) (P : Program) (w : World) (K : PySem.W.Frag) (mg : Str → Option Value) (base : Heap) (C : Addr) (m : Str) (n k : Nat) (pre : List D → D → Prop) (f : Addr) : Prop where
  at_ : PySem.W.findIn K (.ref C) m = some (some (.ref f))
  fn : PySem.W.isFn K (.ref f) = true
  kp : PySem.W.keepIn K (.ref f) = true
  ok : ∃ fd ps, Binds K fd ps [] ∧ ps.length = n ∧ FnOk P w K mg base CX0 k f fd ps (spD T K n pre)
section
variable {T : List (Addr × Str)} {X : Cx} {pins : List (Addr × Obj)} {σ : L2.St} {F H : Hp} {s : Shared} {C f f0 : Addr} {k n : Nat} {pre : List D → D → Prop} {m : Str}
theorem OwnM.run {P : Program} {w : World} {K : PySem.W.Frag} {mg : Str → Option Value} {base : Heap} (M : OwnM T X.prog X.w X.K X.mg X.base C m n k pre f) (hr : Room k X.A) (I : Inv X pins σ H s) {us : List Value} {vs : List V} {ds : List D} {d : D} {Q : VK} (r : Vals vs us) (e : Ext F H) (nt : ∀ p ps, F p ≠ some (.tbl ps)) (tbs : LamX.Tabs T H) (i : IsL X.K F ds vs) (hn : ds.length = n)
    (hp : pre ds d) (q : ∀ v F1 H1, Nx T F H F1 H1 → Is X.K F1 d v → Q v H1) : wpAny (model X.prog X.w) X.A (call (.ref f) us) (EP X pins σ Q) X.xe s := by
  obtain ⟨fd, ps, hb, hl, F0⟩ := M.ok
  refine run_fn (dvs := []) (ds := []) F0 hr hb .nil pass0 I r ?_
  rw [List.append_nil]
  exact ⟨F, ds, d, e, nt, tbs, i, hn, hp, q⟩
/-- -x -/
theorem un_own (M : OwnM T X.prog X.w X.K X.mg X.base C "__neg__" 1 k pre f) (hr : Room k X.A) : UnR X (unaryOp .USub) (fun x H Q => ∃ F ns xs d, Ext F H ∧ (∀ p ps, F p ≠ some (.tbl ps)) ∧ LamX.Tabs T H ∧ Is X.K F (.ins C ns xs) x ∧ pre [.ins C ns xs] d ∧ ∀ v F1 H1, Nx T F H F1 H1 → Is X.K F1 d v → Q v H1) := by
  intro pins s σ H x v Q I rx ⟨F, ns, xs, d, e, nt, tbs, i, p, q⟩
  obtain ⟨a, dx, fs, rfl, e1, e2, e3⟩ := id i
  cases rx
  obtain ⟨mA, J, _⟩ := ins_get I.hok (e _ _ e1)
  obtain ⟨od, J, _⟩ := J.look
  obtain ⟨mm, hF⟩ := I.fr
  exact PySem.W.ksp_neg hF I.ok.mod.kin J M.at_ M.fn (M.run (P := X.prog) (w := X.w) (K := X.K) (mg := X.mg) (base := X.base) hr I (vs := [.ref a]) (.cons rfl .nil) e nt tbs (.cons i .nil) rfl p q)
/-- x op y, x of one's own class, y too -/
theorem bin_own {op : Operator} (M : OwnM T X.prog X.w X.K X.mg X.base C (PySem.dunder op.info.2) 2 k pre f) (hr : Room k X.A) (hc : PySem.W.selfFirst X.K C = true) :
    OpD T X (binaryOp op) (fun x y d => ∃ ns xs ms ys, x = .ins C ns xs ∧ y = .ins C ms ys ∧ pre [x, y] d) := by
  intro pins s σ H x y v u Q I rx ry ⟨F, dx, dy, d, e, nt, tbs, i1, i2, ⟨ns, xs, ms, ys, h1, h2, p⟩, q⟩
  subst h1; subst h2
  have lb := looks_ty I e i2 ry (t := .ref C) rfl
  obtain ⟨a, da, fs, rfl, e1, _⟩ := id i1
  cases rx
  obtain ⟨mA, J, _⟩ := ins_get I.hok (e _ _ e1)
  obtain ⟨od, J, _⟩ := J.look
  obtain ⟨mm, hF⟩ := I.fr
  exact PySem.W.binop_K hF I.ok.mod.kin J lb hc M.at_ M.fn (wpAny_mono (M.run (P := X.prog) (w := X.w) (K := X.K) (mg := X.mg) (base := X.base) hr I (vs := [.ref a, y]) (.cons rfl (.cons ry .nil)) e nt tbs (.cons i1 (.cons i2 .nil)) rfl p q) (fun v s' h => back_of h) fun _ _ z => z)
/-- x op i, x of one's own class, i an int -/
theorem bin_ownI {op : Operator} {fo ro : Option Value} (M : OwnM T X.prog X.w X.K X.mg X.base C (PySem.dunder op.info.2) 2 k pre f) (hr : Room k X.A) (hc : PySem.W.selfFirst X.K C = true) (hR : PySem.W.findIn X.K (.ref C) (dunderR op.info.2) = some (some (.ref f0)))
    (h1 : PySem.W.findIn X.K (.type "int") (PySem.dunder op.info.2) = some fo) (h2 : PySem.W.findIn X.K (.type "int") (dunderR op.info.2) = some ro) (hsub : PySem.W.subIn X.K (.type "int") (.ref C) = some false) :
    OpD T X (binaryOp op) (fun x y d => ∃ ns xs j, x = .ins C ns xs ∧ y = .int j ∧ pre [x, y] d) := by
  intro pins s σ H x y v u Q I rx ry ⟨F, dx, dy, d, e, nt, tbs, i1, i2, ⟨ns, xs, j, h1', h2', p⟩, q⟩
  subst h1'; subst h2'
  have ht : ∃ t, u = .int j t := by cases i2; exact ry
  obtain ⟨t, rfl⟩ := ht
  obtain ⟨a, da, fs, rfl, e1, _⟩ := id i1
  cases rx
  obtain ⟨mA, J, _⟩ := ins_get I.hok (e _ _ e1)
  obtain ⟨od, J, _⟩ := J.look
  obtain ⟨mm, hF⟩ := I.fr
  exact PySem.W.ksp_binT (T := "int") hF I.ok.mod.kin J rfl hc M.at_ M.fn hR (.inr ⟨_, rfl⟩) h1 h2 hsub (wpAny_mono (M.run (P := X.prog) (w := X.w) (K := X.K) (mg := X.mg) (base := X.base) hr I (vs := [.ref a, y]) (.cons rfl (.cons ry .nil)) e nt tbs (.cons i1 (.cons i2 .nil)) rfl p q) (fun v s' h => back_of h) fun _ _ z => z)
/-- i op x, i an int: the reflected method -/
theorem bin_Iown {op : Operator} {idn : String} {B : Builtin} (M : OwnM T X.prog X.w X.K X.mg X.base C (dunderR op.info.2) 2 k pre f) (hr : Room k X.A) (hc : PySem.W.selfFirst X.K C = true) (hs : PySem.W.findIn X.K (.ref C) (PySem.dunder op.info.2) = some (some (.ref f0)))
    (slot : Slot "int" (PySem.dunder op.info.2) idn) (entry : entryFor table idn = some B) (args : ∀ a b, argsOk idn ⟨[a, b], []⟩) (g : ∀ i t x C dx, Meets (B ⟨[.int i t, .ref x], []⟩) (FdS.Decl x C dx)) (fills : fillsNumberSlot (.type "int") op.info.2 = pure true)
    (hsub : PySem.W.subIn X.K (.ref C) (.type "int") = some false) : OpD T X (binaryOp op) (fun x y d => ∃ ns xs j, x = .int j ∧ y = .ins C ns xs ∧ pre [y, x] d) := by
  intro pins s σ H x y v u Q I rx ry ⟨F, dx, dy, d, e, nt, tbs, i1, i2, ⟨ns, xs, j, h1', h2', p⟩, q⟩
  subst h1'; subst h2'
  have ht : ∃ t, v = .int j t := by cases i1; exact rx
  obtain ⟨t, rfl⟩ := ht
  obtain ⟨a, da, fs, rfl, e1, _⟩ := id i2
  cases ry
  obtain ⟨mA, J, _⟩ := ins_get I.hok (e _ _ e1)
  obtain ⟨od, J, _⟩ := J.look
  exact FdS.bin_int I.kIn J slot entry (args _ _) (g _ _ _ _ _) fills hc hs M.at_ M.fn hsub (wpAny_mono (M.run (P := X.prog) (w := X.w) (K := X.K) (mg := X.mg) (base := X.base) hr I (vs := [.ref a, x]) (.cons rfl (.cons rx .nil)) e nt tbs (.cons i2 (.cons i1 .nil)) rfl p q) (fun v s' h => back_of h) fun _ _ z => z)
/-- the facts of == and != -/
structure EqM (T : List (Addr × Str)) (P : Program) (w : World) (K : PySem.W.Frag) (mg : Str → Option Value) (base : Heap) (C : Addr) (k : Nat) (pre : List D → D → Prop) (f : Addr) : Prop where
  m : OwnM T P w K mg base C "__eq__" 2 k pre f
  ne : PySem.W.findIn K (.ref C) "__ne__" = some (some (.builtin "object.__ne__"))
  ob : PySem.W.subIn K (.ref C) (.type "object") = some true
theorem eq_own (M : EqM T X.prog X.w X.K X.mg X.base C k pre f) (hr : Room k X.A) : OpD T X (compareOp .Eq) (fun x y d => ∃ ns xs tb r, x = .ins C ns xs ∧ y.ty? = some tb ∧ PySem.W.notFirst X.K C tb = true ∧ d = .bl r ∧ pre [x, y] d) := by
  intro pins s σ H x y v u Q I rx ry ⟨F, dx, dy, d, e, nt, tbs, i1, i2, ⟨ns, xs, tb, r, h1', h2', h3, h4, p⟩, q⟩
  subst h1'
  have lb := looks_ty I e i2 ry h2'
  obtain ⟨a, da, fs, rfl, e1, _⟩ := id i1
  cases rx
  obtain ⟨mA, J, _⟩ := ins_get I.hok (e _ _ e1)
  obtain ⟨od, J, _⟩ := J.look
  show wpAny _ _ (richCompare .Eq _ _) _ _ _
  exact FdS.cmp_left hr.units0 I.kIn J lb h3 (FdS.try_own I.kIn J M.m.at_ M.m.fn (wpAny_mono (M.m.run (P := X.prog) (w := X.w) (K := X.K) (mg := X.mg) (base := X.base) hr I (vs := [.ref a, y]) (.cons rfl (.cons ry .nil)) e nt tbs (.cons i1 (.cons i2 .nil)) rfl p q) (fun v s' h => back_of h) fun _ _ z => z))
theorem ne_run (M : EqM T X.prog X.w X.K X.mg X.base C k pre f) (hr : Room (k + 1) X.A) {a : Addr} {y : V} {u : Value} {r : Bool} {dx dy : D} {Q : VK} (I : Inv X pins σ H s) (ry : RelV y u) (e : Ext F H) (nt : ∀ p ps, F p ≠ some (.tbl ps)) (tbs : LamX.Tabs T H) (i1 : Is X.K F dx (.ref a)) (i2 : Is X.K F dy y) (p : pre [dx, dy] (.bl r))
    (q : ∀ v F1 H1, Nx T F H F1 H1 → Is X.K F1 (.bl (!r)) v → Q v H1) : wpAny (model X.prog X.w) X.A.in1 (call (.ref f) [.ref a, u]) (fun v s' => ∃ k, v = .bool k ∧ EP X pins σ Q (.bool (!k)) s') X.xe s := by
  refine wpAny_mono (OwnM.run (X := Cx.in1 X) (P := X.prog) (w := X.w) (K := X.K) (mg := X.mg) (base := X.base) (vs := [.ref a, y]) (Q := fun v H1 => v = .bl r ∧ Q (.bl (!r)) H1) M.m hr.in1 (Inv.in1 I) (.cons rfl (.cons ry .nil)) e nt tbs (.cons i1 (.cons i2 .nil)) rfl p fun v F1 H1 n1 iv => ⟨iv, q _ F1 H1 n1 rfl⟩) (fun v s' h => ?_) fun _ _ z => z
  obtain ⟨v', H', I', rv, ev, q'⟩ := h
  subst ev
  cases rv
  exact ⟨r, rfl, .bl (!r), H', Inv.out1 I', rfl, q'⟩
theorem ne_own (M : EqM T X.prog X.w X.K X.mg X.base C k pre f) (hr : Room (k + 1) X.A) : OpD T X (compareOp .NotEq) (fun x y d => ∃ ns xs tb r, x = .ins C ns xs ∧ y.ty? = some tb ∧ PySem.W.notFirst X.K C tb = true ∧ d = .bl (!r) ∧ pre [x, y] (.bl r)) := by
  intro pins s σ H x y v u Q I rx ry ⟨F, dx, dy, d, e, nt, tbs, i1, i2, ⟨ns, xs, tb, r, h1', h2', h3, h4, p⟩, q⟩
  subst h1'; subst h4
  have lb := looks_ty I e i2 ry h2'
  obtain ⟨a, da, fs, rfl, e1, _⟩ := id i1
  cases rx
  obtain ⟨mA, J, _⟩ := ins_get I.hok (e _ _ e1)
  obtain ⟨od, J, _⟩ := J.look
  show wpAny _ _ (richCompare .NotEq _ _) _ _ _
  exact FdS.cmp_left hr.units0 I.kIn J lb h3 (FdS.try_ne (by have := hr.units; omega) I.kIn J M.ne M.ob M.m.at_ M.m.fn (ne_run M hr I ry e nt tbs i1 i2 p q))
theorem eq_Iown (M : EqM T X.prog X.w X.K X.mg X.base C k pre f) (hr : Room k X.A) (hsub : PySem.W.subIn X.K (.ref C) (.type "int") = some false) : OpD T X (compareOp .Eq) (fun x y d => ∃ ns xs j r, x = .int j ∧ y = .ins C ns xs ∧ d = .bl r ∧ pre [y, x] d) := by
  intro pins s σ H x y v u Q I rx ry ⟨F, dx, dy, d, e, nt, tbs, i1, i2, ⟨ns, xs, j, r, h1', h2', h3, p⟩, q⟩
  subst h1'; subst h2'
  have ht : ∃ t, v = .int j t := by cases i1; exact rx
  obtain ⟨t, rfl⟩ := ht
  obtain ⟨a, da, fs, rfl, e1, _⟩ := id i2
  cases ry
  obtain ⟨mA, J, _⟩ := ins_get I.hok (e _ _ e1)
  obtain ⟨od, J, _⟩ := J.look
  show wpAny _ _ (richCompare .Eq _ _) _ _ _
  exact FdS.cmp_int hr.units0 I.kIn J PySem.F.slot_int_eq PySem.F.entry_int_eq (PySem.F.args_int_eq_2 _ _) (FdS.int_eq_inst _ _ _ _ _) hsub (FdS.try_own I.kIn J M.m.at_ M.m.fn (wpAny_mono (M.m.run (P := X.prog) (w := X.w) (K := X.K) (mg := X.mg) (base := X.base) hr I (vs := [.ref a, x]) (.cons rfl (.cons rx .nil)) e nt tbs (.cons i2 (.cons i1 .nil)) rfl p q) (fun v s' h => back_of h) fun _ _ z => z))
theorem ne_Iown (M : EqM T X.prog X.w X.K X.mg X.base C k pre f) (hr : Room (k + 1) X.A) (hsub : PySem.W.subIn X.K (.ref C) (.type "int") = some false) : OpD T X (compareOp .NotEq) (fun x y d => ∃ ns xs j r, x = .int j ∧ y = .ins C ns xs ∧ d = .bl (!r) ∧ pre [y, x] (.bl r)) := by
  intro pins s σ H x y v u Q I rx ry ⟨F, dx, dy, d, e, nt, tbs, i1, i2, ⟨ns, xs, j, r, h1', h2', h3, p⟩, q⟩
  subst h1'; subst h2'; subst h3
  have ht : ∃ t, v = .int j t := by cases i1; exact rx
  obtain ⟨t, rfl⟩ := ht
  obtain ⟨a, da, fs, rfl, e1, _⟩ := id i2
  cases ry
  obtain ⟨mA, J, _⟩ := ins_get I.hok (e _ _ e1)
  obtain ⟨od, J, _⟩ := J.look
  show wpAny _ _ (richCompare .NotEq _ _) _ _ _
  exact FdS.cmp_int hr.units0 I.kIn J PySem.F.slot_int_ne PySem.F.entry_int_ne (PySem.F.args_int_ne_2 _ _) (FdS.int_ne_inst _ _ _ _ _) hsub (FdS.try_ne (by have := hr.units; omega) I.kIn J M.ne M.ob M.m.at_ M.m.fn (ne_run M hr I rx e nt tbs i2 i1 p q))
end
end Fd

set_option Elab.async false
set_option linter.all false
set_option maxRecDepth 100000
set_option maxHeartbeats 4000000
/-! Fd7: lists joined, repeated, extended; all; count; == of data; exceptions as data. -/
namespace Fd
open PySem PySem.Spec PyProof.Rows L2
section
variable {T : List (Addr × Str)} {X : Cx} {ss : SS} {P : Post} {a b e : Expr} {es : List Expr} {xs ys : List D} {d : D} {x : Str} {p pos : Pos}
/-- xs + ys: a new list -/
theorem ev_cat (hl : xs.length + ys.length ≤ 100000) (ha : EV T X a ss (.lst xs)) (hb : EV T X b ss (.lst ys)) : EV T X (.BinOp a .Add b pos) ss (.lst (xs ++ ys)) :=
  ev_op op_cat ha hb fun B F H σ v u Q R i1 i2 q => by
    obtain ⟨l, vs, rfl, e1, e2⟩ := i1
    obtain ⟨m, us, rfl, f1, f2⟩ := i2
    refine ⟨l, m, vs, us, rfl, rfl, R.sub _ _ e1, R.sub _ _ f1, by rw [e2.length, f2.length]; exact small_len hl, fun p hp => ?_⟩
    have n := Nx.alloc (T := T) (o := .lst (vs ++ us)) R.sub hp
    exact q _ _ _ n (R.grow n) ⟨p, _, rfl, upd_same, IsL.mono n.f _ (e2.append f2)⟩
theorem isL_rep {K : PySem.W.Frag} {F : Hp} {xs : List D} {vs : List V} (h : IsL K F xs vs) : ∀ n : Nat, IsL K F (List.replicate n xs).flatten (List.replicate n vs).flatten
  | 0 => rfl
  | n + 1 => by
    rw [List.replicate_succ, List.replicate_succ, List.flatten_cons, List.flatten_cons]
    exact h.append (isL_rep h n)
/-- xs * k -/
theorem ev_rep {k : Int} (hk : 0 ≤ k ∧ k ≤ 1000) (hl : xs.length * k.toNat ≤ 100000) (ha : EV T X a ss (.lst xs)) (hb : EV T X b ss (.int k)) : EV T X (.BinOp a .Mult b pos) ss (.lst (List.replicate k.toNat xs).flatten) :=
  ev_op op_rep ha hb fun B F H σ v u Q R i1 i2 q => by
    obtain ⟨l, vs, rfl, e1, e2⟩ := i1
    refine ⟨l, k, vs, rfl, i2, R.sub _ _ e1, by omega, by omega, by rw [e2.length]; exact small_len hl, fun p hp => ?_⟩
    have n := Nx.alloc (T := T) (o := .lst (List.replicate k.toNat vs).flatten) R.sub hp
    exact q _ _ _ n (R.grow n) ⟨p, _, rfl, upd_same, IsL.mono n.f _ (isL_rep e2 _)⟩
/-- x.extend(ys) -/
theorem sv_extend (i : Nat) {x : Str} {px ap cp : Pos} (hx : ss[i]? = some (.own xs)) (he : EV T X e ss (.lst ys)) (k : P.nx (ss.set i (.own (xs ++ ys)))) (hl : xs.length + ys.length ≤ 100000)
    (hp : ∀ {te : TE}, PE X e te → PE X (.Call (.Attribute (.Name x px) "extend" ap) [e] [] cp) (tBM X.K "list" rExtend (tVar i) (tCons te tNil)) := by
      intro te h; exact pe_bm PySem.F.plainAttrs_list PySem.F.slot_list_extend PySem.F.type_list_extend mt_extend (pv _) (pa_cons h pa_nil))
    (hs : swapsWith (.Call (.Attribute (.Name x px) "extend" ap) [e] [] cp) none pos.line X.env = pure false := by rfl) :
    SV T X (.Expr (.Call (.Attribute (.Name x px) "extend" ap) [e] [] cp) pos) ss P := by
  refine SV.of (ps_expr (hp he) hs) fun B F H σ Dn R g => ?_
  have hi : i < ss.length := (List.getElem?_eq_some_iff.mp hx).1
  have hsl : i < σ.length := by rw [R.len]; exact hi
  obtain ⟨p, vs, e1, e2, e3, e4⟩ := R.slots i _ _ hx (List.getElem?_eq_getElem hsl)
  have hσ : σ[i]? = some (some (.ref p)) := by rw [List.getElem?_eq_getElem hsl, e1]
  refine ⟨.ref p, hσ, .inl ⟨rfl, vs, SqL.of e3⟩, ev_go R fun v F1 H1 n1 R1 i1 => ?_⟩
  obtain ⟨p', vs', q1, q2, q3, q4⟩ := R1.slots i _ _ hx (List.getElem?_eq_getElem hsl)
  rw [q1] at e1
  cases e1
  obtain ⟨m, us, rfl, f1, f2⟩ := i1
  refine ⟨p, m, _, us, rfl, rfl, q3, R1.sub _ _ f1, ?_, g.nx _ _ _ _ k (R1.chg hx rfl hσ rfl q2 ⟨p, _, rfl, q2, upd_same, q4.append f2⟩)⟩
  rw [q4.length, f2.length]
  exact small_len hl
theorem isL_bl {K : PySem.W.Frag} {F : Hp} : ∀ {bs : List Bool} {vs : List V}, IsL K F (bs.map D.bl) vs → vs = bs.map V.bl
  | [], _, h => h
  | b :: bs, _, h => by
    obtain ⟨v, r, rfl, h1, h2⟩ := h
    cases h1
    rw [isL_bl h2]
    rfl
/-- all(list of truth values) -/
theorem ev_all {bs : List Bool} (ha : EV T X e ss (.lst (bs.map D.bl))) (hm : X.mg "all" = none) (hc : X.calm = true := by rfl) (hg : Gl X "all" := by rfl) (he : starEach [e] X.env = [(false, eval e X.env)] := by rfl) : EV T X (.Call (.Name "all" p) [e] [] pos) ss (.bl (bs.all id)) :=
  ev_blt (cr_all hc) (evs_cons ha evs_nil he) hm (by decide +kernel) (fun B F H σ vs Q R i1 q => by
    obtain ⟨v, rfl, h⟩ := isL1 i1
    obtain ⟨l, us, rfl, e1, e2⟩ := h
    rw [isL_bl e2] at e1
    exact ⟨l, bs, rfl, SqL.of (R.sub _ _ e1), q _ F H R.nx R rfl⟩) hg (he := he)
theorem ev_any {bs : List Bool} (ha : EV T X e ss (.lst (bs.map D.bl))) (hm : X.mg "any" = none) (hc : X.calm = true := by rfl) (hg : Gl X "any" := by rfl) (he : starEach [e] X.env = [(false, eval e X.env)] := by rfl) : EV T X (.Call (.Name "any" p) [e] [] pos) ss (.bl (bs.any id)) :=
  ev_blt (cr_any hc) (evs_cons ha evs_nil he) hm (by decide +kernel) (fun B F H σ vs Q R i1 q => by
    obtain ⟨v, rfl, h⟩ := isL1 i1
    obtain ⟨l, us, rfl, e1, e2⟩ := h
    rw [isL_bl e2] at e1
    exact ⟨l, bs, rfl, SqL.of (R.sub _ _ e1), q _ F H R.nx R rfl⟩) hg (he := he)
/-! list.count(True) -/
def rCntB (K : PySem.W.Frag) : V → List V → Hp → VK → Prop := fun x xs H Q => ∃ (p : Addr) (bs : List Bool), x = .ref p ∧ xs = [.bl true] ∧ SqL K H p (bs.map V.bl) ∧ Q (.int ((bs.filter id).length : Nat)) H
def eqT : Value → Bool
  | .bool b => b
  | _ => false
theorem bool_vals : ∀ {bs : List Bool} {its : List Value}, Vals (bs.map V.bl) its → its = bs.map Value.bool
  | [], _, .nil => rfl
  | b :: bs, _, .cons r t => by
    cases r
    rw [bool_vals t]
    rfl
theorem count_bools : ∀ bs : List Bool, (bs.map Value.bool).countP eqT = (bs.filter id).length
  | [] => rfl
  | b :: bs => by
    rw [List.map_cons, List.countP_cons, count_bools bs, List.filter_cons]
    cases b
    · rfl
    · simp [eqT]
theorem mt_cntB : MtR X "list.count" (rCntB X.K) := by
  intro pins s σ H x xs v us Q I rx rxs h
  obtain ⟨p, bs, rfl, rfl, hs, q⟩ := h
  cases rx
  obtain ⟨u, rfl, ru⟩ := rxs.one
  obtain rfl : u = Value.bool true := ru
  obtain ⟨its, rv, ⟨⟨cls, dd, data, sl⟩, n, ho, hc, hdn, hd⟩, hlen⟩ := I.list hs
  simp only at hc hd
  subst hc hd
  have hi := bool_vals rv
  subst hi
  refine call_meets PySem.F.slot_list_count ⟨_, ho, rfl⟩ PySem.F.entry_list_count (PySem.F.args_list_count_2 _ _)
    (SeqAt.list_countAt p (bs.map Value.bool).toArray n dd sl (.bool true) eqT) ⟨ho, fun y hy => ?_, ?_⟩
  · have hy' : y ∈ bs.map Value.bool := by simpa using hy
    obtain ⟨b, _, rfl⟩ := List.mem_map.mp hy'
    have := eqAt_V (A := X.A.in1) (s := s) (y := .bl b) (x := .bl true) (u := .bool b) (v := .bool true) rfl rfl rfl rfl
    cases b <;> exact this
  · refine ⟨.int ((bs.filter id).length : Nat), H, I.tok _, ⟨s.toks, ?_⟩, q⟩
    show Value.int (((bs.map Value.bool).toArray.toList.countP eqT : Nat) : Int) s.toks = _
    rw [show (bs.map Value.bool).toArray.toList = bs.map Value.bool from rfl, count_bools]
theorem ev_countT {o : Expr} {bs : List Bool} {ap cp bp : Pos} {j} (ho : EV T X o ss (.lst (bs.map D.bl)))
    (hp : ∀ {to te : TE}, PE X o to → PE X (.Constant (.bool true) j bp) te → PE X (.Call (.Attribute o "count" ap) [.Constant (.bool true) j bp] [] cp) (tBM X.K "list" (rCntB X.K) to (tCons te tNil)) := by
      intro to te h h2; exact pe_bm PySem.F.plainAttrs_list PySem.F.slot_list_count PySem.F.type_list_count mt_cntB h (pa_cons h2 pa_nil)) :
    EV T X (.Call (.Attribute o "count" ap) [.Constant (.bool true) j bp] [] cp) ss (.int ((bs.filter id).length : Nat)) :=
  EV.of (hp ho (ev_bl (ss := ss))) fun B F H σ Q R q => ev_go R fun v F1 H1 n1 R1 i1 => by
    obtain ⟨l, us, rfl, e1, e2⟩ := i1
    rw [isL_bl e2] at e1
    refine ⟨.inl ⟨rfl, _, SqL.of (R1.sub _ _ e1)⟩, ev_go R1 fun w F2 H2 n2 R2 i2 => ?_⟩
    cases i2
    exact ⟨l, bs, rfl, rfl, SqL.of (R2.sub _ _ (n2.f _ _ e1)), q _ F2 H2 (n1.trans n2) R2 rfl⟩
end
/-! ### == of data -/
mutual
def D.py : D → Option PyData
  | .non => some .none | .bl b => some (.bool b) | .int i => some (.int i) | .str x => some (.str x)
  | .lst xs => (D.pys xs).map .list | .rdl xs => (D.pys xs).map .list | .tup xs => (D.pys xs).map .tuple
  | _ => none
def D.pys : List D → Option (List PyData)
  | [] => some []
  | x :: xs => match D.py x, D.pys xs with
    | some p, some ps => some (p :: ps)
    | _, _ => none
end
section
variable {K : PySem.W.Frag} {F H : Hp}
mutual
theorem py_dp (e : Ext F H) : ∀ (d : D) {v : V} {p : PyData}, Is K F d v → d.py = some p → Dp K H v p
  | .non, _, _, h, q => by cases h; cases q; exact .non
  | .bl b, _, _, h, q => by cases h; cases q; exact .bl b
  | .int i, _, _, h, q => by cases h; cases q; exact .int i
  | .str x, _, _, h, q => by cases h; cases q; exact .str x
  | .lst xs, _, _, h, q => by
    obtain ⟨a, vs, rfl, e1, e2⟩ := h
    obtain ⟨ps, hp, rfl⟩ := Option.map_eq_some_iff.mp q
    exact .lst (SqL.of (e _ _ e1)) (pys_dp e xs e2 hp)
  | .rdl xs, _, _, h, q => by
    obtain ⟨a, vs, rfl, e1, e2⟩ := h
    obtain ⟨ps, hp, rfl⟩ := Option.map_eq_some_iff.mp q
    exact .lst (ext_seqL e e1) (pys_dp e xs e2 hp)
  | .tup xs, _, _, h, q => by
    obtain ⟨a, vs, rfl, e1, e2⟩ := h
    obtain ⟨ps, hp, rfl⟩ := Option.map_eq_some_iff.mp q
    exact .tup (ext_seqT e e1) (pys_dp e xs e2 hp)
  | .ins _ _ _, _, _, _, q => by cases q
  | .dct _ _, _, _, _, q => by cases q
  | .exc _ _ _, _, _, _, q => by cases q
  | .adr _, _, _, _, q => by cases q
  | .ty _, _, _, _, q => by cases q
theorem pys_dp (e : Ext F H) : ∀ (ds : List D) {vs : List V} {ps : List PyData}, IsL K F ds vs → D.pys ds = some ps → DpAll K H vs ps
  | [], _, _, h, q => by cases (show _ = _ from h); cases q; exact .nil
  | x :: xs, _, _, h, q => by
    obtain ⟨v, r, rfl, h1, h2⟩ := h
    unfold D.pys at q
    cases e1 : D.py x with
    | none => rw [e1] at q; cases q
    | some p =>
      cases e2 : D.pys xs with
      | none => rw [e1, e2] at q; cases q
      | some ps =>
        rw [e1, e2] at q
        cases q
        exact .cons (py_dp e x h1 e1) (pys_dp e xs h2 e2)
end
end
section
variable {T : List (Addr × Str)} {X : Cx} {ss : SS} {a b : Expr} {pos : Pos} {x y : D} {p q : PyData} {k : Nat}
theorem opD_eq (hr : Room k X.A) : OpD T X (compareOp .Eq) (fun x y d => ∃ p q, x.py = some p ∧ y.py = some q ∧ SeqAt.shaped p = true ∧ SeqAt.shaped q = true ∧ d = .bl (PyData.eqv p q)) := fun pins s σ H x y v u Q I rx ry ⟨F, dx, dy, d, e, nt, tb, i1, i2, ⟨p, q, h1, h2, h3, h4, h5⟩, k⟩ => by
  subst h5
  exact op_eqD hr.units pins s σ H x y v u Q I rx ry ⟨p, q, py_dp e _ i1 h1, py_dp e _ i2 h2, h3, h4, k _ F H (Nx.refl e) rfl⟩
theorem opD_ne (hr : Room k X.A) : OpD T X (compareOp .NotEq) (fun x y d => ∃ p q, x.py = some p ∧ y.py = some q ∧ SeqAt.shaped p = true ∧ SeqAt.shaped q = true ∧ d = .bl (!PyData.eqv p q)) := fun pins s σ H x y v u Q I rx ry ⟨F, dx, dy, d, e, nt, tb, i1, i2, ⟨p, q, h1, h2, h3, h4, h5⟩, k⟩ => by
  subst h5
  exact op_neD hr.units pins s σ H x y v u Q I rx ry ⟨p, q, py_dp e _ i1 h1, py_dp e _ i2 h2, h3, h4, k _ F H (Nx.refl e) rfl⟩
theorem tv_neD (hr : Room k X.A) (ha : EV T X a ss x) (hb : EV T X b ss y) (h1 : x.py = some p) (h2 : y.py = some q) (h3 : SeqAt.shaped p = true) (h4 : SeqAt.shaped q = true) : TV T X (.Compare a [.NotEq] [b] pos) ss (!PyData.eqv p q) :=
  tv_cmpD (opD_ne hr) ha hb ⟨p, q, h1, h2, h3, h4, rfl⟩
theorem tv_eqD (hr : Room k X.A) (ha : EV T X a ss x) (hb : EV T X b ss y) (h1 : x.py = some p) (h2 : y.py = some q) (h3 : SeqAt.shaped p = true) (h4 : SeqAt.shaped q = true) : TV T X (.Compare a [.Eq] [b] pos) ss (PyData.eqv p q) :=
  tv_cmpD (opD_eq hr) ha hb ⟨p, q, h1, h2, h3, h4, rfl⟩
end
/-! ### exceptions that are held -/
section
open PySem.ExS
variable {T : List (Addr × Str)} {X : Cx} {ss : SS} {e c : Expr} {es : List Expr} {d : D} {x f y : Str} {p pos : Pos} {C fI cc cda : Addr} {k : Nat}
theorem ev_exc1 (EC : ExCls X.prog X.K X.mg C fI cc cda) (Fn : ExFn1 X.K C fI cc cda f y) (hr : Room k X.A) (hm : X.mg x = some (.ref C)) (he : EV T X e ss d) (hg : Gl X x := by rfl) (hdb : (x == ("__debug__" : Str)) = false := by decide)
    (hst : starEach [e] X.env = [(false, eval e X.env)] := by rfl) (hpl : (backTo pos (starEach [] X.env)).any (·.1) = false := by rfl) : EV T X (.Call (.Name x p) [e] [] pos) ss (.exc C [f] [d]) :=
  EV.of (pe_exv1 EC Fn hr (evs_cons he evs_nil hst) hm hg hdb hst hpl) fun B F H σ Q R q => evs_go R fun vs F1 H1 n1 R1 i1 => by
    obtain ⟨v, rfl, h⟩ := isL1 i1
    refine ⟨v, rfl, fun a dd ha hd ne => ?_⟩
    have m1 := Nx.alloc (T := T) (o := exd dd [(f, v)]) R1.sub hd
    have ha' : upd H1 dd (exd dd [(f, v)]) a = none := by rw [upd_ne (Ne.symm ne)]; exact ha
    have m2 := Nx.alloc (T := T) (o := exo a C (some dd)) (F := upd F1 dd (exd dd [(f, v)])) m1.s ha'
    have m := (n1.trans m1).trans m2
    refine q _ _ _ m (R.grow m) ⟨a, some dd, [(f, v)], rfl, upd_same, rfl, .cons (Is.mono (m1.f.trans m2.f) _ h) .nil, fun d' e' => ?_, fun z => nomatch z⟩
    cases e'
    rw [upd_ne ne, upd_same]
theorem ev_exc0 (EC : ExCls X.prog X.K X.mg C fI cc cda) (Fn : ExFn0 X.K fI cc cda) (hr : Room k X.A) (hm : X.mg x = some (.ref C)) (hg : Gl X x := by rfl) (hdb : (x == ("__debug__" : Str)) = false := by decide) : EV T X (.Call (.Name x p) [] [] pos) ss (.exc C [] []) :=
  EV.of (pe_exv0 EC Fn hr hm hg hdb) fun B F H σ Q R q => fun a ha => by
    have m := Nx.alloc (T := T) (o := exo a C none) R.sub ha
    exact q _ _ _ m (R.grow m) ⟨a, none, [], rfl, upd_same, rfl, rfl, (fun d' e' => nomatch e'), fun _ => rfl⟩
theorem ev_excF (EC : ExCls X.prog X.K X.mg C fI cc cda) (hno : PySem.W.findIn X.K (.ref C) f = some none) (he : EV T X e ss (.exc C [f] [d])) (hb : attributeBase e f X.env (eval e X.env) = eval e X.env := by rfl) : EV T X (.Attribute e f pos) ss d :=
  EV.of (pe_exf EC hno he hb) fun B F H σ Q R q => ev_go R fun v F1 H1 n1 R1 i1 => by
    obtain ⟨a, od, fs, rfl, e1, e2, e3, e4, e5⟩ := i1
    cases fs with
    | nil => cases e2
    | cons q0 r =>
      cases r with
      | cons _ _ => cases e2
      | nil =>
        obtain ⟨g, v⟩ := q0
        obtain rfl : g = f := by simpa using e2
        obtain ⟨v', hv, iv⟩ := isL1 e3
        have : v = v' := by simpa using hv
        subst this
        cases od with
        | none => cases e5 rfl
        | some dd => exact ⟨a, dd, _, v, rfl, R1.sub _ _ e1, R1.sub _ _ (e4 dd rfl), by simp [List.lookup], q v F1 H1 n1 R1 iv⟩
/-- what isinstance asks of a class of exceptions -/
structure ExIs (K : PySem.W.Frag) (C : Addr) : Prop where
  cl : (PySem.W.clsIn K C).isSome = true
  ga : PySem.W.findIn K (.ref C) "__getattribute__" = some (some (.builtin "BaseException.__getattribute__"))
  gg : PySem.W.findIn K (.ref C) "__getattr__" = some none
  be : PySem.W.subIn K (.ref C) (.type "BaseException") = some true
  ca : PySem.W.findIn K (.ref C) "__class__" = some (some (.builtin "object.__class__"))
  gd : PySem.W.specialIn K (.builtin "object.__class__") "__get__" = some (some (.builtin "getset_descriptor.__get__"))
  tk : PySem.W.takesIn K (.builtin "object.__class__") = some true
  ob : PySem.W.mroIn K C (.type "object") = some true
def rIsE (K : PySem.W.Frag) : List V → Hp → VK → Prop := fun xs H Q => ∃ (a C : Addr) (od : Option Addr) (c : V) (u : Value) (b : Bool), xs = [.ref a, c] ∧ H a = some (exo a C od) ∧ (∀ d, od = some d → ∃ fs, H d = some (exd d fs)) ∧ ClsV c u ∧ ExIs K C ∧ PySem.W.kitOne K (.ref C) u = some b ∧ Q (.bl b) H
theorem call_isE : CallR X (.builtin "isinstance") (rIsE X.K) := by
  intro pins s σ H xs us Q I r h
  obtain ⟨a, C, od, c, u, b, rfl, ea, ed, k, T, e, q⟩ := h
  obtain ⟨u1, u2, rfl, r1, r2⟩ := vals2 r
  have e2 := k.eq r2
  subst e2
  cases r1
  obtain ⟨t1, ha⟩ := exo_at I.hok ea
  have J : ∃ oo, PySem.W.InstAt s.heap a { cls := .ref C, dict := od, data := .fields #[.ref t1, .none, .none, .none, .bool false, .none] } C oo := by
    cases od with
    | none => exact ⟨none, ha, rfl, rfl, trivial⟩
    | some d =>
      obtain ⟨fs, hd⟩ := ed d rfl
      obtain ⟨mA, ⟨o, es, ep, ho, _⟩, _⟩ := exd_at I.hok hd
      exact ⟨some o, ha, rfl, rfl, ho⟩
  obtain ⟨oo, J⟩ := J
  exact PySem.W.kia_one (PySem.W.kitx_exc (ox := { cls := .ref C, dict := od, data := .fields #[.ref t1, .none, .none, .none, .bool false, .none] }) (od := oo) T.cl T.ga T.gg T.be T.ca T.gd T.tk T.ob) I.kIn J e (fun z => nomatch z) fun tk => ⟨.bl b, H, I.tok tk, rfl, q⟩
/-- isinstance(e, D) -/
theorem ev_isE {ns : List Str} {xs : List D} {D' : Addr} {b : Bool} {cn : Str} {pc : Pos} (EC : ExIs X.K C) (he : EV T X e ss (.exc C ns xs)) (hcm : X.mg cn = some (.ref D')) (hk : PySem.W.kitOne X.K (.ref C) (.ref D') = some b) (hm : X.mg "isinstance" = none)
    (hcg : Gl X cn := by rfl) (hcd : (cn == ("__debug__" : Str)) = false := by decide) (hg : Gl X "isinstance" := by rfl) (hst : starEach [e, .Name cn pc] X.env = (false, eval e X.env) :: starEach [.Name cn pc] X.env := by rfl) (hst2 : starEach [.Name cn pc] X.env = [(false, eval (.Name cn pc) X.env)] := by rfl)
    (hpl : (backTo pos (starEach [.Name cn pc] X.env)).any (·.1) = false := by rfl) : EV T X (.Call (.Name "isinstance" p) [e, .Name cn pc] [] pos) ss (.bl b) :=
  EV.of (pe_callB call_isE hg hm (by decide +kernel) (pa_cons he (pa_cons (pe_glob hcg hcm (show RelV (.ref D') (.ref D') from rfl) hcd) pa_nil hst2) hst) (by decide) (by decide) hst hpl) fun B F H σ Q R q => ev_go R fun v F1 H1 n1 R1 i1 => by
    obtain ⟨a, od, fs, rfl, e1, e2, e3, e4, e5⟩ := i1
    exact ⟨a, C, od, _, _, b, rfl, R1.sub _ _ e1, fun d z => ⟨fs, R1.sub _ _ (e4 d z)⟩, .own D', EC, hk, q _ F1 H1 n1 R1 rfl⟩
/-- isinstance(e, ValueError) -/
theorem ev_isB {ns : List Str} {xs : List D} {b : Bool} {cn : Str} {tn : String} {pc : Pos} (EC : ExIs X.K C) (he : EV T X e ss (.exc C ns xs)) (hcm : X.mg cn = none) (hcv : bootBuiltins cn = some (.type tn)) (hk : PySem.W.kitOne X.K (.ref C) (.type tn) = some b) (hm : X.mg "isinstance" = none)
    (hcg : Gl X cn := by rfl) (hcn : cn ≠ "__name__" := by decide) (hcd : (cn == ("__debug__" : Str)) = false := by decide) (hg : Gl X "isinstance" := by rfl) (hst : starEach [e, .Name cn pc] X.env = (false, eval e X.env) :: starEach [.Name cn pc] X.env := by rfl) (hst2 : starEach [.Name cn pc] X.env = [(false, eval (.Name cn pc) X.env)] := by rfl)
    (hpl : (backTo pos (starEach [.Name cn pc] X.env)).any (·.1) = false := by rfl) : EV T X (.Call (.Name "isinstance" p) [e, .Name cn pc] [] pos) ss (.bl b) :=
  EV.of (pe_callB call_isE hg hm (by decide +kernel) (pa_cons he (pa_cons (pe_bltn hcg hcm hcv (show RelV (.ty tn) (.type tn) from rfl) hcn hcd) pa_nil hst2) hst) (by decide) (by decide) hst hpl) fun B F H σ Q R q => ev_go R fun v F1 H1 n1 R1 i1 => by
    obtain ⟨a, od, fs, rfl, e1, e2, e3, e4, e5⟩ := i1
    exact ⟨a, C, od, _, _, b, rfl, R1.sub _ _ e1, fun d z => ⟨fs, R1.sub _ _ (e4 d z)⟩, .ty tn, EC, hk, q _ F1 H1 n1 R1 rfl⟩
end
end Fd

set_option Elab.async false
set_option linter.all false
set_option maxRecDepth 100000
set_option maxHeartbeats 4000000
/-! Fd8: a, b = x, y; objects that are made: self.f = x in __init__, and C(..). -/
namespace Fd
open PySem PySem.Spec PyProof.Rows L2
section
variable {T : List (Addr × Str)} {X : Cx} {ss : SS} {P : Post} {a b c e : Expr} {es : List Expr} {d d1 d2 d3 : D} {x y z : Str} {pos : Pos}
theorem isL3 {K : PySem.W.Frag} {F : Hp} {x y z : D} {vs : List V} (h : IsL K F [x, y, z] vs) : ∃ u v w, vs = [u, v, w] ∧ Is K F x u ∧ Is K F y v ∧ Is K F z w := by
  obtain ⟨v, r, rfl, h1, h2⟩ := h
  obtain ⟨u, w, rfl, h3, h4⟩ := isL2 h2
  exact ⟨v, u, w, rfl, h1, h3, h4⟩
/-- a, b = x, y -/
theorem sv_par (i j : Nat) {px py pt : Pos} {kt k2 pt2} (he : EVs T X [a, b] ss [d1, d2]) (k : P.nx ((ss.set i (.d d1)).set j (.d d2))) (hN : X.N.Nodup) (hij : i ≠ j := by decide) (hc : X.calm = true := by rfl) (hi : X.N[i]? = some x := by rfl) (hj : X.N[j]? = some y := by rfl)
    (hx : X.env.scope.names.lookup x = some .local := by rfl) (hy : X.env.scope.names.lookup y = some .local := by rfl)
    (hw : swappedStores [.Tuple [.Name x px, .Name y py] kt pt] (.Tuple [a, b] k2 pt2) X.env = pure (some [x, y]) := by rfl)
    (hs : swapsWithSole [.Tuple [.Name x px, .Name y py] kt pt] (.Tuple [a, b] k2 pt2) pos.line X.env = pure false := by rfl) : SV T X (.Assign [.Tuple [.Name x px, .Name y py] kt pt] (.Tuple [a, b] k2 pt2) pos) ss P :=
  SV.of (ps_par hc hN hi hj hij hx hy he hw hs) fun B F H σ Dn R g => evs_go R fun vs F1 H1 n1 R1 i1 => by
    obtain ⟨v, w, rfl, h1, h2⟩ := isL2 i1
    exact ⟨v, w, rfl, g.nx _ _ _ _ k ((R1.put h1).put h2)⟩
theorem sv_par3 (i j l : Nat) {px py pz pt : Pos} {kt k2 pt2} (he : EVs T X [a, b, c] ss [d1, d2, d3]) (k : P.nx (((ss.set i (.d d1)).set j (.d d2)).set l (.d d3))) (hN : X.N.Nodup) (hij : i ≠ j := by decide) (hil : i ≠ l := by decide) (hjl : j ≠ l := by decide) (hc : X.calm = true := by rfl)
    (hi : X.N[i]? = some x := by rfl) (hj : X.N[j]? = some y := by rfl) (hl : X.N[l]? = some z := by rfl)
    (hx : X.env.scope.names.lookup x = some .local := by rfl) (hy : X.env.scope.names.lookup y = some .local := by rfl) (hz : X.env.scope.names.lookup z = some .local := by rfl)
    (hw : swappedStores [.Tuple [.Name x px, .Name y py, .Name z pz] kt pt] (.Tuple [a, b, c] k2 pt2) X.env = pure (some [x, y, z]) := by rfl)
    (hs : swapsWithSole [.Tuple [.Name x px, .Name y py, .Name z pz] kt pt] (.Tuple [a, b, c] k2 pt2) pos.line X.env = pure false := by rfl) : SV T X (.Assign [.Tuple [.Name x px, .Name y py, .Name z pz] kt pt] (.Tuple [a, b, c] k2 pt2) pos) ss P :=
  SV.of (ps_par3 hc hN hi hj hl hij hil hjl hx hy hz he hw hs) fun B F H σ Dn R g => evs_go R fun vs F1 H1 n1 R1 i1 => by
    obtain ⟨u, v, w, rfl, h1, h2, h3⟩ := isL3 i1
    exact ⟨u, v, w, rfl, g.nx _ _ _ _ k (((R1.put h1).put h2).put h3)⟩
/-- // by a divisor of either sign, not too great -/
def CDivX (_ j : Int) : Prop := j ≠ 0 ∧ j.natAbs.log2 < 9000
theorem op_fdivX : OpR X (binaryOp .FloorDiv) (rI CDivX fun i j => .int (i.fdiv j)) := opI fun _ _ _ _ _ _ _ hc q => floordiv_int hc.1 q (.inl (PyProof.noPylong_of_log2 hc.2))
theorem ev_fdivX {i j : Int} (hc : CDivX i j) (ha : EV T X a ss (.int i)) (hb : EV T X b ss (.int j)) : EV T X (.BinOp a .FloorDiv b pos) ss (.int (i.fdiv j)) :=
  ev_op op_fdivX ha hb fun B F H σ v u Q R i1 i2 q => ⟨i, j, i1, i2, hc, q _ F H R.nx R rfl⟩
/-! ### objects -/
theorem putF_new {f : Str} {v : V} : ∀ {fs : List (Str × V)}, f ∉ fs.map (·.1) → putF f v fs = fs ++ [(f, v)]
  | [], _ => rfl
  | (g, u) :: r, h => by
    have ne : g ≠ f := fun z => h (by simp [z])
    show (if g = f then (g, v) :: r else (g, u) :: putF f v r) = _
    rw [if_neg ne, putF_new (fs := r) fun z => h (by simp at z ⊢; exact .inr z)]
    rfl
/-- self.f = e, a new field -/
theorem sv_fldO (i : Nat) {p C : Addr} {ns : List Str} {xs : List D} {f s : Str} {po pa : Pos} (hi : ss[i]? = some (.obj p C ns xs)) (he : EV T X e ss d) (k : P.nx (ss.set i (.obj p C (ns ++ [f]) (xs ++ [d])))) (cl : Cls X.K C) (na : NoAttr X.K C f) (nf : f ∉ ns) (hl : ns.length < 1000)
    (hN : X.N[i]? = some s := by rfl) (hv : Vis X.env.scope s := by first | exact Or.inl rfl | exact Or.inr (Or.inl rfl) | exact Or.inr (Or.inr rfl)) (hd : (s == ("__debug__" : Str)) = false := by decide) (hcd : (s == ("__classdict__" : Str)) = false := by decide)
    (hs : swapsWith e (some (.Attribute (.Name s po) f pa)) pos.line X.env = pure false := by rfl) : SV T X (.Assign [.Attribute (.Name s po) f pa] e pos) ss P :=
  SV.of (ps_fld (pe_var hN hv hd hcd) he hs) fun B F H σ Dn R g => ev_go R fun v F1 H1 n1 R1 i1 => by
    have hsl : i < σ.length := by rw [R1.len]; exact (List.getElem?_eq_some_iff.mp hi).1
    obtain ⟨dx, fs, e1, e2, e3, e4, e5⟩ := R1.slots i _ _ hi (List.getElem?_eq_getElem hsl)
    have hσ : σ[i]? = some (some (.ref p)) := by rw [List.getElem?_eq_getElem hsl, e1]
    subst e4
    have key := R1.chg (o := .ins C dx (putF f v fs)) (s' := .obj p C (fs.map (·.1) ++ [f]) (xs ++ [d])) hi rfl hσ rfl e2 ⟨dx, _, rfl, e2, upd_same, by rw [putF_new nf]; simp, by rw [putF_new nf, List.map_append]; exact e5.snoc i1⟩
    exact ⟨.ref p, hσ, p, C, dx, fs, rfl, e3, cl, na, by simpa using hl, g.nx _ _ F1 _ k key⟩
end
section
variable {T : List (Addr × Str)} {K : PySem.W.Frag} {B : Hp × Hp} {F H : Hp} {σ : L2.St} {ss : SS}
/-- an own object is never changed again: a datum -/
theorem StR.freezeO {i : Nat} {C : Addr} {ns : List Str} {xs : List D} {p : Addr} (R : StR T K B F H σ ss) (h : ss[i]? = some (.obj p C ns xs)) : ∃ F', Nx T B.1 B.2 F' H ∧ Is K F' (.ins C ns xs) (.ref p) := by
  have hi : i < ss.length := (List.getElem?_eq_some_iff.mp h).1
  have hsl : i < σ.length := by rw [R.len]; exact hi
  obtain ⟨dx, fs, e, e1, e2, e3, e4⟩ := R.slots i _ _ h (List.getElem?_eq_getElem hsl)
  have hσ : σ[i]? = some (some (.ref p)) := by rw [List.getElem?_eq_getElem hsl, e]
  have hB := R.own i _ p h rfl hσ
  have xF : Ext F (upd F p (.ins C dx fs)) := Ext.upd e1
  refine ⟨upd F p (.ins C dx fs), ⟨R.bF.trans xF, R.bH, fun q u z => ?_, fun q ps z => ?_, fun q u z => ?_⟩, p, dx, fs, rfl, upd_same, e3, IsL.mono xF _ e4⟩
  · by_cases hq : q = p
    · subst hq; rw [upd_same] at z; rw [e2]; exact z
    · rw [upd_ne hq] at z; exact R.sub q u z
  · by_cases hq : q = p
    · subst hq; rw [upd_same] at z; cases z
    · rw [upd_ne hq] at z; exact absurd z (R.nt q ps)
  · by_cases hq : q = p
    · subst hq; exact .inr hB
    · rw [upd_ne hq] at z; exact R.new q u z
end
/-- an __init__ that makes of the data ds the object d of the class C -/
def spM (T : List (Addr × Str)) (K : PySem.W.Frag) (C : Addr) (n : Nat) (pre : List D → List Str → List D → Prop) : Sp := fun vs H Q _ => ∃ H0 F p dx us ds ns xs, vs = .ref p :: us ∧ H0 p = none ∧ H0 dx = none ∧ dx ≠ p ∧ H = upd (upd H0 dx (.own p)) p (.ins C dx []) ∧ Ext F H0 ∧ (∀ p ps, F p ≠ some (.tbl ps)) ∧ LamX.Tabs T H0 ∧ IsL K F ds us ∧ ds.length = n ∧ pre ds ns xs ∧
  ∀ F1 H1, Nx T F H0 F1 H1 → Is K F1 (.ins C ns xs) (.ref p) → Q .non H1
def startO (p C : Addr) (N : List Str) (ds : List D) : SS := S.obj p C [] [] :: (ds.map S.d ++ List.replicate (N.length - (ds.length + 1)) S.no)
section
variable {T : List (Addr × Str)} {P : Program} {w : World} {K : PySem.W.Frag} {mg : Str → Option Value} {base : Heap} {C : Addr}
theorem start_strO {N : List Str} {F H : Hp} {ds : List D} {us : List V} {p dx : Addr} (hp : H p = none) (hd : H dx = none) (ne : dx ≠ p) (x : Ext F H) (nt : ∀ p ps, F p ≠ some (.tbl ps)) (tb : LamX.Tabs T H) (h : IsL K F ds us) :
    StR T K (F, H) F (upd (upd H dx (.own p)) p (.ins C dx [])) (L2.start N (.ref p :: us)) (startO p C N ds) := by
  have hF : ∀ q, H q = none → F q = none := fun q e => by
    cases z : F q with
    | none => rfl
    | some u => rw [x q u z] at e; cases e
  have hH : Ext H (upd (upd H dx (.own p)) p (.ins C dx [])) := (Ext.upd hd).trans (Ext.upd (by rw [upd_ne (Ne.symm ne)]; exact hp))
  have m0 : ∀ (i : Nat) (s : S), (startO p C N ds)[i]? = some s → s.mine = true → i = 0 := fun i s e m => by
    cases i with
    | zero => rfl
    | succ i =>
      have := start_mine (i := i) (m := N.length - (ds.length + 1)) (ds := ds) (s := s) (by simpa [startO] using e)
      rw [this] at m; cases m
  refine ⟨?_, fun _ _ h => h, .of hH, x.trans hH, nt, tb.ext hH, fun q o e => .inl (by show F q ≠ none; rw [e]; exact fun z => nomatch z), fun i s o e1 e2 => ?_, fun i s q e1 m e2 => ?_, fun i j s t q e1 e2 m1 m2 _ _ => (m0 i s e1 m1).trans (m0 j t e2 m2).symm⟩
  · unfold L2.start startO; simp [h.length]
  · cases i with
    | zero =>
      simp [startO] at e1
      subst e1
      simp [L2.start] at e2
      subst e2
      exact ⟨dx, [], rfl, hF p hp, upd_same, rfl, rfl⟩
    | succ i =>
      have e1' : (ds.map S.d ++ List.replicate (N.length - (ds.length + 1)) S.no)[i]? = some s := by simpa [startO] using e1
      have e2' : (us.map some ++ List.replicate (N.length - (ds.length + 1)) none)[i]? = some o := by
        simpa [L2.start, h.length] using e2
      have q := start_slots (N := N) (F := F) (H := H) _ i s o h e1' e2'
      have mm := start_mine e1'
      cases s with
      | no => exact True.intro
      | d x => exact q
      | own _ => cases mm
      | obj _ _ _ _ => cases mm
      | dic _ _ => cases mm
  · have z := m0 i s e1 m
    subst z
    simp [L2.start] at e2
    subst e2
    exact .of hp
/-- a def of the text as it stands behind the top, its code object cdv; defaults let -/
structure FunZ (K : PySem.W.Frag) (x qual : Str) (st : Stmt) (f : Addr) (fd : FuncData) (cdv : Value) : Prop where
  ex : ∃ (oc : Value) (od : Option Addr) (dV kV doc pm : Value) (an : Option Addr) (ct : Value) (osl : Array (Option Value)),
    fd = PySem.W.fnOf x qual (defArgs st) (defBody st) (defScope st) dV kV doc pm an cdv ct ∧ K.lookup f = some ⟨oc, od, .func fd, osl⟩ ∧ PySem.W.codeIn K cdv qual = true
  kp : PySem.W.keepIn K (.ref f) = true
theorem FunZ.ok {CX : CXT} {x qual : Str} {st : Stmt} {f : Addr} {fd : FuncData} {cdv : Value} {N ps : List Str} {k : Nat} {sp : Sp} (F : FunZ K x qual st f fd cdv) (S : FnScope N ps (defScope st)) (len : ∀ vs H Q E, sp vs H Q E → vs.length = ps.length)
    (h : ∀ (A : Around) (outer : List Env) (s : Shared) (H : Hp) (vs : List V) (Q : VK) (E : XK), Room k (A.deeper (envOfC qual (defScope st) s.heap.objs.size f cdv)) → sp vs H Q E →
      ∃ t, PSs (cxOf CX P w K mg base N qual (defScope st) f cdv A outer s H E) (defBody st) t ∧ t { nx := fun _ H' => Q .non H', rt := Q } (L2.start N vs) H) : FnOk P w K mg base CX (k + 1) f fd ps sp := by
  obtain ⟨oc, od, dV, kV, doc, pm, an, ct, osl, rfl, lk, hcd⟩ := F.ex
  exact fn_of lk hcd S len h
theorem Fun.z {x qual : Str} {st : Stmt} {f : Addr} {fd : FuncData} (F : Fun K x qual st f fd) : ∃ cdv, FunZ K x qual st f fd cdv := by
  obtain ⟨oc, od, kV, doc, pm, an, cdv, ct, osl, e, lk, hcd⟩ := F.ex
  exact ⟨cdv, ⟨oc, od, .none, kV, doc, pm, an, ct, osl, e, lk, hcd⟩, F.kp⟩
/-- THE RULE for an __init__ -/
theorem init_ok {x qual : Str} {st : Stmt} {f : Addr} {fd : FuncData} {N ps : List Str} {k n : Nat} {pre : List D → List Str → List D → Prop} {cdv : Value} (F : FunZ K x qual st f fd cdv) (S' : FnScope N ps (defScope st)) (hn : ps.length = n + 1)
    (h : ∀ (A : Around) (outer : List Env) (s : Shared) (H : Hp) (E : XK) (p : Addr) (ds : List D) (ns : List Str) (xs : List D), Room k (A.deeper (envOfC qual (defScope st) s.heap.objs.size f cdv)) → ds.length = n → pre ds ns xs →
      SVs T (bodyX CX0 P w K mg base N qual st f cdv A outer s H E) (defBody st) (startO p C N ds) { nx := fun ss => ss[0]? = some (.obj p C ns xs), rt := fun _ => False }) : FnOk P w K mg base CX0 (k + 1) f fd ps (spM T K C n pre) := by
  refine F.ok S' (fun vs H Q E ⟨H0, F, p, dx, us, ds, ns, xs, e, _, _, _, _, _, _, _, i, l, _⟩ => by rw [e, hn, List.length_cons, i.length, l]) (fun A outer s H vs Q E hr hsp => ?_)
  obtain ⟨H0, F0, p, dx, us, ds, ns, xs, e, hp, hd, ne, rfl, xF, nt, tb, i, l, pr, q⟩ := hsp
  subst e
  refine ⟨_, (h A outer s _ E p ds ns xs hr l pr).nox, (F0, H0), F0, _, _, ⟨rfl, rfl⟩, start_strO hp hd ne xF nt tb i, fun ss' σ' F1 H1 e R1 => ?_, fun _ _ _ _ _ _ z => z.elim, fun _ _ _ _ z => z.elim, fun _ _ _ _ z => z.elim⟩
  obtain ⟨F2, n2, i2⟩ := R1.freezeO e
  exact q F2 H1 n2 i2
end
section
variable {T : List (Addr × Str)} {X : Cx} {ss : SS} {e : Expr} {es : List Expr} {d : D} {ds : List D} {x : Str} {p pos : Pos} {n k : Nat} {C : Addr} {ns : List Str} {xs : List D} {pre : List D → List Str → List D → Prop}
/-- the class under the module's name x, made of n data (level k), its defaults dvs -/
def MD (T : List (Addr × Str)) (P : Program) (w : World) (K : PySem.W.Frag) (mg : Str → Option Value) (base : Heap) (x : Str) (C : Addr) (n k : Nat) (pre : List D → List Str → List D → Prop) : Prop :=
  ∃ f fd ps, mg x = some (.ref C) ∧ Mk K C f ∧ ps.length = n + 1 ∧ FnOk P w K mg base CX0 k f fd ps (spM T K C n pre) ∧ Binds K fd ps []
/-- C(..) -/
theorem ev_make (G : MD T X.prog X.w X.K X.mg X.base x C n k pre) (hr : Room (k + 1) X.A) (ha : EVs T X (e :: es) ss ds) (hp : pre ds ns xs) (hn : ds.length = n := by rfl) (hg : Gl X x := by rfl) (hdb : (x == ("__debug__" : Str)) = false := by decide)
    (he : starEach (e :: es) X.env = (false, eval e X.env) :: starEach es X.env := by rfl) (hpl : (backTo pos (starEach es X.env)).any (·.1) = false := by rfl) : EV T X (.Call (.Name x p) (e :: es) [] pos) ss (.ins C ns xs) := by
  obtain ⟨f, fd, ps, h1, h2, h3, h4, h5⟩ := G
  refine EV.of (pe_make (E := E0) h2 h4 hr hg h1 h5 .nil pass0 ha hdb he hpl) fun B F H σ Q R q => evs_go R fun vs F1 H1 n1 R1 i1 => fun y dx hy hdx ne => ?_
  rw [List.append_nil]
  exact ⟨H1, F1, y, dx, vs, ds, ns, xs, rfl, hy, hdx, ne, rfl, R1.sub, R1.nt, R1.tb, i1, hn, hp, fun F2 H2 n2 i2 => ⟨rfl, q _ F2 H2 (n1.trans n2) (R1.grow n2) i2⟩⟩
end
end Fd

set_option Elab.async false
set_option linter.all false
set_option maxRecDepth 100000
set_option maxHeartbeats 4000000
/-! Fd9: isinstance of data. -/
namespace Fd
open PySem PySem.Spec PyProof.Rows L2
/-- what isinstance asks of the class of an own object -/
structure InK (K : PySem.W.Frag) (C : Addr) : Prop where
  cl : Cls K C
  ca : PySem.W.findIn K (.ref C) "__class__" = some (some (.builtin "object.__class__"))
  gd : PySem.W.specialIn K (.builtin "object.__class__") "__get__" = some (some (.builtin "getset_descriptor.__get__"))
  tk : PySem.W.takesIn K (.builtin "object.__class__") = some true
  ob : PySem.W.mroIn K C (.type "object") = some true
def D.cls (K : PySem.W.Frag) : D → Prop
  | .ins C _ _ => InK K C
  | .rdl _ => False
  | _ => True
theorem is_tyx {K : PySem.W.Frag} {F H : Hp} {d : D} {v : V} {t : Value} (h : d.ty? = some t) (c : d.cls K) (i : Is K F d v) (e : Ext F H) : TyX K H v t := by
  cases d with
  | non => cases i; cases h; exact .base .non
  | bl b => cases i; cases h; exact .base (.bl b)
  | int z => cases i; cases h; exact .base (.int z)
  | str z => cases i; cases h; exact .base (.str z)
  | lst xs => obtain ⟨a, vs, rfl, e1, _⟩ := i; cases h; exact .base (.lst (e _ _ e1))
  | ins C ns xs => obtain ⟨a, dx, fs, rfl, e1, _⟩ := i; cases h; exact .base (.ins (e _ _ e1) c.cl c.ca c.gd c.tk c.ob)
  | dct ks xs => obtain ⟨a, kvs, rfl, e1, _⟩ := i; cases h; exact .base (.dK (e _ _ e1))
  | tup xs =>
    obtain ⟨a, vs, rfl, e1, _⟩ := i
    cases h
    rcases ext_seqT e e1 with q | ⟨o, its, n, q1, q2, _⟩
    · rcases q with q | ⟨o, q⟩
      · exact .base (.tup q)
      · exact .fTuple q
    · exact .kTuple q1 q2
  | rdl _ => exact c.elim
  | _ => cases h
section
variable {T : List (Addr × Str)} {X : Cx} {ss : SS} {e : Expr} {d : D} {t : Value} {b : Bool} {cn : Str} {tn : String} {C : Addr} {p pc pos : Pos}
/-- isinstance(e, T), T a built-in type -/
theorem ev_isT (he : EV T X e ss d) (ht : d.ty? = some t) (hd : d.cls X.K) (hk : PySem.W.kitOne X.K t (.type tn) = some b) (hcm : X.mg cn = none) (hcv : bootBuiltins cn = some (.type tn)) (hm : X.mg "isinstance" = none)
    (hcg : Gl X cn := by rfl) (hcn : cn ≠ "__name__" := by decide) (hcd : (cn == ("__debug__" : Str)) = false := by decide) (hg : Gl X "isinstance" := by rfl) (hst : starEach [e, .Name cn pc] X.env = (false, eval e X.env) :: starEach [.Name cn pc] X.env := by rfl) (hst2 : starEach [.Name cn pc] X.env = [(false, eval (.Name cn pc) X.env)] := by rfl)
    (hpl : (backTo pos (starEach [.Name cn pc] X.env)).any (·.1) = false := by rfl) : EV T X (.Call (.Name "isinstance" p) [e, .Name cn pc] [] pos) ss (.bl b) :=
  EV.of (pe_callB call_isi hg hm (by decide +kernel) (pa_cons he (pa_cons (pe_bltn hcg hcm hcv (show RelV (.ty tn) (.type tn) from rfl) hcn hcd) pa_nil hst2) hst) (by decide) (by decide) hst hpl) fun B F H σ Q R q => ev_go R fun v F1 H1 n1 R1 i1 =>
    ⟨v, .ty tn, t, .type tn, b, rfl, .ty tn, is_tyx ht hd i1 R1.sub, hk, q _ F1 H1 n1 R1 rfl⟩
/-- isinstance(e, C), C an own class -/
theorem ev_isO (he : EV T X e ss d) (ht : d.ty? = some t) (hd : d.cls X.K) (hk : PySem.W.kitOne X.K t (.ref C) = some b) (hcm : X.mg cn = some (.ref C)) (hm : X.mg "isinstance" = none)
    (hcg : Gl X cn := by rfl) (hcd : (cn == ("__debug__" : Str)) = false := by decide) (hg : Gl X "isinstance" := by rfl) (hst : starEach [e, .Name cn pc] X.env = (false, eval e X.env) :: starEach [.Name cn pc] X.env := by rfl) (hst2 : starEach [.Name cn pc] X.env = [(false, eval (.Name cn pc) X.env)] := by rfl)
    (hpl : (backTo pos (starEach [.Name cn pc] X.env)).any (·.1) = false := by rfl) : EV T X (.Call (.Name "isinstance" p) [e, .Name cn pc] [] pos) ss (.bl b) :=
  EV.of (pe_callB call_isi hg hm (by decide +kernel) (pa_cons he (pa_cons (pe_glob hcg hcm (show RelV (.ref C) (.ref C) from rfl) hcd) pa_nil hst2) hst) (by decide) (by decide) hst hpl) fun B F H σ Q R q => ev_go R fun v F1 H1 n1 R1 i1 =>
    ⟨v, .ref C, t, .ref C, b, rfl, .own C, is_tyx ht hd i1 R1.sub, hk, q _ F1 H1 n1 R1 rfl⟩
end
end Fd

set_option Elab.async false
set_option linter.all false
set_option maxRecDepth 100000
set_option maxHeartbeats 4000000
/-! Fd10: the end of a law's proof: the script among the data. -/
namespace Fd
open PySem PySem.Spec PyProof.Rows L2
/-- the heap without its tables of code objects -/
def noTbl (H : Hp) : Hp := fun p => match H p with
  | some (.tbl _) => none
  | o => o
theorem noTbl_ext (H : Hp) : Ext (noTbl H) H := fun p o e => by
  unfold noTbl at e
  split at e
  · cases e
  · exact e
theorem noTbl_nt (H : Hp) : ∀ p ps, noTbl H p ≠ some (.tbl ps) := fun p ps e => by
  unfold noTbl at e
  split at e
  · cases e
  · rename_i h; exact h ps e
theorem noTbl_at {H : Hp} {p : Addr} {o : HO} (h : H p = some o) (n : ∀ ps, o ≠ .tbl ps) : noTbl H p = some o := by
  unfold noTbl
  rw [h]
  split
  · rename_i ps e; cases e; exact absurd rfl (n ps)
  · rfl
theorem noTbl_seq {K : PySem.W.Frag} {H : Hp} {a : Addr} {vs : List V} (h : SqL K H a vs) : SqL K (noTbl H) a vs := by
  rcases h with q | q
  · rcases q with q | ⟨o, q⟩
    · exact .inl (.inl (noTbl_at q fun _ z => nomatch z))
    · exact .inl (.inr ⟨o, noTbl_at q fun _ z => nomatch z⟩)
  · exact .inr q
theorem ints_is {K : PySem.W.Frag} {H : Hp} : ∀ ns : List Int, IsL K H (ns.map D.int) (ns.map V.int)
  | [] => rfl
  | n :: r => ⟨_, _, rfl, rfl, ints_is r⟩
/-- what the law's def is asked of -/
def pLaw (ds : List D) (d : D) : Prop := ∃ ns : List Int, ds = [.rdl (ns.map D.int)] ∧ ns.length ≤ 63 ∧ d = .bl true
/-- THE END: the goal that k_head and k_fill leave, from the contract of the law's def (level k, parameter x) -/
theorem walk {l : PySem.W.OpenLaw} {q : Program} {loose : List Str} {XP : (Str → Option Value) → Heap → Prop} {YP : World → Heap → Prop} {d : DefRec} {K : Params → PySem.W.Frag} {x : Str} (k : Nat) (hk : Room k callerA) (hn : l.most = some 63) (hdf : d.params.defaults = [])
    (hY : ∀ (w : World) (h : Heap), YP w h → (K w.params).In h)
    (F : ∀ (w : World) (mg : Str → Option Value) (fa : Addr) (h : Heap), (K w.params).In h → h.Ns mainGlobals mg → mg d.name = some (.ref fa) →
      ∃ fd : FuncData, (∀ (s : Shared) (u : Value), BindsTo s fd ⟨[u], []⟩ [(x, u)]) ∧ ∀ base : Heap, (K w.params).In base → base.Ns mainGlobals mg → FnOk l.prog w (K w.params) mg base CX0 k fa fd [x] (spD [] (K w.params) 1 pLaw)) :
    PySem.W.WalkO q loose XP YP l.row.toRowW d [] (fun f vs => PySem.call f vs) :=
  L2.walk_of (n := 63) (k := k) (x := x) (CX := fun _ => CX0) (sp := fun w => spD [] (K w.params) 1 pLaw) hn (by decide) hdf hk hY F
    (fun w H a ns hl _ hS => ⟨noTbl H, [.rdl (ns.map D.int)], .bl true, noTbl_ext H, noTbl_nt H, (fun p hp => nomatch hp), ⟨_, _, rfl, ⟨a, ns.map V.int, rfl, noTbl_seq hS, ints_is ns⟩, rfl⟩, rfl, ⟨ns, rfl, hl, rfl⟩, fun v F1 H1 _ e => e⟩) fun _ _ _ _ _ z => z
end Fd

set_option Elab.async false
set_option linter.all false
set_option maxRecDepth 100000
set_option maxHeartbeats 4000000
/-! Fd11: zip and enumerate. -/
namespace Fd
open PySem PySem.Spec PyProof.Rows L2
def zips (xs ys : List D) : List D := (xs.zip ys).map fun p => .tup [p.1, p.2]
theorem zips_get {xs ys : List D} {i : Nat} {x y : D} (h1 : xs[i]? = some x) (h2 : ys[i]? = some y) : (zips xs ys)[i]? = some (.tup [x, y]) := by
  unfold zips
  rw [List.getElem?_map, List.getElem?_zip_eq_some (z := (x, y)) |>.mpr ⟨h1, h2⟩]
  rfl
theorem pair_new {T : List (Addr × Str)} {K : PySem.W.Frag} {F H : Hp} {q : Addr} {x y : D} {v u : V} (s : Ext F H) (h : H q = none) (ix : Is K F x v) (iy : Is K F y u) : Nx T F H (upd F q (.tup [v, u])) (upd H q (.tup [v, u])) ∧ Is K (upd F q (.tup [v, u])) (.tup [x, y]) (.ref q) := by
  have n := Nx.alloc (T := T) (o := .tup [v, u]) s h
  exact ⟨n, q, [v, u], rfl, SqT.of upd_same, .cons (Is.mono n.f _ ix) (.cons (Is.mono n.f _ iy) .nil)⟩
section
variable {T : List (Addr × Str)} {X : Cx} {ss : SS} {e e2 : Expr} {xs ys : List D} {p pos tpos : Pos} {elts : List Expr} {kk : Nat}
theorem iv_zip (ha : EV T X e ss (.lst xs)) (hb : EV T X e2 ss (.lst ys)) (hm : X.mg "zip" = none) (hg : Gl X "zip" := by rfl) (hs : starEach [e, e2] X.env = (false, eval e X.env) :: starEach [e2] X.env := by rfl) (hs2 : starEach [e2] X.env = [(false, eval e2 X.env)] := by rfl)
    (hpl : (backTo pos (starEach [e2] X.env)).any (·.1) = false := by rfl) : IV T X (.Tuple elts kk tpos) (.Call (.Name "zip" p) [e, e2] [] pos) ss (zips xs ys) :=
  IV.of (pi_zip hg hm (evs_cons ha (evs_cons hb evs_nil hs2) hs) hs hpl) fun B F H σ R R0 q => evs_go R0 fun vs F1 H1 n1 R1 i1 => by
    obtain ⟨v, w, rfl, h1, h2⟩ := isL2 i1
    obtain ⟨a, us, rfl, a1, a2⟩ := h1
    obtain ⟨b, ws, rfl, b1, b2⟩ := h2
    refine ⟨a, b, us, ws, rfl, SqL.of (R1.sub _ _ a1), SqL.of (R1.sub _ _ b1), q _ F1 H1 n1 R1 ⟨fun i F H x1 x2 hi => ?_, fun F H x1 x2 => ?_⟩⟩
    · have hl : i < xs.length ∧ i < ys.length := by
        simp [zips] at hi; exact ⟨by omega, by omega⟩
      have sa : SqL X.K H a us := SqL.of (x2 _ _ (x1 _ _ a1))
      have sb : SqL X.K H b ws := SqL.of (x2 _ _ (x1 _ _ b1))
      obtain ⟨v, hv, iv⟩ := IsL.get' a2 (List.getElem?_eq_getElem hl.1)
      obtain ⟨u, hu, iu⟩ := IsL.get' b2 (List.getElem?_eq_getElem hl.2)
      refine ⟨⟨us, ws, v, u, sa, sb, hv, hu⟩, fun x H' y => ?_⟩
      obtain ⟨T, v', u', rfl, hT, rfl, g1, g2⟩ := y
      have e1 := g1 us sa
      have e2 := g2 ws sb
      rw [hv] at e1; rw [hu] at e2
      cases e1; cases e2
      obtain ⟨n, it⟩ := pair_new x2 hT (Is.mono x1 _ iv) (Is.mono x1 _ iu)
      exact ⟨_, _, n, zips_get (List.getElem?_eq_getElem hl.1) (List.getElem?_eq_getElem hl.2), it⟩
    · refine ⟨us, ws, SqL.of (x2 _ _ (x1 _ _ a1)), SqL.of (x2 _ _ (x1 _ _ b1)), ?_⟩
      rw [a2.length, b2.length]
      simp [zips]; omega
/-- (0, x), (1, y), .. -/
def nums : Nat → List D → List D
  | _, [] => []
  | k, x :: xs => .tup [.int (k : Nat), x] :: nums (k + 1) xs
theorem nums_len : ∀ (xs : List D) (k : Nat), (nums k xs).length = xs.length
  | [], _ => rfl
  | x :: xs, k => by simp [nums, nums_len xs]
theorem nums_get : ∀ (xs : List D) (k i : Nat) (x : D), xs[i]? = some x → (nums k xs)[i]? = some (.tup [.int ((k + i : Nat) : Int), x])
  | [], _, _, _, h => by simp at h
  | y :: ys, k, 0, x, h => by simp at h; subst h; rfl
  | y :: ys, k, i + 1, x, h => by
    simp at h
    have := nums_get ys (k + 1) i x h
    rw [show k + 1 + i = k + (i + 1) by omega] at this
    simpa [nums] using this
theorem iv_enum (ha : EV T X e ss (.lst xs)) (hm : X.mg "enumerate" = none) (hg : Gl X "enumerate" := by rfl) (hs : starEach [e] X.env = [(false, eval e X.env)] := by rfl) : IV T X (.Tuple elts kk tpos) (.Call (.Name "enumerate" p) [e] [] pos) ss (nums 0 xs) :=
  IV.of (pi_enum hg hm (evs_cons ha evs_nil hs) hs) fun B F H σ R R0 q => evs_go R0 fun vs F1 H1 n1 R1 i1 => by
    obtain ⟨v, rfl, h1⟩ := isL1 i1
    obtain ⟨a, us, rfl, a1, a2⟩ := h1
    refine ⟨a, us, rfl, SqL.of (R1.sub _ _ a1), q _ F1 H1 n1 R1 ⟨fun i F H x1 x2 hi => ?_, fun F H x1 x2 => ?_⟩⟩
    · have hl : i < xs.length := by rw [nums_len] at hi; exact hi
      have sa : SqL X.K H a us := SqL.of (x2 _ _ (x1 _ _ a1))
      obtain ⟨v, hv, iv⟩ := IsL.get' a2 (List.getElem?_eq_getElem hl)
      refine ⟨⟨us, v, sa, hv⟩, fun x H' y => ?_⟩
      obtain ⟨T, v', rfl, hT, rfl, g1⟩ := y
      have e1 := g1 us sa
      rw [hv] at e1
      cases e1
      obtain ⟨n, it⟩ := pair_new (K := X.K) (x := .int (i : Nat)) (v := .int (i : Nat)) x2 hT rfl (Is.mono x1 _ iv)
      refine ⟨_, _, n, nums_get xs 0 i _ (List.getElem?_eq_getElem hl), ?_⟩
      rw [Nat.zero_add]
      exact it
    · refine ⟨us, SqL.of (x2 _ _ (x1 _ _ a1)), ?_⟩
      rw [a2.length, nums_len]
      exact Nat.le_refl _
end
end Fd

set_option Elab.async false
set_option linter.all false
set_option maxRecDepth 100000
set_option maxHeartbeats 4000000
/-! Fd12: C(..) with default values; a target among cells. -/
namespace Fd
open PySem PySem.Spec PyProof.Rows L2
section
variable {T : List (Addr × Str)} {X : Cx} {ss : SS} {P : Post} {e a b c : Expr} {es : List Expr} {ds dd : List D} {d1 d2 d3 : D} {x y z : Str} {p pos : Pos} {n k : Nat} {C : Addr} {ns : List Str} {xs : List D} {pre : List D → List Str → List D → Prop} {dvs : List V} {dds : List Value}
/-- the class under the module's name x, made of n data, the last of them by default dds -/
def MDd (T : List (Addr × Str)) (P : Program) (w : World) (K : PySem.W.Frag) (mg : Str → Option Value) (base : Heap) (x : Str) (C : Addr) (n k : Nat) (pre : List D → List Str → List D → Prop) (dds : List Value) : Prop :=
  ∃ f fd ps, mg x = some (.ref C) ∧ Mk K C f ∧ ps.length = n + 1 ∧ FnOk P w K mg base CX0 k f fd ps (spM T K C n pre) ∧ Binds K fd ps dds
theorem ev_makeD (G : MDd T X.prog X.w X.K X.mg X.base x C n k pre dds) (hd : Vals dvs dds) (hI : ∀ F : Hp, IsL X.K F dd dvs) (hr : Room (k + 1) X.A) (ha : EVs T X (e :: es) ss ds) (hp : pre (ds ++ dd) ns xs) (hn : (ds ++ dd).length = n := by rfl) (hg : Gl X x := by rfl) (hdb : (x == ("__debug__" : Str)) = false := by decide)
    (he : starEach (e :: es) X.env = (false, eval e X.env) :: starEach es X.env := by rfl) (hpl : (backTo pos (starEach es X.env)).any (·.1) = false := by rfl) : EV T X (.Call (.Name x p) (e :: es) [] pos) ss (.ins C ns xs) := by
  obtain ⟨f, fd, ps, h1, h2, h3, h4, h5⟩ := G
  refine EV.of (pe_make (E := E0) h2 h4 hr hg h1 h5 hd pass0 ha hdb he hpl) fun B F H σ Q R q => evs_go R fun vs F1 H1 n1 R1 i1 => fun y dx hy hdx ne => ?_
  exact ⟨H1, F1, y, dx, vs ++ dvs, ds ++ dd, ns, xs, rfl, hy, hdx, ne, rfl, R1.sub, R1.nt, R1.tb, i1.append (hI F1), hn, hp, fun F2 H2 n2 i2 => ⟨rfl, q _ F2 H2 (n1.trans n2) (R1.grow n2) i2⟩⟩
/-- a, b, c = x, y, z by a tuple (targets that are cells, too) -/
theorem sv_tup3 (i j l : Nat) {px py pz pt : Pos} {kt : Nat} (he : EV T X e ss (.tup [d1, d2, d3])) (k : P.nx (((ss.set i (.d d1)).set j (.d d2)).set l (.d d3))) (hN : X.N.Nodup) (hc : X.calm = true := by rfl)
    (hi : X.N[i]? = some x := by rfl) (hj : X.N[j]? = some y := by rfl) (hl : X.N[l]? = some z := by rfl)
    (hx : Loc X.env.scope x := by first | exact Or.inl rfl | exact Or.inr rfl) (hy : Loc X.env.scope y := by first | exact Or.inl rfl | exact Or.inr rfl) (hz : Loc X.env.scope z := by first | exact Or.inl rfl | exact Or.inr rfl)
    (fx : X.fn x = true ∨ X.env.scope.names.lookup x = some .local := by first | exact .inl rfl | exact .inr rfl) (fy : X.fn y = true ∨ X.env.scope.names.lookup y = some .local := by first | exact .inl rfl | exact .inr rfl) (fz : X.fn z = true ∨ X.env.scope.names.lookup z = some .local := by first | exact .inl rfl | exact .inr rfl)
    (hs : swapsWithSole [.Tuple [.Name x px, .Name y py, .Name z pz] kt pt] e pos.line X.env = pure false := by rfl) (hw : swappedStores [.Tuple [.Name x px, .Name y py, .Name z pz] kt pt] e X.env = pure none := by rfl)
    (h1 : (assignEach [.Tuple [.Name x px, .Name y py, .Name z pz] kt pt] X.env).map (·.2) = [assign (.Tuple [.Name x px, .Name y py, .Name z pz] kt pt) X.env] := by rfl) :
    SV T X (.Assign [.Tuple [.Name x px, .Name y py, .Name z pz] kt pt] e pos) ss P :=
  SV.of (ps_asg he (pg_tup hc (pgs_cons (pg_name hN hi hx fx) (pgs_cons (pg_name hN hj hy fy) (pgs_cons (pg_name hN hl hz fz) pgs_nil)))) hs hw h1) fun B F H σ Dn R g => ev_go R fun v F1 H1 n1 R1 i1 => by
    exact tg_go (t := .many [i, j, l]) (ws := []) R1 i1 rfl (fun _ _ => .inr rfl) fun σ' R2 _ => g.nx _ _ _ _ k R2
end
end Fd

set_option Elab.async false
set_option linter.all false
set_option maxRecDepth 100000
set_option maxHeartbeats 4000000
/-! Fd13: what raises, and a lambda that is asked for it. -/
namespace Fd
open PySem PySem.Spec PyProof.Rows L2
/-- a def that raises c of the data ds, wherever pre ds -/
def spX (T : List (Addr × Str)) (K : PySem.W.Frag) (n : Nat) (pre : List D → Prop) (c : Value) : Sp := fun vs H _ E => ∃ F ds, Ext F H ∧ (∀ p ps, F p ≠ some (.tbl ps)) ∧ LamX.Tabs T H ∧ IsL K F ds vs ∧ ds.length = n ∧ pre ds ∧ ∀ d H1, Gr T H H1 → E c d H1
/-- an __init__ that raises -/
def spMX (T : List (Addr × Str)) (K : PySem.W.Frag) (C : Addr) (n : Nat) (pre : List D → Prop) (c : Value) : Sp := fun vs H _ E => ∃ H0 F p dx us ds, vs = .ref p :: us ∧ H0 p = none ∧ H0 dx = none ∧ dx ≠ p ∧ H = upd (upd H0 dx (.own p)) p (.ins C dx []) ∧ Ext F H0 ∧ (∀ p ps, F p ≠ some (.tbl ps)) ∧ LamX.Tabs T H0 ∧ IsL K F ds us ∧ ds.length = n ∧ pre ds ∧ ∀ d H1, Gr T H0 H1 → E c d H1
/-- e raises c: E is what is told of the exception -/
def RX (T : List (Addr × Str)) (X : Cx) (e : Expr) (ss : SS) (c : Value) (E : XK) : Prop := PE X e (fun σ H _ => ∃ B F, StR T X.K B F H σ ss ∧ ∀ d H1, Gr T H H1 → E c d H1)
def RS (T : List (Addr × Str)) (X : Cx) (sts : List Stmt) (ss : SS) (c : Value) (E : XK) : Prop := PSs X sts (fun _ σ H => ∃ B F, StR T X.K B F H σ ss ∧ ∀ d H1, Gr T H H1 → E c d H1)
abbrev xX (P : Program) (w : World) (K : PySem.W.Frag) (mg : Str → Option Value) (base : Heap) (N : List Str) (qual : Str) (st : Stmt) (f : Addr) (cdv : Value) (A : Around) (outer : List Env) (s : Shared) (H : Hp) (E : XK) : Cx :=
  cxOf (L2.CX P w) P w K mg base N qual (defScope st) f cdv A outer s H E
section
variable {T : List (Addr × Str)} {P : Program} {w : World} {K : PySem.W.Frag} {mg : Str → Option Value} {base : Heap} {C : Addr} {x qual : Str} {st : Stmt} {f : Addr} {fd : FuncData} {cdv c : Value} {N ps : List Str} {k n : Nat} {pre : List D → Prop}
theorem fx_ok (F : FunZ K x qual st f fd cdv) (S : FnScope N ps (defScope st)) (hn : ps.length = n)
    (h : ∀ (A : Around) (outer : List Env) (s : Shared) (H : Hp) (E : XK) (ds : List D), Room k (A.deeper (envOfC qual (defScope st) s.heap.objs.size f cdv)) → ds.length = n → pre ds →
      Takes (xX P w K mg base N qual st f cdv A outer s H E) (fun cls d _ H => E cls d H) → RS T (xX P w K mg base N qual st f cdv A outer s H E) (defBody st) (startS N ds) c E) : FnOk P w K mg base (L2.CX P w) (k + 1) f fd ps (spX T K n pre c) :=
  F.ok S (fun vs H Q E ⟨F, ds, _, _, _, i, l, _⟩ => by rw [i.length, l, hn]) fun A outer s H vs Q E hr ⟨F0, ds, x, nt, tb, i, l, p, q⟩ =>
    ⟨_, h A outer s H E ds hr l p (takes_of rfl rfl rfl rfl), (F0, H), F0, start_str x nt tb i, q⟩
theorem initx_ok (F : FunZ K x qual st f fd cdv) (S : FnScope N ps (defScope st)) (hn : ps.length = n + 1)
    (h : ∀ (A : Around) (outer : List Env) (s : Shared) (H : Hp) (E : XK) (p : Addr) (ds : List D), Room k (A.deeper (envOfC qual (defScope st) s.heap.objs.size f cdv)) → ds.length = n → pre ds →
      Takes (xX P w K mg base N qual st f cdv A outer s H E) (fun cls d _ H => E cls d H) → RS T (xX P w K mg base N qual st f cdv A outer s H E) (defBody st) (startO p C N ds) c E) : FnOk P w K mg base (L2.CX P w) (k + 1) f fd ps (spMX T K C n pre c) := by
  refine F.ok S (fun vs H Q E ⟨H0, F, p, dx, us, ds, e, _, _, _, _, _, _, _, i, l, _⟩ => by rw [e, hn, List.length_cons, i.length, l]) fun A outer s H vs Q E hr ⟨H0, F0, p, dx, us, ds, e, hp, hd, ne, eH, xF, nt, tb, i, l, pr, q⟩ => ?_
  subst e; subst eH
  have hH : Ext H0 (upd (upd H0 dx (.own p)) p (.ins C dx [])) := (Ext.upd hd).trans (Ext.upd (by rw [upd_ne (Ne.symm ne)]; exact hp))
  exact ⟨_, h A outer s _ E p ds hr l pr (takes_of rfl rfl rfl rfl), (F0, H0), F0, start_strO hp hd ne xF nt tb i, fun d H1 g => q d H1 ((Gr.of hH).trans g)⟩
end
section
variable {T : List (Addr × Str)} {X : Cx} {ss : SS} {e o a : Expr} {es : List Expr} {d : D} {ds : List D} {x m : Str} {p pos apos : Pos} {n k : Nat} {C : Addr} {ns : List Str} {xs : List D} {c : Value} {E : XK} {cnd : Expr} {A B rest : List Stmt}
theorem rs_ret (h : RX T X e ss c E) : RS T X (.Return (some e) pos :: rest) ss c E :=
  PSs.imp (pss_cons (ps_ret h) (pss_all (T := T))) fun D σ H q => q
theorem rs_ifT (hc : TV T X cnd ss true) (h : RS T X A ss c E) : RS T X (.If cnd A B pos :: rest) ss c E :=
  PSs.imp (pss_cons (ps_if hc h (pss_all (T := T) (sts := B))) (pss_all (T := T))) fun D σ H ⟨B0, F, R, q⟩ => tv_go R fun F1 H1 n1 R1 => ⟨B0, F1, R1, fun d H2 g => q d H2 (n1.h.trans g)⟩
theorem rs_raise {tn N I : String} {msg : Str} {j : Nat} {p2 pos' : Pos} (tk : Takes X (fun cls d _ H => E cls d H)) (F : ExcB tn N I) (hm : X.mg x = none) (hv : bootBuiltins x = some (.type tn)) (hg : Gl X x := by rfl) (hc : X.calm = true := by rfl) (hn : x ≠ "__name__" := by decide) (hdb : (x == ("__debug__" : Str)) = false := by decide) :
    RS T X (.Raise (some (.Call (.Name x p) [.Constant (.str msg) j p2] [] pos)) none pos' :: rest) ss (.type tn) E :=
  PSs.imp (pss_cons (ps_raiseB hc tk F hg hm hv hn hdb) (pss_all (T := T))) fun D σ H ⟨B0, F, R, q⟩ => q none H (.refl H)
/-- the class, whose making raises c -/
def MDX (T : List (Addr × Str)) (P : Program) (w : World) (K : PySem.W.Frag) (mg : Str → Option Value) (base : Heap) (x : Str) (C : Addr) (n k : Nat) (pre : List D → Prop) (c : Value) : Prop :=
  ∃ f fd ps, mg x = some (.ref C) ∧ Mk K C f ∧ ps.length = n + 1 ∧ FnOk P w K mg base (L2.CX P w) k f fd ps (spMX T K C n pre c) ∧ Binds K fd ps []
theorem rx_make {pre : List D → Prop} (G : MDX T X.prog X.w X.K X.mg X.base x C n k pre c) (hx : Passes (L2.CX X.prog X.w) X E) (hr : Room (k + 1) X.A) (ha : EVs T X (e :: es) ss ds) (hp : pre ds) (hn : ds.length = n := by rfl) (hg : Gl X x := by rfl) (hdb : (x == ("__debug__" : Str)) = false := by decide)
    (he : starEach (e :: es) X.env = (false, eval e X.env) :: starEach es X.env := by rfl) (hpl : (backTo pos (starEach es X.env)).any (·.1) = false := by rfl) : RX T X (.Call (.Name x p) (e :: es) [] pos) ss c E := by
  obtain ⟨f, fd, ps, h1, h2, h3, h4, h5⟩ := G
  refine PE.imp (pe_make (E := E) h2 h4 hr hg h1 h5 .nil hx ha hdb he hpl) fun σ H Q ⟨B, F, R, q⟩ => evs_go R fun vs F1 H1 n1 R1 i1 => fun y dx hy hdx ne => ?_
  rw [List.append_nil]
  exact ⟨H1, F1, y, dx, vs, ds, rfl, hy, hdx, ne, rfl, R1.sub, R1.nt, R1.tb, i1, hn, hp, fun d H2 g => q d H2 (n1.h.trans g)⟩
theorem no_lookup {m : Str} : ∀ {fs : List (Str × V)}, m ∉ fs.map (·.1) → fs.lookup m = none
  | [], _ => rfl
  | (g, u) :: r, h => by
    have ne : (m == g) = false := by
      rw [beq_eq_false_iff_ne]; rintro rfl; exact h List.mem_cons_self
    rw [List.lookup_cons, ne]
    exact no_lookup fun z => h (List.mem_cons_of_mem _ z)
/-- o.m(..), m an own method that raises -/
theorem rx_meth {pl : Sem Bool} {pre : List D → Prop} {f : Addr} {fd : FuncData} {ps : List Str} (he : EV T X o ss (.ins C ns xs)) (cl : Cls X.K C) (hm : Meth X.K C m f) (G : FnOk X.prog X.w X.K X.mg X.base (L2.CX X.prog X.w) k f fd ps (spX T X.K n pre c)) (hb : Binds X.K fd ps []) (hx : Passes (L2.CX X.prog X.w) X E) (hr : Room k X.A)
    (ha : EVs T X (e :: es) ss ds) (hp : pre (.ins C ns xs :: ds)) (hmn : m ∉ ns) (hn : (D.ins C ns xs :: ds).length = n := by rfl)
    (hst : starEach (e :: es) X.env = (false, eval e X.env) :: starEach es X.env := by rfl) (hpl : (backTo pos (starEach es X.env)).any (·.1) = false := by rfl)
    (ht : eval (.Call (.Attribute o m apos) (e :: es) [] pos) X.env = (do
      let ov ← eval o X.env; standAt apos.atName; let (f, first) ← holding [ov] (getMethod ov m pl); callWith pos f first (backTo pos (starEach (e :: es) X.env)) (backToKw pos (keywordEach [] X.env))) := by rfl) :
    RX T X (.Call (.Attribute o m apos) (e :: es) [] pos) ss c E := by
  refine PE.imp (pe_meth he cl hm G hr hb .nil hx ha hst hpl ht) fun σ H Q ⟨B, F, R, q⟩ => ev_go R fun v F1 H1 n1 R1 i1 => ?_
  obtain ⟨y, dx, fs, rfl, e1, e2, e3⟩ := id i1
  refine ⟨y, dx, fs, rfl, R1.sub _ _ e1, no_lookup (by rw [e2]; exact hmn), evs_go R1 fun us F2 H2 n2 R2 i2 => ?_⟩
  rw [List.append_nil]
  exact ⟨F2, _, R2.sub, R2.nt, R2.tb, IsL.cons (Is.mono n2.f _ i1) i2, hn, hp, fun d H3 g => q d H3 ((n1.h.trans n2.h).trans g)⟩
/-- o.m(..), m an own method -/
theorem ev_meth {pl : Sem Bool} {pre : List D → D → Prop} {f : Addr} (he : EV T X o ss (.ins C ns xs)) (cl : Cls X.K C) (M : OwnM T X.prog X.w X.K X.mg X.base C m n k pre f) (hr : Room k X.A)
    (ha : EVs T X (e :: es) ss ds) (hp : pre (.ins C ns xs :: ds) d) (hmn : m ∉ ns) (hn : (D.ins C ns xs :: ds).length = n := by rfl)
    (hst : starEach (e :: es) X.env = (false, eval e X.env) :: starEach es X.env := by rfl) (hpl : (backTo pos (starEach es X.env)).any (·.1) = false := by rfl)
    (ht : eval (.Call (.Attribute o m apos) (e :: es) [] pos) X.env = (do
      let ov ← eval o X.env; standAt apos.atName; let (f, first) ← holding [ov] (getMethod ov m pl); callWith pos f first (backTo pos (starEach (e :: es) X.env)) (backToKw pos (keywordEach [] X.env))) := by rfl) :
    EV T X (.Call (.Attribute o m apos) (e :: es) [] pos) ss d := by
  obtain ⟨fd, ps, hb, hps, G⟩ := M.ok
  refine EV.of (pe_meth (E := E0) he cl ⟨M.at_, M.fn, M.kp⟩ G hr hb .nil pass0 ha hst hpl ht) fun B F H σ Q R q => ev_go R fun v F1 H1 n1 R1 i1 => ?_
  obtain ⟨y, dx, fs, rfl, e1, e2, e3⟩ := id i1
  refine ⟨y, dx, fs, rfl, R1.sub _ _ e1, no_lookup (by rw [e2]; exact hmn), evs_go R1 fun us F2 H2 n2 R2 i2 => ?_⟩
  rw [List.append_nil]
  exact ⟨F2, _, d, R2.sub, R2.nt, R2.tb, IsL.cons (Is.mono n2.f _ i1) i2, hn, hp, fun v F3 H3 n3 i3 => q v F3 H3 ((n1.trans n2).trans n3) (R2.grow n3) i3⟩
end
end Fd

set_option Elab.async false
set_option linter.all false
set_option maxRecDepth 100000
set_option maxHeartbeats 4000000
/-! Fd14: a def that is handed a lambda and tells whether it raises. -/
namespace Fd
open PySem PySem.Spec PyProof.Rows L2
/-- what such a def makes of the lambda's reading: True where c comes, False else -/
def TTR (c : Value) : (XK → Hp → VK → Prop) → Hp → VK → Prop := fun tl H Q => tl (fun cls _ H' => cls = c ∧ Q (.bl true) H') H (fun _ H' => Q (.bl false) H')
theorem raises_gives {X : Cx} {Ng : List Str} {x a e q : Str} {sg : Scope} {g : Addr} {cdg c : Value} {j j' : Nat} {p1 p2 p3 p4 p5 p6 p7 p8 p9 p10 : Pos} (hge : sg.names.lookup e = some .globalImplicit) (hme : X.mg e = none) (hbe : bootBuiltins e = some c) (hne : e ≠ "__name__") (hde : (e == ("__debug__" : Str)) = false)
    (hex : PySem.W.exmOne X.K c c = some true) (h0 : ∀ f : Addr, (L2.start Ng [V.ref f])[0]? = some (some (V.ref f))) :
    LamX.GivesTo X Ng x sg g cdg [.Try [.Expr (.Call (.Name a p1) [] [] p2) p3] [.ExceptHandler (some (.Name e p4)) none [.Return (some (.Constant (.bool true) j p5)) p6] p7] [] [] p8, .Return (some (.Constant (.bool false) j' p9)) p10] a q (TTR c) := by
  intro f cc s H Q tl act hc h
  refine ⟨_, pss_cons (ps_try_only (c := c) (Wout := fun _ _ _ _ => False)
    (tb := fun W D σ HZ => ∃ Ech : XK, (∀ cls d σ' H', Ech cls d H' → W cls d σ' H') ∧ σ[0]? = some (some (.ref f)) ∧ HZ cc = some (LamX.CodeO cc q) ∧ tl Ech HZ fun _ H1 => D.nx σ H1)
    rfl rfl ⟨hge, hde, .inr ⟨hme, hbe, hne⟩⟩ LamX.takes0 (fun W pn xe tk _ => ?_) (fun b oe cls d pn _ _ => pss_one (ps_ret pe_bl))) (pss_one (ps_ret pe_bl)), ?_⟩
  · refine ⟨fun pins s' σ HZ D I hq => ?_⟩
    obtain ⟨Ech, hW, h1, h2, h3⟩ := hq
    exact (pss_one (ps_expr (pos := p3) (act W pn xe Ech p1 p2 tk hW))).run pins s' σ HZ D I ⟨h1, h2, h3⟩
  · refine ⟨fun cls _ H' => cls = c ∧ Q (.bl true) H', fun cls d σ' H' ⟨e1, e2⟩ => ?_, h0 f, hc, h⟩
    subst e1
    exact ⟨true, hex, fun _ b _ => e2, fun z => nomatch z⟩
section
variable {T : List (Addr × Str)} {X : Cx} {ss : SS} {p pos lpos : Pos} {k : Nat} {c : Value} {x a : Str} {st : Stmt} {g cA P : Addr} {fdg : FuncData} {cdg : Value} {Ng : List Str} {params : Arguments} {body : Expr} {scope : Scope}
theorem exN_gr {H H1 : Hp} (e : LamX.ExtN H H1) (t : LamX.Tabs T H1) : Gr T H H1 := ⟨fun p o h n => e p o h n, fun _ => t⟩
theorem StR.gr {B : Hp × Hp} {F H H1 : Hp} {σ : L2.St} {K : PySem.W.Frag} (R : StR T K B F H σ ss) (g : Gr T H H1) : Nx T F H F H1 :=
  ⟨fun _ _ h => h, g, fun q o h => g.k q o (R.sub q o h) (fun ps z => R.nt q ps (by rw [h, z])), fun _ _ h => h, fun q o h => .inl (by rw [h]; exact fun z => nomatch z)⟩
/-- x(lambda: body), x a def that tells whether it raises c; it does -/
theorem ev_lamR (FG : FunZ X.K x x st g fdg cdg) (hm : X.mg x = some (.ref g)) (hb : Binds X.K fdg [a] []) (Sg : FnScope Ng [a] (defScope st)) (hNg : Ng[0]? = some a) (hva : Vis (defScope st) a)
    (hG : LamX.GivesTo X Ng x (defScope st) g cdg (defBody st) a (X.env.qual ++ "<lambda>") (TTR c)) (TB : LamX.TabB X.base X.mg cA P) (hcode : X.env.code = .ref cA) (hmT : (P, X.env.qual ++ "<lambda>") ∈ T) (hu : ∀ p ∈ T, p.1 = P → p.2 = X.env.qual ++ "<lambda>")
    (hr : Room (k + 2) X.A) (L : LamX.LamS X.env.scope scope) (hdef : defaultsOf params X.env = ([], [])) (hbind : ∀ (q : Str) (cl : List (Str × Addr)) (pm cv ctv : Value), bindArgs (PySem.W.kla_fn "<lambda>" q params body scope cl pm cv ctv) ⟨[], []⟩ = pure [])
    (hbody : ∀ (A : Around) (outer : List Env) (s : Shared) (H : Hp) (E : XK) (f cc : Addr), Room k (A.deeper (LamX.lamEnv X scope s.heap.objs.size f cc)) → Takes (LamX.lamCx X A outer s H E scope f cc) (fun cls d _ H => E cls d H) → Passes (L2.CX X.prog X.w) (LamX.lamCx X A outer s H E scope f cc) E → RX T (LamX.lamCx X A outer s H E scope f cc) body ss c E)
    (hg : Gl X x := by rfl) (hdb : (x == ("__debug__" : Str)) = false := by decide) (hd : (a == ("__debug__" : Str)) = false := by decide) (hcd : (a == ("__classdict__" : Str)) = false := by decide) : EV T X (.Call (.Name x p) [.Lambda params body scope lpos] [] pos) ss (.bl true) := by
  obtain ⟨oc, od, dV, kV, doc, pm, an, ct, osl, rfl, lk, hcg⟩ := FG.ex
  refine EV.of (LamX.pe_lamcall (T := T) (TT := TTR c) (t := fun E σ H _ => ∃ B F, StR T X.K B F H σ ss ∧ ∀ d H1, Gr T H H1 → E c d H1) hg hm FG.kp lk hcg hb Sg hNg hva hG TB hcode hmT hu hr L hdef hbind (fun A outer s H E f cc hr2 => ?_) hdb hd hcd) fun B F H σ Q R q => ⟨R.tb, fun H1 e t => ?_⟩
  · have tk : Takes (LamX.lamCx X A outer s H E scope f cc) (fun cls d _ H => E cls d H) := takes_of rfl rfl rfl rfl
    exact hbody A outer s H E f cc hr2 tk (passes_call tk fun _ _ _ _ h => h)
  · have n1 := R.gr (exN_gr e t)
    have R1 := R.grow n1
    refine ⟨B, F, R1, fun d H2 g2 => ⟨rfl, ?_⟩⟩
    have n2 := n1.trans (R1.gr g2)
    exact q _ F H2 n2 (R.grow n2) rfl
end
section
variable {T : List (Addr × Str)} {P : Program} {w : World} {K : PySem.W.Frag} {mg : Str → Option Value} {base : Heap}
/-- fd_ok, the code object known -/
theorem fdz_ok {x qual : Str} {st : Stmt} {f : Addr} {fd : FuncData} {cdv : Value} {N ps : List Str} {k n : Nat} {pre : List D → D → Prop} (F : FunZ K x qual st f fd cdv) (S : FnScope N ps (defScope st)) (hn : ps.length = n)
    (h : ∀ (A : Around) (outer : List Env) (s : Shared) (H : Hp) (E : XK) (ds : List D) (d : D), Room k (A.deeper (envOfC qual (defScope st) s.heap.objs.size f cdv)) → ds.length = n → pre ds d →
      SVs T (bodyX CX0 P w K mg base N qual st f cdv A outer s H E) (defBody st) (startS N ds) { nx := fun _ => d = .non, rt := fun d' => d' = d }) : FnOk P w K mg base CX0 (k + 1) f fd ps (spD T K n pre) := by
  refine F.ok S (fun vs H Q E ⟨F, ds, d, _, _, _, i, l, _⟩ => by rw [i.length, l, hn]) fun A outer s H vs Q E hr ⟨F0, ds, d, x, nt, tb, i, l, p, q⟩ => ?_
  refine ⟨_, (h A outer s H E ds d hr l p).nox, (F0, H), F0, _, _, ⟨rfl, rfl⟩, start_str x nt tb i, fun ss' σ' F1 H1 e R1 => ?_, fun d' v ss' σ' F1 H1 e R1 i1 => ?_, fun _ _ _ _ z => z.elim, fun _ _ _ _ z => z.elim⟩
  · subst e
    exact q .non F1 H1 R1.back rfl
  · subst e
    exact q v F1 H1 R1.back i1
end
end Fd

set_option Elab.async false
set_option linter.all false
set_option maxRecDepth 100000
set_option maxHeartbeats 4000000
/-! Fd15: C(k = .., m = ..) by two keywords; False in a list of True. -/
namespace Fd
open PySem PySem.Spec PyProof.Rows L2
section
variable {X : Cx} {CX : CXT} {k : Nat} {f C : Addr} {fd : FuncData} {ps ks : List Str} {sp : Sp} {E : XK} {x : Str} {p pos : Pos} {kws : List Keyword} {tk : TA} {g : List Value → List Value → List Value} {gV : List V → List V → List V}
/-- C(k = v, ..): no value by its place -/
theorem pe_makeK0 (M : Mk X.K C f) (G : FnOk X.prog X.w X.K X.mg X.base CX k f fd ps sp) (hr : Room (k + 1) X.A) (hm : X.mg x = some (.ref C)) (hb : KBn X.K fd ps 1 ks g gV) (hx : Passes CX X E) (hkw : PK X kws tk) (hg : Gl X x := by rfl)
    (hall : (backToKw pos (keywordEach kws X.env)).all (·.1.isSome) = true := by rfl) (hks : (backToKw pos (keywordEach kws X.env)).filterMap (·.1) = ks := by rfl) (hdb : (x == ("__debug__" : Str)) = false := by decide)
    (hpl : ((backTo pos (starEach [] X.env)).any (·.1) || (backToKw pos (keywordEach kws X.env)).any (·.1.isNone)) = false := by rfl) :
    PE X (.Call (.Name x p) [] kws pos) (fun σ H Q => tk σ H fun zs H2 => zs.length = ks.length ∧ ∀ y dx, H2 y = none → H2 dx = none → dx ≠ y → sp (gV [.ref y] zs) (upd (upd H2 dx (.own y)) y (.ins C dx [])) (fun v H3 => v = .non ∧ Q (.ref y) H3) E) := by
  refine ⟨fun pins s σ H Q I h => wpAny_Call_Name_kw (ld_glob I hg hm ?_ hdb)⟩
  refine PySem.W.callWith_KW0 (h₀ := X.base) I.ok.mod.kin M.kp hall ?_ hpl
  refine thn (hkw.run pos pins s σ H _ I h) fun ws s2 ⟨zs, H2, I2, rz, l2, q2⟩ => ⟨I2.kIn, ?_⟩
  rw [hks]
  exact run_makeN (n := 0) M G hr hb hx I2 .nil rz rfl l2 q2
end
section
variable {T : List (Addr × Str)} {X : Cx} {ss : SS} {e a : Expr} {d1 d2 : D} {x k1 k2 : Str} {p pos p1 p2 : Pos} {n k : Nat} {C : Addr} {ns : List Str} {xs : List D} {pre : List D → List Str → List D → Prop}
/-- the class, made by its two parameters' names, the second one first -/
def MDk (T : List (Addr × Str)) (P : Program) (w : World) (K : PySem.W.Frag) (mg : Str → Option Value) (base : Heap) (x : Str) (C : Addr) (k : Nat) (pre : List D → List Str → List D → Prop) (k1 k2 : Str) : Prop :=
  ∃ f fd ps g gV, mg x = some (.ref C) ∧ Mk K C f ∧ FnOk P w K mg base CX0 k f fd ps (spM T K C 2 pre) ∧ KBn K fd ps 1 [k1, k2] g gV ∧ ∀ (y u v : V), gV [y] [u, v] = [y, v, u]
theorem ev_makeK (G : MDk T X.prog X.w X.K X.mg X.base x C k pre k1 k2) (hr : Room (k + 1) X.A) (h1 : EV T X e ss d1) (h2 : EV T X a ss d2) (hp : pre [d2, d1] ns xs) (hg : Gl X x := by rfl)
    (hall : (backToKw pos (keywordEach [⟨some k1, e, p1⟩, ⟨some k2, a, p2⟩] X.env)).all (·.1.isSome) = true := by rfl) (hks : (backToKw pos (keywordEach [⟨some k1, e, p1⟩, ⟨some k2, a, p2⟩] X.env)).filterMap (·.1) = [k1, k2] := by rfl) (hdb : (x == ("__debug__" : Str)) = false := by decide)
    (hpl : ((backTo pos (starEach [] X.env)).any (·.1) || (backToKw pos (keywordEach [⟨some k1, e, p1⟩, ⟨some k2, a, p2⟩] X.env)).any (·.1.isNone)) = false := by rfl) : EV T X (.Call (.Name x p) [] [⟨some k1, e, p1⟩, ⟨some k2, a, p2⟩] pos) ss (.ins C ns xs) := by
  obtain ⟨f, fd, ps, g, gV, e1, e2, e3, e4, e5⟩ := G
  refine EV.of (pe_makeK0 (E := E0) e2 e3 hr e1 e4 pass0 (pk_cons h1 (pk_cons h2 pk_nil)) hg hall hks hdb hpl) fun B F H σ Q R q => ev_go R fun v F1 H1 n1 R1 i1 => ev_go R1 fun u F2 H2 n2 R2 i2 => ⟨rfl, fun y dx hy hdx ne => ?_⟩
  rw [e5]
  exact ⟨H2, F2, y, dx, [u, v], [d2, d1], ns, xs, rfl, hy, hdx, ne, rfl, R2.sub, R2.nt, R2.tb, IsL.cons i2 (IsL.cons (Is.mono n2.f _ i1) IsL.nil), rfl, hp, fun F3 H3 n3 i3 => ⟨rfl, q _ F3 H3 ((n1.trans n2).trans n3) (R2.grow n3) i3⟩⟩
/-- False in a list of three True -/
theorem tv_inT {j : Nat} (he : EV T X e ss (.lst (List.replicate 3 (.bl true)))) (h1 : behindInMarks .In e = false := by rfl) : TV T X (.Compare (.Constant (.bool false) j p) [.In] [e] pos) ss false :=
  tv_cmp op_in_seq ev_bl he (fun B F H σ v u Q R i1 i2 q => by
    obtain ⟨a, vs, rfl, e1, e2⟩ := i2
    obtain rfl : v = .bl false := i1
    have ev : vs = [.bl true, .bl true, .bl true] := isL_bl (bs := [true, true, true]) e2
    subst ev
    exact ⟨a, _, rfl, .inl (SqL.of (R.sub _ _ e1)), rfl, rfl, q F H R.nx R⟩) h1
theorem pt_ifE {c a b : Expr} {tc ta tb : TT} (hc : PT X c tc) (ha : PT X a ta) (hb : PT X b tb) : PT X (.IfExp c a b pos) (fun σ H Q => tc σ H fun d H1 => if d = true then ta σ H1 Q else tb σ H1 Q) := by
  refine ⟨fun pins s σ H Q I h => isTrue_IfExp (thn (hc.run pins s σ H _ I h) fun d s1 ⟨H1, I1, q1⟩ => ?_)⟩
  cases d with
  | true => exact ha.run pins s1 σ H1 Q I1 q1
  | false => exact hb.run pins s1 σ H1 Q I1 q1
/-- a if c else b, as a test -/
theorem tv_ifE {c a b : Expr} {t u : Bool} (hc : TV T X c ss t) (h1 : t = true → TV T X a ss u) (h2 : t = false → TV T X b ss u) : TV T X (.IfExp c a b pos) ss u := by
  have p1 : PT X a (tTv T X.K fun ss' d' => TV T X a ss' d') := pt_fam fun _ _ h => h
  have p2 : PT X b (tTv T X.K fun ss' d' => TV T X b ss' d') := pt_fam fun _ _ h => h
  refine TV.of (pt_ifE hc p1 p2) fun B F H σ Q R q => tv_go R fun F1 H1 n1 R1 => ?_
  cases t with
  | true => exact iteT ⟨B, F1, ss, u, h1 rfl, R1, fun F2 H2 n2 R2 => q F2 H2 (n1.trans n2) R2⟩
  | false => exact iteF ⟨B, F1, ss, u, h2 rfl, R1, fun F2 H2 n2 R2 => q F2 H2 (n1.trans n2) R2⟩
end
end Fd

set_option Elab.async false
set_option linter.all false
set_option maxRecDepth 100000
set_option maxHeartbeats 4000000
/-! Fd16: the end of a law's proof with tables of code objects; raw facts to defs and methods. -/
namespace Fd
open PySem PySem.Spec PyProof.Rows L2
/-- THE END with tables: cs the makers' code objects and their tables, T the tables' names -/
theorem walkT {l : PySem.W.OpenLaw} {q : Program} {loose : List Str} {XP : (Str → Option Value) → Heap → Prop} {YP : World → Heap → Prop} {d : DefRec} {K : Params → PySem.W.Frag} {x : Str} (k : Nat) (hk : Room k callerA) (hn : l.most = some 63) (hdf : d.params.defaults = [])
    (hY : ∀ (w : World) (h : Heap), YP w h → (K w.params).In h)
    (F : ∀ (w : World) (mg : Str → Option Value) (fa : Addr) (h : Heap), YP w h → (K w.params).In h → h.Ns mainGlobals mg → mg d.name = some (.ref fa) →
      ∃ (fd : FuncData) (cs : List (Addr × Addr)) (T : List (Addr × Str)), (∀ p ∈ cs, h.get? p.2 = some { cls := .none, data := .fields #[] }) ∧ (∀ p ∈ cs, (K w.params).lookup p.2 = none) ∧ (∀ p ∈ cs, PySem.W.CodeHd h p.1 p.2) ∧ (∀ p ∈ T, p.1 ∈ cs.map (·.2)) ∧
        (∀ (s : Shared) (u : Value), BindsTo s fd ⟨[u], []⟩ [(x, u)]) ∧ ∀ base : Heap, (K w.params).In base → base.Ns mainGlobals mg → (∀ p ∈ cs, LamX.TabB base mg p.1 p.2) → FnOk l.prog w (K w.params) mg base CX0 k fa fd [x] (spD T (K w.params) 1 pLaw)) :
    PySem.W.WalkO q loose XP YP l.row.toRowW d [] (fun f vs => PySem.call f vs) := by
  refine LamX.walk_ofTs (n := 63) (k := k) (x := x) (CX := fun _ => CX0) hn (by decide) hdf hk hY (fun w mg fa h Y KX G hm => ?_) fun _ _ _ _ _ z => z
  obtain ⟨fd, cs, T, h1, h2, h3, h4, h5, h6⟩ := F w mg fa h Y KX G hm
  refine ⟨fd, cs, spD T (K w.params) 1 pLaw, h1, h2, h3, h5, fun H a ns hl _ hH hS => ?_, h6⟩
  refine ⟨noTbl H, [.rdl (ns.map D.int)], .bl true, noTbl_ext H, noTbl_nt H, fun p hp => ?_, ⟨_, _, rfl, ⟨a, ns.map V.int, rfl, noTbl_seq hS, ints_is ns⟩, rfl⟩, rfl, ⟨ns, rfl, hl, rfl⟩, fun v F1 H1 _ e => e⟩
  obtain ⟨c, hc, e⟩ := List.mem_map.mp (h4 p hp)
  exact LamX.TabS.nil (by rw [← e]; exact hH c hc)
section
variable {K : PySem.W.Frag} {mg : Str → Option Value} {h : Heap}
/-- a def of the top: its function object at f, its code object cdv -/
structure Dz (K : PySem.W.Frag) (mg : Str → Option Value) (x : Str) (st : Stmt) (f : Addr) (cdv : Value) : Prop where
  at_ : mg x = some (.ref f)
  fn : ∃ fd, Fun K x x st f fd ∧ FunZ K x x st f fd cdv
theorem dz_mk (X : K.In h) (G : h.Ns mainGlobals mg) {x : Str} {st : Stmt} {f : Addr} {oc : Value} {od an : Option Addr} {osl : Array (Option Value)} {kV doc pm cdv ct : Value} (a : PySem.W.nsIn K mainGlobals x = some (some (.ref f)))
    (l : K.lookup f = some ⟨oc, od, .func (PySem.W.fnOf x x (defArgs st) (defBody st) (defScope st) .none kV doc pm an cdv ct), osl⟩) (c : PySem.W.codeIn K cdv x = true) (k : PySem.W.keepIn K (.ref f) = true) : Dz K mg x st f cdv :=
  ⟨PySem.W.mg_of X G a, _, fun_mk l c k, ⟨oc, od, .none, kV, doc, pm, an, ct, osl, rfl, l, c⟩, k⟩
/-- a method m of the class C -/
structure Mz (K : PySem.W.Frag) (C : Addr) (m qual : Str) (st : Stmt) (f : Addr) (cdv : Value) : Prop where
  me : Meth K C m f
  fn : ∃ fd, Fun K m qual st f fd ∧ FunZ K m qual st f fd cdv
theorem mz_mk {C : Addr} {m qual : Str} {st : Stmt} {f : Addr} {oc : Value} {od an : Option Addr} {osl : Array (Option Value)} {kV doc pm cdv ct : Value} (a : PySem.W.findIn K (.ref C) m = some (some (.ref f))) (b : PySem.W.isFn K (.ref f) = true)
    (l : K.lookup f = some ⟨oc, od, .func (PySem.W.fnOf m qual (defArgs st) (defBody st) (defScope st) .none kV doc pm an cdv ct), osl⟩) (c : PySem.W.codeIn K cdv qual = true) (k : PySem.W.keepIn K (.ref f) = true) : Mz K C m qual st f cdv :=
  ⟨⟨a, b, k⟩, _, fun_mk l c k, ⟨oc, od, .none, kV, doc, pm, an, ct, osl, rfl, l, c⟩, k⟩
/-- an __init__ whose last parameter has the default value 1 -/
structure Iz (K : PySem.W.Frag) (C : Addr) (qual : Str) (st : Stmt) (f : Addr) (fd : FuncData) (cdv : Value) : Prop where
  mk' : Mk K C f
  z : FunZ K "__init__" qual st f fd cdv
  d : FunD K "__init__" qual (defArgs st) (defBody st) (defScope st) [.int 1] [] f fd
theorem iz_mk {C Td : Addr} {qual : Str} {st : Stmt} {f : Addr} {oc oc2 : Value} {od od2 an : Option Addr} {osl osl2 : Array (Option Value)} {kV doc pm cdv ct : Value} {arr : Array Value} {n2 : Nat} (m1 : PySem.W.makesIn K C = true) (a : PySem.W.findIn K (.ref C) "__init__" = some (some (.ref f))) (b : PySem.W.isFn K (.ref f) = true) (kC : PySem.W.keepIn K (.ref C) = true)
    (l : K.lookup f = some ⟨oc, od, .func (PySem.W.fnOf "__init__" qual (defArgs st) (defBody st) (defScope st) (.ref Td) kV doc pm an cdv ct), osl⟩) (c : PySem.W.codeIn K cdv qual = true) (k : PySem.W.keepIn K (.ref f) = true)
    (t : K.lookup Td = some ⟨oc2, od2, .seq arr n2, osl2⟩) (e : ∃ tk, arr.toList = [Value.int 1 tk]) : Iz K C qual st f (PySem.W.fnOf "__init__" qual (defArgs st) (defBody st) (defScope st) (.ref Td) kV doc pm an cdv ct) cdv := by
  obtain ⟨tk, e⟩ := e
  refine ⟨⟨m1, a, b, kC⟩, ⟨⟨oc, od, .ref Td, kV, doc, pm, an, ct, osl, rfl, l, c⟩, k⟩, ⟨oc, od, .ref Td, kV, doc, pm, an, cdv, ct, osl, rfl, l, c, .inr ⟨by simp, Td, _, arr.toList, n2, rfl, t, by simp, ?_⟩, .inl rfl⟩, k⟩
  rw [e]
  exact .cons ⟨_, rfl⟩ .nil
end
end Fd

set_option Elab.async false
set_option linter.all false
set_option maxRecDepth 100000
set_option maxHeartbeats 4000000
/-! Fd17: texts: methods, slices, signs; str of an own object; f-strings. -/
namespace Fd
open PySem PySem.Spec PyProof.Rows L2
section
variable {T : List (Addr × Str)} {X : Cx} {ss : SS} {o e e1 e2 : Expr} {x y z : Str} {d dy : D} {p pos apos p2 : Pos} {i j : Int}
/-- o.m(e), o a text -/
theorem ev_m1 {id : String} {name : Str} {r : V → List V → Hp → VK → Prop} (slot : Slot "str" name id) (ty : typeOf (.builtin id) = pure (.type "method_descriptor")) (rule : MtR X id r) (ho : EV T X o ss (.str x)) (he : EV T X e ss dy)
    (k : ∀ B F H σ u Q, StR T X.K B F H σ ss → Is X.K F dy u → (∀ z F1 H1, Nx T F H F1 H1 → StR T X.K B F1 H1 σ ss → Is X.K F1 d z → Q z H1) → r (.str x) [u] H Q)
    (hs : starEach [e] X.env = [(false, eval e X.env)] := by rfl) (hbase : attributeBase o name X.env (eval o X.env) = eval o X.env := by rfl) (hline : (apos.endLine == pos.line) = true := by rfl) : EV T X (.Call (.Attribute o name apos) [e] [] pos) ss d :=
  EV.of (pe_m1 slot ty rule ho he hs hbase hline) fun B F H σ Q R q => ev_go R fun v F1 H1 n1 R1 i1 => by
    cases (show v = .str x from i1)
    refine ⟨⟨x, rfl⟩, ev_go R1 fun u F2 H2 n2 R2 i2 => k B F2 H2 σ u Q R2 i2 fun z F3 H3 n3 R3 i3 => q z F3 H3 ((n1.trans n2).trans n3) R3 i3⟩
theorem ev_unprefix (hl : x.length ≤ 100000) (ho : EV T X o ss (.str x)) (he : EV T X e ss (.str y)) (hs : starEach [e] X.env = [(false, eval e X.env)] := by rfl) (hbase : attributeBase o "removeprefix" X.env (eval o X.env) = eval o X.env := by rfl) (hline : (apos.endLine == pos.line) = true := by rfl) :
    EV T X (.Call (.Attribute o "removeprefix" apos) [e] [] pos) ss (.str (Txt.removeprefix x y)) :=
  ev_m1 PySem.F.slot_str_removeprefix PySem.F.type_str_removeprefix mt_removeprefix ho he (fun B F H σ u Q R i q => by
    cases (show u = .str y from i)
    exact ⟨x, y, rfl, rfl, small_len hl, q _ F H R.nx R rfl⟩) hs hbase hline
theorem ev_starts (ho : EV T X o ss (.str x)) (he : EV T X e ss (.str y)) (hs : starEach [e] X.env = [(false, eval e X.env)] := by rfl) (hbase : attributeBase o "startswith" X.env (eval o X.env) = eval o X.env := by rfl) (hline : (apos.endLine == pos.line) = true := by rfl) :
    EV T X (.Call (.Attribute o "startswith" apos) [e] [] pos) ss (.bl (Txt.startswith x y)) :=
  ev_m1 PySem.F.slot_str_startswith PySem.F.type_str_startswith mt_startswith ho he (fun B F H σ u Q R i q => by
    cases (show u = .str y from i)
    exact ⟨x, y, rfl, rfl, q _ F H R.nx R rfl⟩) hs hbase hline
theorem ev_part (hy : (y.length == 0) = false) (hl : x.length ≤ 100000) (ho : EV T X o ss (.str x)) (he : EV T X e ss (.str y)) (hs : starEach [e] X.env = [(false, eval e X.env)] := by rfl) (hbase : attributeBase o "partition" X.env (eval o X.env) = eval o X.env := by rfl) (hline : (apos.endLine == pos.line) = true := by rfl) :
    EV T X (.Call (.Attribute o "partition" apos) [e] [] pos) ss (.tup [.str (Txt.partition x y).1, .str (Txt.partition x y).2.1, .str (Txt.partition x y).2.2]) :=
  ev_m1 PySem.F.slot_str_partition PySem.F.type_str_partition mt_partition ho he (fun B F H σ u Q R i q => by
    cases (show u = .str y from i)
    refine ⟨x, y, rfl, rfl, hy, small_len hl, fun a ha => ?_⟩
    exact q _ _ _ (Nx.alloc R.sub ha) (R.alloc ha) ⟨a, _, rfl, SqT.of upd_same, IsL.cons rfl (IsL.cons rfl (IsL.cons rfl IsL.nil))⟩) hs hbase hline
theorem isL_strs {K : PySem.W.Frag} {F : Hp} : ∀ ys : List Str, IsL K F (ys.map D.str) (ys.map V.str)
  | [] => rfl
  | y :: r => ⟨_, _, rfl, rfl, isL_strs r⟩
theorem ev_split (hy : (y.length == 0) = false) (hl : x.length ≤ 99990) (ho : EV T X o ss (.str x)) (he : EV T X e ss (.str y)) (hs : starEach [e] X.env = [(false, eval e X.env)] := by rfl) (hbase : attributeBase o "split" X.env (eval o X.env) = eval o X.env := by rfl) (hline : (apos.endLine == pos.line) = true := by rfl) :
    EV T X (.Call (.Attribute o "split" apos) [e] [] pos) ss (.lst ((Txt.split x y).map D.str)) :=
  ev_m1 PySem.F.slot_str_split PySem.F.type_str_split mt_split ho he (fun B F H σ u Q R i q => by
    cases (show u = .str y from i)
    refine ⟨x, y, rfl, rfl, hy, by rw [sizeLine_eq]; omega, fun a ha => ?_⟩
    exact q _ _ _ (Nx.alloc R.sub ha) (R.alloc ha) ⟨a, _, rfl, upd_same, isL_strs _⟩) hs hbase hline
/-- x[i] -/
theorem ev_sign {c : Nat} (h : ∃ n : Nat, i = n ∧ x.cps.toList[n]? = some c) (hl : x.length ≤ 100000) (ha : EV T X o ss (.str x)) (hb : EV T X e ss (.int i)) (hs : PlainIxT e := by exact fun _ _ => rfl) : EV T X (.Subscript o e pos) ss (.str ⟨#[c]⟩) :=
  EV.of (pe_item_str ha hb hs) fun B F H σ Q R q => ev_go R fun v F1 H1 n1 R1 i1 => ev_go R1 fun u F2 H2 n2 R2 i2 => by
    obtain ⟨n, rfl, hn⟩ := h
    cases (show v = .str x from i1)
    cases (show u = .int _ from i2)
    have hlt : n < x.length := by
      have := (List.getElem?_eq_some_iff.mp hn).1
      simpa [Str.length] using this
    refine ⟨x, _, c, rfl, rfl, by omega, by omega, by omega, ?_, q _ F2 H2 (n1.trans n2) R2 rfl⟩
    rw [← Array.getElem?_toList]
    simpa using hn
/-- x[lo:hi] -/
def PV (T : List (Addr × Str)) (X : Cx) (o : Option Expr) (ss : SS) (l : Option Int) : Prop := (o = none ∧ l = none) ∨ ∃ e i, o = some e ∧ l = some i ∧ EV T X e ss (.int i)
theorem pv_none : PV T X none ss none := .inl ⟨rfl, rfl⟩
theorem pv_some (h : EV T X e ss (.int i)) : PV T X (some e) ss (some i) := .inr ⟨e, i, rfl, rfl, h⟩
def tPV (T : List (Addr × Str)) (K : PySem.W.Frag) (ss : SS) (l : Option Int) : TO := fun σ H Q => ∃ B F, StR T K B F H σ ss ∧ ∀ F1 H1, Nx T F H F1 H1 → StR T K B F1 H1 σ ss → Q l H1
theorem po_pv {o : Option Expr} {l : Option Int} (h : PV T X o ss l) : PO X o (tPV T X.K ss l) := by
  rcases h with ⟨rfl, rfl⟩ | ⟨e, i, rfl, rfl, h⟩
  · exact ⟨fun pins s σ H Q I ⟨B, F, R, q⟩ => (po_none (X := X)).run pins s σ H Q I (q F H R.nx R)⟩
  · refine ⟨fun pins s σ H Q I ⟨B, F, R, q⟩ => (po_some h).run pins s σ H Q I (ev_go R fun v F1 H1 n1 R1 i1 => ?_)⟩
    exact ⟨i, i1, q F1 H1 n1 R1⟩
theorem ev_cut {lo hi : Option Expr} {l u : Option Int} (hz : x.length ≤ 100000) (ha : EV T X o ss (.str x)) (hl : PV T X lo ss l) (hu : PV T X hi ss u) : EV T X (.Subscript o (.Slice lo hi none p2) pos) ss (.str (cutS x l u)) :=
  EV.of (pe_slice sl_str ha (po_pv hl) (po_pv hu)) fun B F H σ Q R q => ev_go R fun v F1 H1 n1 R1 i1 => by
    cases (show v = .str x from i1)
    exact ⟨B, F1, R1, fun F2 H2 n2 R2 => ⟨B, F2, R2, fun F3 H3 n3 R3 => ⟨x, rfl, small_len hz, q _ F3 H3 ((n1.trans n2).trans n3) R3 rfl⟩⟩⟩
/-- int(x) -/
theorem ev_intS {n : Int} (hn : PySem.intText? x = some n) (hl : x.length ≤ 640) (ha : EV T X e ss (.str x)) (hm : X.mg "int" = none) (hg : Gl X "int" := by rfl) (he : starEach [e] X.env = [(false, eval e X.env)] := by rfl) : EV T X (.Call (.Name "int" p) [e] [] pos) ss (.int n) :=
  ev_bty call_int_str (evs_cons ha evs_nil he) hm (by decide +kernel) (fun B F H σ vs Q R i1 q => by
    obtain ⟨v, rfl, h⟩ := isL1 i1
    cases (show v = .str x from h)
    exact ⟨x, n, rfl, hn, hl, q _ F H R.nx R rfl⟩) hg (he := he)
/-- c in x, c not in x: a sign -/
theorem ev_inC {c : Nat} (ha : EV T X o ss (.str ⟨#[c]⟩)) (hb : EV T X e ss (.str x)) (h1 : behindInMarks .In e = false := by rfl) : EV T X (.Compare o [.In] [e] pos) ss (.bl (decide (c ∈ x.cps.toList))) :=
  ev_cmp op_in_sign ha hb (fun B F H σ v u Q R i1 i2 q => by
    cases (show v = .str ⟨#[c]⟩ from i1); cases (show u = .str x from i2)
    exact ⟨c, x, rfl, rfl, q _ F H R.nx R rfl⟩) h1
theorem tv_notInC {c : Nat} (ha : EV T X o ss (.str ⟨#[c]⟩)) (hb : EV T X e ss (.str x)) (h1 : behindInMarks .NotIn e = false := by rfl) : TV T X (.Compare o [.NotIn] [e] pos) ss (!decide (c ∈ x.cps.toList)) :=
  tv_cmp op_notIn_sign ha hb (fun B F H σ v u Q R i1 i2 q => by
    cases (show v = .str ⟨#[c]⟩ from i1); cases (show u = .str x from i2)
    exact ⟨c, x, rfl, rfl, q F H R.nx R⟩) h1
/-- x is None -/
theorem is_non {K : PySem.W.Frag} {F : Hp} {d : D} {v : V} (h : Is K F d v) (hd : d ≠ .non) : v ≠ .non := by
  intro e; subst e
  cases d with
  | non => exact hd rfl
  | bl b => cases (show V.non = .bl b from h)
  | int i => cases (show V.non = .int i from h)
  | str x => cases (show V.non = .str x from h)
  | lst xs => obtain ⟨a, vs, e, _⟩ := h; cases e
  | rdl xs => obtain ⟨a, vs, e, _⟩ := h; cases e
  | tup xs => obtain ⟨a, vs, e, _⟩ := h; cases e
  | ins C ns xs => obtain ⟨a, dx, fs, e, _⟩ := h; cases e
  | dct ks xs => obtain ⟨a, kvs, e, _⟩ := h; cases e
  | exc C ns xs => obtain ⟨a, od, fs, e, _⟩ := h; cases e
  | adr a => cases (show V.non = .ref a from h)
  | ty n => cases (show V.non = .ty n from h)
theorem tv_isN (b : Bool) (ha : EV T X o ss d) (hb : (b = true ∧ d = .non) ∨ (b = false ∧ d ≠ .non)) {j : Nat} {pn : Pos} (h1 : behindInMarks .Is (.Constant .none j pn) = false := by rfl) : TV T X (.Compare o [.Is] [.Constant .none j pn] pos) ss b :=
  tv_cmp op_isN ha ev_non (fun B F H σ v u Q R i1 i2 q => by
    refine ⟨i2, ?_⟩
    rcases hb with ⟨rfl, rfl⟩ | ⟨rfl, hd⟩
    · cases (show v = .non from i1)
      exact q F H R.nx R
    · rw [decide_eq_false (is_non i1 hd)]
      exact q F H R.nx R) h1
end
end Fd

set_option Elab.async false
set_option linter.all false
set_option maxRecDepth 100000
set_option maxHeartbeats 4000000
/-! Fd18: an own exception with one attribute, raised and caught with its name. -/
namespace Fd
open PySem PySem.Spec PyProof.Rows L2 PySem.ExS
section
variable {X : Cx} {C fI cc cda : Addr} {f y x : Str} {k : Nat} {e : Expr} {ta : TA} {p pos : Pos}
/-- C(e), to be raised: its dict is known -/
theorem pmk_exv1 (EC : ExCls X.prog X.K X.mg C fI cc cda) (Fn : ExFn1 X.K C fI cc cda f y) (rs : Raises X (.ref C)) (hr : Room k X.A) (he : PA X [e] ta) (hm : X.mg x = some (.ref C)) (hg : Gl X x := by rfl) (hdb : (x == ("__debug__" : Str)) = false := by decide)
    (hst : starEach [e] X.env = [(false, eval e X.env)] := by rfl) (hpl : (backTo pos (starEach [] X.env)).any (·.1) = false := by rfl) :
    PMk X (.Call (.Name x p) [e] [] pos) (fun σ H Q => ta σ H fun vs H1 => ∃ v, vs = [v] ∧ ∀ d, H1 d = none → Q (.ref C) (some d) (upd H1 d (.xd [(f, v)]))) := by
  intro pins s σ H Q I h
  refine wpAny_Call_Name_kw (ld_glob I hg hm ?_ hdb)
  refine PySem.W.callWith_K (h₀ := X.base) I.ok.mod.kin EC.kC (thn (he.run pos pins s σ H _ I h) fun us s1 ⟨vs, H1, I1, r1, v, ev, q⟩ => ⟨I1.kIn, ?_⟩) hst hpl
  subst ev
  obtain ⟨u, rfl, ru⟩ := vals1 r1
  show wpAny _ _ (call (.ref C) [u]) _ _ _
  obtain ⟨mb, h1, h2⟩ := I1.mod.blt
  have hlim := I1.nolimit
  have kin := I1.kIn
  have g1 := I1.mod.glob.keeps I1.bk
  have g2 := h1.keeps I1.bk
  have bare := I1.bare
  obtain ⟨hp, g, dr, tk, os⟩ := s1
  refine wpAny_call (made1 EC Fn kin hlim g1 g2 (h2 _ (by decide)) (by have := hr.dp; omega) fun h' tk' a d M => ?_)
  obtain ⟨t1, ho⟩ := M.obj
  obtain ⟨G, gG, gN⟩ := restrict h' fun b => !decide (b = a)
  have Ga : G.get? a = none := gN a (by simp)
  have Go : ∀ b, b ≠ a → G.get? b = h'.get? b := fun b nb => gG b (by simpa using nb)
  have old : ∀ b o, hp.get? b = some o → G.get? b = some o := fun b o e => by
    rw [Go b (Nat.ne_of_lt (Nat.lt_of_lt_of_le (Heap.lt_size e) M.new))]
    exact M.keep b o e
  have Gd : G.Ns1 d (fun y => if y = f then some u else none) := by
    obtain ⟨od, es, ep, e1, c⟩ := M.ns
    exact ⟨od, es, ep, by rw [Go d M.dne]; exact e1, c⟩
  have okd : ObjOk X.prog X.w (upd H1 d (.xd [(f, v)])) G d (.xd [(f, v)]) := ⟨_, Gd, relO_put (fs := []) ru fun g => True.intro⟩
  have J : Inv X pins σ (upd H1 d (.xd [(f, v)])) ⟨G, g, dr, tk', os⟩ := I1.laid (t' := tk') (o := .xd [(f, v)]) old M.dbig okd
  have na : upd H1 d (.xd [(f, v)]) a = none := by rw [upd_ne (Ne.symm M.dne)]; exact I1.hok.fresh M.new
  exact ⟨a, _, _, ⟨G, g, dr, tk', os⟩, _, .ref C, some d, rfl, J, fun b o e => by
    have nb : b ≠ a := fun z => by rw [z] at e; rw [show ({ heap := G, gens := g, drawn := dr, toks := tk', os := os } : Shared).heap.get? a = none from Ga] at e; cases e
    exact (Go b nb).symm.trans e, Ga, ho, ⟨rfl, rfl⟩, rfl, rfl, na, rfl, bare, rs, q d (I1.hok.fresh M.dbig)⟩
end
/-- what is told of a raised exception: its class and its dict -/
def Told (C : Addr) (f : Str) (v : V) (c : Value) (d : Option Addr) (H : Hp) : Prop := c = .ref C ∧ ∃ dd, d = some dd ∧ H dd = some (.xd [(f, v)])
/-- a def that raises, J told of the exception -/
def spY (T : List (Addr × Str)) (K : PySem.W.Frag) (n : Nat) (pre : List D → (Value → Option Addr → Hp → Prop) → Prop) : Sp := fun vs H _ E => ∃ F ds J, Ext F H ∧ (∀ p ps, F p ≠ some (.tbl ps)) ∧ LamX.Tabs T H ∧ IsL K F ds vs ∧ ds.length = n ∧ pre ds J ∧ ∀ c d H1, Gr T H H1 → J c d H1 → E c d H1
def RY (T : List (Addr × Str)) (X : Cx) (sts : List Stmt) (ss : SS) (J : Value → Option Addr → Hp → Prop) (E : XK) : Prop := PSs X sts (fun _ σ H => ∃ B F, StR T X.K B F H σ ss ∧ ∀ c d H1, Gr T B.2 H1 → J c d H1 → E c d H1)
abbrev AllRy (T : List (Addr × Str)) (X : Cx) (sts : List Stmt) (J : Value → Option Addr → Hp → Prop) (E : XK) : TS := fun _ σ H => ∃ B F ss, RY T X sts ss J E ∧ StR T X.K B F H σ ss ∧ ∀ c d H1, Gr T B.2 H1 → J c d H1 → E c d H1
section
variable {T : List (Addr × Str)} {X : Cx} {ss : SS} {P : Post} {st : Stmt} {sts rest A B : List Stmt} {e cnd : Expr} {J : Value → Option Addr → Hp → Prop} {E : XK} {pos p : Pos} {C fI cc cda : Addr} {f y x : Str} {k n : Nat} {d : D} {z : Str} {pos' : Pos}
theorem pss_ry : PSs X sts (AllRy T X sts J E) := ⟨fun pins s σ H D I ⟨B, F, ss, h, R, q⟩ => h.run pins s σ H D I ⟨B, F, R, q⟩⟩
theorem ry_cons (h : SV T X st ss ⟨fun ss' => RY T X rest ss' J E, fun _ => False, fun _ => False, fun _ => False⟩) : RY T X (st :: rest) ss J E := by
  refine PSs.imp (pss_cons h (pss_ry (T := T) (J := J) (E := E))) fun D σ H ⟨B, F, R, q⟩ => ?_
  exact ⟨B, F, ss, _, ⟨rfl, rfl⟩, R, fun ss' σ' F1 H1 hn R1 => ⟨B, F1, ss', hn, R1, q⟩, fun _ _ _ _ _ _ z => z.elim, fun _ _ _ _ z => z.elim, fun _ _ _ _ z => z.elim⟩
theorem ry_ifT (hc : TV T X cnd ss true) (h : RY T X A ss J E) : RY T X (.If cnd A B pos :: rest) ss J E :=
  PSs.imp (pss_cons (ps_if hc h (pss_all (T := T) (sts := B))) (pss_all (T := T))) fun D σ H ⟨B0, F, R, q⟩ => tv_go R fun F1 H1 n1 R1 => ⟨B0, F1, R1, q⟩
/-- raise C(e), e a text -/
theorem ry_raise (tk : Takes X (fun cls d _ H => E cls d H)) (EC : ExCls X.prog X.K X.mg C fI cc cda) (Fn : ExFn1 X.K C fI cc cda f y) (rs : Raises X (.ref C)) (hr : Room k X.A) (hm : X.mg x = some (.ref C)) (he : EV T X e ss (.str z)) (hg : Gl X x := by rfl) (hc : X.calm = true := by rfl) (hdb : (x == ("__debug__" : Str)) = false := by decide)
    (hst : starEach [e] X.env = [(false, eval e X.env)] := by rfl) (hpl : (backTo pos (starEach [] X.env)).any (·.1) = false := by rfl) : RY T X (.Raise (some (.Call (.Name x p) [e] [] pos)) none pos' :: rest) ss (Told C f (.str z)) E := by
  refine PSs.imp (pss_cons (ps_raise hc tk (pmk_exv1 EC Fn rs hr (evs_cons he evs_nil hst) hm hg hdb hst hpl)) (pss_all (T := T))) fun D σ H ⟨B0, F, R, q⟩ => ?_
  refine evs_go R fun vs F1 H1 n1 R1 i1 => ?_
  obtain ⟨v, rfl, i⟩ := isL1 i1
  cases (show v = .str z from i)
  refine ⟨_, rfl, fun d hd => q _ _ _ (R1.bH.trans (Gr.of (Ext.upd hd))) ⟨rfl, d, rfl, upd_same⟩⟩
end
section
variable {T : List (Addr × Str)} {P : Program} {w : World} {K : PySem.W.Frag} {mg : Str → Option Value} {base : Heap} {x qual : Str} {st : Stmt} {f : Addr} {fd : FuncData} {cdv : Value} {N ps : List Str} {k n : Nat} {pre : List D → (Value → Option Addr → Hp → Prop) → Prop}
theorem fy_ok (F : FunZ K x qual st f fd cdv) (S : FnScope N ps (defScope st)) (hn : ps.length = n)
    (h : ∀ (A : Around) (outer : List Env) (s : Shared) (H : Hp) (E : XK) (ds : List D) (J : Value → Option Addr → Hp → Prop), Room k (A.deeper (envOfC qual (defScope st) s.heap.objs.size f cdv)) → ds.length = n → pre ds J →
      Takes (xX P w K mg base N qual st f cdv A outer s H E) (fun cls d _ H => E cls d H) → RY T (xX P w K mg base N qual st f cdv A outer s H E) (defBody st) (startS N ds) J E) : FnOk P w K mg base (L2.CX P w) (k + 1) f fd ps (spY T K n pre) :=
  F.ok S (fun vs H Q E ⟨F, ds, J, _, _, _, i, l, _⟩ => by rw [i.length, l, hn]) fun A outer s H vs Q E hr ⟨F0, ds, J, x, nt, tb, i, l, p, q⟩ =>
    ⟨_, h A outer s H E ds J hr l p (takes_of rfl rfl rfl rfl), (F0, H), F0, start_str x nt tb i, q⟩
/-- the def under the module's name x, in the runs in which it raises -/
def FY (T : List (Addr × Str)) (P : Program) (w : World) (K : PySem.W.Frag) (mg : Str → Option Value) (base : Heap) (x : Str) (n k : Nat) (pre : List D → (Value → Option Addr → Hp → Prop) → Prop) : Prop :=
  ∃ f fd ps, mg x = some (.ref f) ∧ PySem.W.keepIn K (.ref f) = true ∧ Binds K fd ps [] ∧ ps.length = n ∧ FnOk P w K mg base (L2.CX P w) k f fd ps (spY T K n pre)
end
section
variable {T : List (Addr × Str)} {X : Cx} {ss : SS} {e : Expr} {es : List Expr} {ds : List D} {J : Value → Option Addr → Hp → Prop} {x : Str} {p pos : Pos} {n k : Nat} {pre : List D → (Value → Option Addr → Hp → Prop) → Prop} {E : XK}
theorem ry_call (G : FY T X.prog X.w X.K X.mg X.base x n k pre) (hx : Passes (L2.CX X.prog X.w) X E) (hr : Room k X.A) (ha : EVs T X (e :: es) ss ds) (hp : pre ds J) (hn : ds.length = n := by rfl) (hg : Gl X x := by rfl) (hdb : (x == ("__debug__" : Str)) = false := by decide)
    (he : starEach (e :: es) X.env = (false, eval e X.env) :: starEach es X.env := by rfl) (hpl : (backTo pos (starEach es X.env)).any (·.1) = false := by rfl) :
    PE X (.Call (.Name x p) (e :: es) [] pos) (fun σ H _ => ∃ B F, StR T X.K B F H σ ss ∧ ∀ c d H1, Gr T H H1 → J c d H1 → E c d H1) := by
  obtain ⟨f, fd, ps, h1, h2, h3, h4, h5⟩ := G
  refine PE.imp (pe_call h5 hr hg h1 h2 h3 .nil hx ha hdb he hpl) fun σ H Q ⟨B, F, R, q⟩ => evs_go R fun vs F1 H1 n1 R1 i1 => ?_
  show spY T X.K n pre (vs ++ []) H1 Q E
  rw [List.append_nil]
  exact ⟨F1, ds, J, R1.sub, R1.nt, R1.tb, i1, hn, hp, fun c d H2 g j => q c d H2 (n1.h.trans g) j⟩
end
end Fd

set_option Elab.async false
set_option linter.all false
set_option maxRecDepth 100000
set_option maxHeartbeats 4000000
/-! Fd19: try with a clause that names the exception; str of an own object; f-strings of ints. -/
namespace Fd
open PySem PySem.Spec PyProof.Rows L2 PySem.ExS
section
variable {T : List (Addr × Str)} {X : Cx} {ss : SS} {P : Post} {st : Stmt} {body : List Stmt} {h₀ : ExceptHandler} {hs : List ExceptHandler} {e e1 e2 : Expr} {pos p p1 p2 p3 p4 p5 p6 p7 p8 p9 pa pb : Pos} {C : Addr} {f x n tag : Str} {z : Str} {i j j' : Nat}
theorem sv_tryN (h : SVs T X.nox body ss P) : SV T X (.Try body (h₀ :: hs) [] [] pos) ss P := ps_try_thru0 h
/-- try: return (.., r(e)) / except C as n: return (tag, n.f), where r raises C with the text z -/
theorem sv_tryE {r : Str} {k : Nat} {pre : List D → (Value → Option Addr → Hp → Prop) → Prop} {ds : List D} {es : List Expr} (G : FY T X.prog X.w X.K X.mg X.base r ds.length k pre) (hr : Room k X.A) (hp : pre ds (Told C f (.str z)))
    (ha : ∀ (pn : List (Addr × Obj)) (xe : Value → Shared → Prop), EVs T (X.tr pn xe) (e :: es) ss ds) (xf : XfC X.K C) (hno : PySem.W.findIn X.K (.ref C) f = some none) (hx : PySem.W.exmOne X.K (.ref C) (.ref C) = some true) (hm : X.mg x = some (.ref C)) (hk : P.rt (.tup [.str tag, .str z]))
    (hstk : X.stack = X.env :: X.outer := by rfl) (hf : X.env.frame = some X.env.locals := by rfl) (hN : X.N.Nodup) (hi : X.N[i]? = some n) (hln : X.env.kindOf n = some .local) (hin : i < ss.length) (hv : Vis X.env.scope n) (hg : Gl X x := by rfl) (hgr : Gl X r := by rfl) (tk : Takes X (fun _ _ _ _ => False))
    (hcm : X.calm = true := by rfl) (hd : (n == ("__debug__" : Str)) = false := by decide) (hcd : (n == ("__classdict__" : Str)) = false := by decide) (hdx : (x == ("__debug__" : Str)) = false := by decide) (hdr : (r == ("__debug__" : Str)) = false := by decide)
    (he : starEach (e :: es) X.env = (false, eval e X.env) :: starEach es X.env := by rfl) (hpl : (backTo p3 (starEach es X.env)).any (·.1) = false := by rfl) (hb : attributeBase (.Name n p7) f X.env (eval (.Name n p7) X.env) = eval (.Name n p7) X.env := by rfl) :
    SV T X (.Try [.Return (some (.Tuple [.Constant (.str (Str.ofString "number")) j p1, .Call (.Name r p2) (e :: es) [] p3] j' p4)) p5] [.ExceptHandler (some (.Name x p6)) (some n) [.Return (some (.Tuple [.Constant (.str tag) j p8, .Attribute (.Name n p7) f p9] j' pa)) pb] p] [] [] pos) ss P := by
  obtain ⟨fr, fd, ps, h1, h2, h3, h4, h5⟩ := G
  refine SV.of (ps_try_as (c := .ref C) (i := i) (Wout := fun _ _ _ _ => False) (tb := fun W D σ H => ∃ B F, StR T X.K B F H σ ss ∧ ∀ c d H1, Gr T H H1 → Told C f (.str z) c d H1 → W c d σ H1)
    hstk hf hN hi hln ⟨hg, hdx, .inl hm⟩ tk (fun W pn xe tk' _ => ?_) (fun a oe cls d pn hz hfl => pss_one (ps_ret (pe_tup (pa_cons pe_str (pa_cons (pe_xf xf hno hz hfl (pe_var hi hv hd hcd) hb) pa_nil)))))) fun B F H σ Dn R g => ?_
  · refine PSs.imp (pss_one (ps_ret (pe_tup (pa_cons pe_str (pa_cons (pe_callS (X := X.tr pn xe) (CX := L2.CX X.prog X.w) (E := WE W) h5 hr hgr h1 h2 h3 (fun σ => passAt tk' σ) (ha pn xe) hdr he hpl) pa_nil))))) fun D σ H ⟨B, F, R, q⟩ => ?_
    refine evs_go (T := T) (K := X.K) R fun vs F1 H1 n1 R1 i1 => ?_
    exact ⟨F1, ds, _, R1.sub, R1.nt, R1.tb, i1, rfl, hp, fun c d H2 g2 j2 => q c d H2 (n1.h.trans g2) j2⟩
  · refine ⟨B, F, R, fun c d H1 g1 ⟨ec, dd, ed, hdd⟩ => ?_⟩
    subst ec; subst ed
    refine ⟨true, hx, fun _ a ha' => ?_, fun z => nomatch z⟩
    have hl : i < σ.length := by rw [R.len]; exact hin
    refine ⟨.ref a, by rw [List.getElem?_set_self hl], rfl, rfl, dd, _, .str z, rfl, hdd, by simp, Nat.le_trans (show ([L2.V.str tag, L2.V.str z] : List L2.V).length ≤ 100000 by simp) (small_len (Nat.le_refl _)), fun q hq => ?_⟩
    have R1 := R.grow (R.gr g1)
    exact g.rt (.tup [.str tag, .str z]) _ ss σ _ _ hk (R1.alloc hq) ⟨q, _, rfl, SqT.of upd_same, IsL.cons rfl (IsL.cons rfl IsL.nil)⟩
end
end Fd

set_option Elab.async false
set_option linter.all false
set_option maxRecDepth 100000
set_option maxHeartbeats 4000000
/-! Nm: texts of numbers, as lists of signs: one reading by writing again, one by looking at the signs; they agree. -/
namespace Nm
open PySem.NumText
def Can (l : List Nat) : Prop := l = [48] ∨ ∃ c r, l = c :: r ∧ 49 ≤ c
abbrev val (l : List Nat) : Nat := digitsVal l
def nT (m : Nat) : List Nat := (Nat.toDigits 10 m).map Char.toNat
def iT (i : Int) : List Nat := if i < 0 then 45 :: nT i.natAbs else nT i.natAbs
theorem digC {c : Char} (h : c.isDigit = true) : 48 ≤ c.toNat ∧ c.toNat ≤ 57 := by
  simp only [Char.isDigit, Bool.and_eq_true, decide_eq_true_eq] at h
  exact ⟨h.1, h.2⟩
theorem ad_nT (m : Nat) : AllDigits (nT m) := fun c hc => by
  obtain ⟨ch, h1, h2⟩ := List.mem_map.mp hc
  have := digC (Nat.isDigit_of_mem_toDigits (by decide) (by decide) h1)
  rw [← h2]; exact this
theorem dv (m : Nat) : ∀ d : Nat, d < 10 → (Nat.digitChar d).toNat - 48 = d := by decide
theorem val_nT (m : Nat) : val (nT m) = m := by
  induction m using Nat.strongRecOn with
  | _ m ih =>
    by_cases h : m < 10
    · unfold nT
      rw [Nat.toDigits_of_lt_base h]
      have e := dv m m h
      show 0 * 10 + ((Nat.digitChar m).toNat - 48) = m
      omega
    · have hm : m % 10 < 10 := Nat.mod_lt m (by decide)
      have t := Nat.toDigits_append_toDigits (b := 10) (n := m / 10) (d := m % 10) (by decide) (by omega) hm
      rw [Nat.div_add_mod] at t
      unfold nT
      rw [← t, List.map_append, Nat.toDigits_of_lt_base hm]
      show digitsVal ((Nat.toDigits 10 (m / 10)).map Char.toNat ++ [(Nat.digitChar (m % 10)).toNat]) = m
      rw [digitsVal_snoc, dv m (m % 10) hm]
      have := ih (m / 10) (by omega)
      unfold nT val at this
      rw [this]; omega
theorem map_back : ∀ {l : List Nat}, AllDigits l → (l.map Char.ofNat).map Char.toNat = l
  | [], _ => rfl
  | c :: r, h => by
    have hc := h.head
    have e : (Char.ofNat c).toNat = c := by
      have : ∀ c : Nat, c < 58 → (Char.ofNat c).toNat = c := by decide
      exact this c (by omega)
    rw [List.map_cons, List.map_cons, e, map_back h.tail]
theorem nT_val {l : List Nat} (h : AllDigits l) (c : Can l) : nT (val l) = l := by
  have e : Nat.toDigits 10 (val l) = l.map Char.ofNat := by
    rcases c with rfl | ⟨c, r, rfl, hc⟩
    · decide
    · exact toDigits_digitsVal r.length (c :: r) rfl h (.inr ⟨c, r, rfl, hc⟩)
  unfold nT
  rw [e, map_back h]
theorem can_nT (m : Nat) : Can (nT m) := by
  have h := ad_nT m
  have e := toDigits_all (nT m) h
  have v : digitsVal (nT m) = m := val_nT m
  rw [v] at e
  have e2 : nT m = (match (nT m).dropWhile (· == 48) with
    | [] => ['0']
    | c :: r => (c :: r).map Char.ofNat).map Char.toNat := by
    conv => lhs; unfold nT
    rw [e]
    rfl
  cases q : (nT m).dropWhile (· == 48) with
  | nil =>
    rw [q] at e2
    exact .inl e2
  | cons c r =>
    rw [q] at e2
    have sub : ∀ d ∈ c :: r, 48 ≤ d ∧ d ≤ 57 := fun d hd => h d ((List.dropWhile_suffix _).mem (by rw [q]; exact hd))
    have eb := map_back (l := c :: r) sub
    have e3 : nT m = c :: r := e2.trans eb
    have hne : c ≠ 48 := by
      intro z
      have := List.head_dropWhile_not (p := (· == 48)) (l := nT m) (by rw [q]; exact List.cons_ne_nil _ _)
      simp only [q, List.head_cons, z] at this
      exact absurd this (by decide)
    exact .inr ⟨c, r, e3, by have := (sub c List.mem_cons_self).1; omega⟩
theorem nT_ne (m : Nat) : nT m ≠ [] := by
  rcases can_nT m with e | ⟨c, r, e, _⟩ <;> rw [e] <;> exact List.cons_ne_nil _ _
theorem no47 {l : List Nat} (h : AllDigits l) : 47 ∉ l := fun z => by have := h 47 z; omega
theorem no45 {l : List Nat} (h : AllDigits l) : 45 ∉ l := fun z => by have := h 45 z; omega
theorem iT47 (i : Int) : 47 ∉ iT i := by
  unfold iT
  split
  · intro z
    rcases List.mem_cons.mp z with e | e
    · omega
    · exact no47 (ad_nT _) e
  · exact no47 (ad_nT _)
theorem nT_inj {a b : Nat} (h : nT a = nT b) : a = b := by rw [← val_nT a, ← val_nT b, h]
theorem split_uniq : ∀ {a b c d : List Nat}, 47 ∉ a → 47 ∉ c → a ++ 47 :: b = c ++ 47 :: d → a = c ∧ b = d
  | [], b, [], d, _, _, e => by injection e with _ e; exact ⟨rfl, e⟩
  | [], b, x :: c, d, _, h, e => by injection e with e1 _; exact absurd (by rw [e1]; exact List.mem_cons_self) h
  | x :: a, b, [], d, h, _, e => by injection e with e1 _; exact absurd (by rw [e1]; exact List.mem_cons_self) h
  | x :: a, b, y :: c, d, h1, h2, e => by
    injection e with e1 e2
    obtain ⟨f1, f2⟩ := split_uniq (fun z => h1 (List.mem_cons_of_mem _ z)) (fun z => h2 (List.mem_cons_of_mem _ z)) e2
    exact ⟨by rw [e1, f1], f2⟩
/-- the number's text: T / B in lowest terms -/
def numT (T : Int) (B : Nat) : List Nat := if B = 1 then iT T else iT T ++ 47 :: nT B
/-- with the sign -/
def sg (neg : Bool) (m : Nat) : Int := if neg then -(m : Int) else m
def sgT (neg : Bool) (l : List Nat) : List Nat := if neg then 45 :: l else l
theorem iT_sg {neg : Bool} {m : Nat} (h : neg = true → m ≠ 0) : iT (sg neg m) = sgT neg (nT m) := by
  cases neg with
  | false => unfold iT sg sgT; simp
  | true =>
    have := h rfl
    unfold iT sg sgT
    rw [if_pos rfl, if_pos (by omega), if_pos rfl]
    simp
theorem iT_0 : iT 0 = [48] := by decide
/-- one part: by writing again -/
theorem one_part {neg : Bool} {l : List Nat} (h : AllDigits l) (hne : l ≠ []) : iT (sg neg (val l)) = sgT neg l ↔ Can l ∧ ¬ (neg = true ∧ val l = 0) := by
  by_cases z : neg = true ∧ val l = 0
  · obtain ⟨rfl, z0⟩ := z
    rw [z0]
    constructor
    · intro e
      have e' : iT 0 = 45 :: l := by simpa [sg, sgT] using e
      rw [iT_0] at e'
      injection e' with e1 _
      omega
    · intro ⟨_, q⟩; exact absurd ⟨rfl, rfl⟩ q
  · rw [iT_sg (fun e q => z ⟨e, q⟩)]
    constructor
    · intro e
      refine ⟨?_, z⟩
      have : nT (val l) = l := by
        cases neg with
        | false => simpa [sgT] using e
        | true => simpa [sgT] using e
      rw [← this]; exact can_nT _
    · intro ⟨c, _⟩; rw [nT_val h c]
theorem val_pos_of {l : List Nat} (h : val l ≠ 0) : 0 < val l := Nat.pos_of_ne_zero h
/-- two parts: by writing again -/
theorem two_parts {neg : Bool} {p q : List Nat} (hp : AllDigits p) (hq : AllDigits q) (h0 : val q ≠ 0) :
    numT (sg neg (val p / Nat.gcd (val p) (val q))) (val q / Nat.gcd (val p) (val q)) = sgT neg (p ++ 47 :: q) ↔ Can p ∧ Can q ∧ val q ≠ 1 ∧ Nat.gcd (val p) (val q) = 1 ∧ val p ≠ 0 := by
  have gpos : 0 < Nat.gcd (val p) (val q) := Nat.pos_of_ne_zero fun z => h0 (Nat.eq_zero_of_gcd_eq_zero_right z)
  have sp : sgT neg (p ++ 47 :: q) = sgT neg p ++ 47 :: q := by cases neg <;> rfl
  have n47 : 47 ∉ sgT neg p := by
    cases neg with
    | false => exact no47 hp
    | true =>
      intro z
      rcases List.mem_cons.mp z with e | e
      · omega
      · exact no47 hp e
  constructor
  · intro e
    unfold numT at e
    split at e
    · exfalso
      have : 47 ∈ iT (sg neg (val p / Nat.gcd (val p) (val q))) := by rw [e, sp]; simp
      exact iT47 _ this
    · rename_i hB
      rw [sp] at e
      obtain ⟨e1, e2⟩ := split_uniq (iT47 _) n47 e
      have eq2 : val q / Nat.gcd (val p) (val q) = val q := by rw [← val_nT (val q / _), e2]
      have g1 : Nat.gcd (val p) (val q) = 1 := by
        have := Nat.div_mul_cancel (Nat.gcd_dvd_right (val p) (val q))
        rw [eq2] at this
        have h1 : val q * Nat.gcd (val p) (val q) = val q * 1 := by omega
        exact Nat.eq_of_mul_eq_mul_left (val_pos_of h0) h1
      rw [g1, Nat.div_one] at e1 e2 hB
      have hne : p ≠ [] := by
        intro z
        subst z
        have : iT (sg neg (val [])) = sgT neg [] := e1
        have v0 : val [] = 0 := rfl
        rw [v0] at this
        have s0 : sg neg 0 = 0 := by cases neg <;> rfl
        rw [s0, iT_0] at this
        cases neg <;> simp [sgT] at this
      obtain ⟨c1, c2⟩ := (one_part hp hne).mp e1
      refine ⟨c1, by rw [← e2]; exact can_nT _, hB, g1, fun z => ?_⟩
      rw [z, Nat.gcd_zero_left] at g1
      exact hB g1
  · intro ⟨c1, c2, b1, g1, n0⟩
    rw [g1, Nat.div_one, Nat.div_one]
    unfold numT
    rw [if_neg b1, sp, iT_sg (fun _ => n0), nT_val hp c1, nT_val hq c2]
end Nm

set_option Elab.async false
set_option linter.all false
set_option maxRecDepth 100000
set_option maxHeartbeats 4000000
/-! Tx: the text methods on lists of signs. -/
namespace Tx
open PySem PySem.Spec PyProof.Rows L2 TL
def S (l : List Nat) : Str := ⟨l.toArray⟩
theorem tl_S (l : List Nat) : tl (S l) = l := rfl
theorem S_tl (x : Str) : S (tl x) = x := mk_tl x
theorem len_S (l : List Nat) : (S l).length = l.length := by rw [len_tl, tl_S]
theorem S_inj {a b : List Nat} (h : S a = S b) : a = b := by rw [← tl_S a, h, tl_S]
theorem S_app (a b : List Nat) : S a ++ S b = S (a ++ b) := ext_tl (by rw [tl_append]; rfl)
theorem S_of (x : Str) (l : List Nat) (h : tl x = l) : x = S l := by rw [← h, S_tl]
theorem sub_minus (c : Nat) (r : List Nat) : Builtin.Str.subAt (S (c :: r)) "-" 0 = decide (c = 45) := by
  have e : (S (c :: r)).cps.extract 0 1 = #[c] := by
    simp [S]
  unfold Builtin.Str.subAt
  have hl : (("-" : Str)).length = 1 := by decide
  rw [hl, Nat.zero_add, e]
  have e2 : ("-" : Str).cps = #[45] := by decide
  rw [e2]
  by_cases q : c = 45
  · subst q; decide
  · rw [decide_eq_false q]
    simp [q]
theorem starts_minus (l : List Nat) : Txt.startswith (S l) "-" = decide (l.head? = some 45) := by
  cases l with
  | nil => decide
  | cons c r =>
    unfold Txt.startswith
    rw [sub_minus, decide_eq_true (show 0 + ("-" : Str).length ≤ (S (c :: r)).length by rw [len_S, List.length_cons, show ("-" : Str).length = 1 from by decide]; omega)]
    simp
theorem unprefix_minus (l : List Nat) : Txt.removeprefix (S l) "-" = if l.head? = some 45 then S l.tail else S l := by
  rw [StrLaws.removeprefix_eq]
  have hl : (("-" : Str)).length = 1 := by decide
  cases l with
  | nil => decide
  | cons c r =>
    rw [sub_minus, decide_eq_true (show 0 + ("-" : Str).length ≤ (S (c :: r)).length by rw [len_S, List.length_cons, hl]; omega), Bool.true_and]
    by_cases q : c = 45
    · subst q
      rw [if_pos (by simp), if_pos (by simp), hl, len_S]
      show S _ = S _
      congr 1
      simp [S]
    · rw [if_neg (by simpa using q), if_neg (by simpa using q)]
theorem cut_head (l : List Nat) : cutS (S l) none (some 1) = S (l.take 1) := by
  unfold cutS
  show S _ = S _
  congr 1
  rw [HT.sIx_none, show (1 : Int) = ((1 : Nat) : Int) from rfl, HT.sIx_nat, len_S, Nat.sub_zero]
  show (l.drop 0).take (min 1 l.length) = _
  rw [List.drop_zero]
  cases l <;> simp
theorem cut_tail (l : List Nat) : cutS (S l) (some 1) none = S (l.drop 1) := by
  unfold cutS
  show S _ = S _
  congr 1
  rw [HT.sIx_none, show (1 : Int) = ((1 : Nat) : Int) from rfl, HT.sIx_nat, len_S]
  show (l.drop (min 1 l.length)).take (l.length - min 1 l.length) = _
  cases l with
  | nil => rfl
  | cons c r => simp
/-- any cut -/
theorem cut_len (x : Str) (lo hi : Option Int) : (cutS x lo hi).length ≤ x.length := cutS_length x lo hi
theorem slash_tl : tl ("/" : Str) = [47] := by decide
theorem part_no {l : List Nat} (h : 47 ∉ l) : Txt.partition (S l) "/" = (S l, Str.empty, Str.empty) := partition_none slash_tl (by rw [tl_S]; exact h)
theorem part_yes {p q : List Nat} (h : 47 ∉ p) : Txt.partition (S (p ++ 47 :: q)) "/" = (S p, ("/" : Str), S q) := by
  have := partition_app (y := "/") slash_tl (a := S p) (b := S q) (by rw [tl_S]; exact h)
  have e : S p ++ ("/" : Str) ++ S q = S (p ++ 47 :: q) := ext_tl (by rw [tl_append, tl_append, slash_tl, tl_S, tl_S, tl_S]; simp)
  rw [← e]; exact this
theorem split_eq (l : List Nat) : (Txt.split (S l) "/").map tl = spl [47] 0 [] l := by
  rw [split_spl _ "/" (by rw [slash_tl]; simp) (kind_ok (by decide +kernel)), slash_tl, tl_S]
theorem split_no {l : List Nat} (h : 47 ∉ l) : Txt.split (S l) "/" = [S l] := by
  refine map_tl_inj ?_
  rw [split_eq, spl_last1 h]
  rfl
theorem spl_two {p q : List Nat} (h : 47 ∉ p) : spl [47] 0 [] (p ++ 47 :: q) = p :: spl [47] 0 [] q := by
  have := spl_part1 (s := 47) (S := []) (acc := []) (p := p) (rest := q) h
  simpa using this
theorem split_two {p q : List Nat} (h : 47 ∉ p) (h2 : 47 ∉ q) : Txt.split (S (p ++ 47 :: q)) "/" = [S p, S q] := by
  refine map_tl_inj ?_
  rw [split_eq, spl_two h, spl_last1 h2]
  rfl
theorem spl_ge1 (l : List Nat) : ∀ (acc : List Nat), 1 ≤ (spl [47] 0 acc l).length := by
  induction l with
  | nil => intro acc; rw [spl_nil]; simp
  | cons c r ih =>
    intro acc
    by_cases hc : pre [47] (c :: r) = true
    · rw [spl_hit hc]; simp
    · rw [spl_miss (by simpa using hc)]; exact ih _
theorem first47 : ∀ {l : List Nat}, 47 ∈ l → ∃ p q, l = p ++ 47 :: q ∧ 47 ∉ p
  | [], h => by cases h
  | c :: r, h => by
    by_cases e : c = 47
    · exact ⟨[], r, by rw [e]; rfl, by simp⟩
    · rcases List.mem_cons.mp h with z | z
      · exact absurd z.symm e
      · obtain ⟨p, q, h1, h2⟩ := first47 z
        exact ⟨c :: p, q, by rw [h1]; rfl, fun m => (List.mem_cons.mp m).elim (fun z => e z.symm) h2⟩
theorem split_many {p q : List Nat} (h : 47 ∉ p) (h2 : 47 ∈ q) : 2 < (Txt.split (S (p ++ 47 :: q)) "/").length := by
  obtain ⟨a, b, rfl, ha⟩ := first47 h2
  have e := congrArg List.length (split_eq (p ++ 47 :: (a ++ 47 :: b)))
  rw [List.length_map, spl_two h, spl_two ha] at e
  have := spl_ge1 b []
  rw [e]; simp; omega
end Tx

set_option Elab.async false
set_option linter.all false
set_option maxRecDepth 100000
set_option maxHeartbeats 4000000
/-! Fd20: str of an own object; a text that the module names. -/
namespace Fd
open PySem PySem.Spec PyProof.Rows L2
section
variable {T : List (Addr × Str)} {X : Cx} {ss : SS} {e a b : Expr} {p pos : Pos} {C f : Addr} {k : Nat} {pre : List D → D → Prop} {ns : List Str} {xs : List D} {x y z : Str}
theorem units2 {A : Around} (hr : Room (k + 2) A) : A.in1.in1.units < cLine := (hr.in1).in1.units0
theorem ev_strO (M : OwnM T X.prog X.w X.K X.mg X.base C "__str__" 1 k pre f) (hr : Room (k + 2) X.A) (he : EV T X e ss (.ins C ns xs)) (hp : pre [.ins C ns xs] (.str z)) (hm : X.mg "str" = none) (hg : Gl X "str" := by rfl) (hs : starEach [e] X.env = [(false, eval e X.env)] := by rfl) :
    EV T X (.Call (.Name "str" p) [e] [] pos) ss (.str z) := by
  have hc : CallR X (.type "str") (fun vs H Q => ∃ F v, Ext F H ∧ (∀ p ps, F p ≠ some (.tbl ps)) ∧ LamX.Tabs T H ∧ vs = [v] ∧ Is X.K F (.ins C ns xs) v ∧ ∀ v F1 H1, Nx T F H F1 H1 → Is X.K F1 (.str z) v → Q v H1) := by
    intro pins s σ H vs us Q I rv ⟨F, v, e, nt, tb, ev, i, q⟩
    subst ev
    obtain ⟨u, rfl, ru⟩ := vals1 rv
    obtain ⟨y, dx, fs, rfl, e1, _⟩ := id i
    cases ru
    obtain ⟨mA, J, _⟩ := ins_get I.hok (e _ _ e1)
    obtain ⟨od, J, _⟩ := J.look
    refine PySem.W.kso_call (units2 hr) I.kIn J M.at_ M.fn (wpAny_mono (OwnM.run (X := Cx.in1 (Cx.in1 X)) (P := X.prog) (w := X.w) (K := X.K) (mg := X.mg) (base := X.base) (vs := [.ref y]) (Q := fun v H1 => v = .str z ∧ Q v H1) M hr.in1.in1 (Inv.in1 (Inv.in1 I)) (.cons rfl .nil) e nt tb (.cons i .nil) rfl hp fun v F1 H1 n1 iv => ⟨iv, q v F1 H1 n1 iv⟩) (fun v s' h => ?_) fun _ _ w => w)
    obtain ⟨v', H', I', rv', ev', q'⟩ := h
    subst ev'
    obtain ⟨t, rfl⟩ := (show ∃ t, v = Value.str z t from rv')
    exact ⟨.str z, H', Inv.out1 (Inv.out1 I'), ⟨t, rfl⟩, q'⟩
  exact ev_bty hc (evs_cons he evs_nil hs) hm (by decide +kernel) (fun B F H σ vs Q R i1 q => by
    obtain ⟨v, rfl, h⟩ := isL1 i1
    exact ⟨F, v, R.sub, R.nt, R.tb, rfl, h, fun v F1 H1 n1 i2 => q v F1 H1 n1 (R.grow n1) i2⟩) hg (he := hs)
/-- a text that the module names -/
theorem ev_glS {t : Tok} {n : Str} (hm : X.mg n = some (.str x t)) (hg : Gl X n := by rfl) (hd : (n == ("__debug__" : Str)) = false := by decide) : EV T X (.Name n pos) ss (.str x) :=
  EV.of (pe_glob hg hm (r := ⟨t, rfl⟩) (v := .str x) hd) fun B F H σ Q R q => q _ F H R.nx R rfl
theorem eqv_str (x y : Str) : PyData.eqv (.str x) (.str y) = decide (x = y) := by
  by_cases h : x = y <;> simp [PyData.eqv, h]
theorem ev_neS (ha : EV T X a ss (.str x)) (hb : EV T X b ss (.str y)) (h1 : behindInMarks .NotEq b = false := by first | exact nobehind _ (by decide) (by decide) | rfl) : EV T X (.Compare a [.NotEq] [b] pos) ss (.bl (!decide (x = y))) :=
  ev_cmp op_ne ha hb (fun B F H σ v u Q R i1 i2 q => by
    cases i1; cases i2
    exact ⟨rfl, q _ F H R.nx R (by show V.bl _ = V.bl _; rw [dec_str, Bool.beq_eq_decide_eq])⟩) h1
theorem tv_neS (ha : EV T X a ss (.str x)) (hb : EV T X b ss (.str y)) (h1 : behindInMarks .NotEq b = false := by first | exact nobehind _ (by decide) (by decide) | rfl) : TV T X (.Compare a [.NotEq] [b] pos) ss (!decide (x = y)) :=
  tv_cmp op_ne ha hb (fun B F H σ v u Q R i1 i2 q => by
    cases i1; cases i2
    refine ⟨rfl, ?_⟩
    rw [dec_str]
    rw [Bool.beq_eq_decide_eq] at *
    exact q F H R.nx R) h1
theorem tv_eqS (ha : EV T X a ss (.str x)) (hb : EV T X b ss (.str y)) (h1 : behindInMarks .Eq b = false := by first | exact nobehind _ (by decide) (by decide) | rfl) : TV T X (.Compare a [.Eq] [b] pos) ss (decide (x = y)) :=
  tv_cmp op_eq ha hb (fun B F H σ v u Q R i1 i2 q => by
    cases i1; cases i2
    refine ⟨rfl, ?_⟩
    rw [dec_str]
    exact q F H R.nx R) h1
end
end Fd

set_option Elab.async false
set_option linter.all false
set_option maxRecDepth 100000
set_option maxHeartbeats 4000000
/-! Rd: the program's reading of a number's text and the law's: the same. -/
namespace Nm
open PySem.NumText
def ng (l : List Nat) : Bool := decide (l.head? = some 45)
def bl (l : List Nat) : List Nat := if l.head? = some 45 then l.tail else l
theorem sg_bl (l : List Nat) : sgT (ng l) (bl l) = l := by
  unfold ng bl sgT
  by_cases h : l.head? = some 45
  · rw [if_pos h, if_pos (decide_eq_true h)]
    cases l with
    | nil => simp at h
    | cons c r => simp at h; subst h; rfl
  · rw [if_neg h, if_neg (by rw [decide_eq_false h]; decide)]
def digL (l : List Nat) : Bool := !l.isEmpty && l.all fun c => decide (48 ≤ c ∧ c ≤ 57)
theorem digL_iff {l : List Nat} : digL l = true ↔ l ≠ [] ∧ AllDigits l := by
  unfold digL AllDigits
  rw [Bool.and_eq_true, List.all_eq_true]
  constructor
  · intro ⟨h1, h2⟩
    exact ⟨by rintro rfl; simp at h1, fun c hc => of_decide_eq_true (h2 c hc)⟩
  · intro ⟨h1, h2⟩
    exact ⟨by cases l with | nil => exact absurd rfl h1 | cons _ _ => rfl, fun c hc => decide_eq_true (h2 c hc)⟩
def canB (l : List Nat) : Bool := digL l && (decide (l = [48]) || decide (l.head? ≠ some 48))
theorem canB_iff {l : List Nat} : canB l = true ↔ l ≠ [] ∧ AllDigits l ∧ Can l := by
  unfold canB
  rw [Bool.and_eq_true, Bool.or_eq_true, digL_iff, decide_eq_true_iff, decide_eq_true_iff]
  constructor
  · intro ⟨⟨h1, h2⟩, h3⟩
    refine ⟨h1, h2, ?_⟩
    rcases h3 with h3 | h3
    · exact .inl h3
    · cases l with
      | nil => exact absurd rfl h1
      | cons c r =>
        have := h2.head
        have : c ≠ 48 := fun z => h3 (by rw [z]; rfl)
        exact .inr ⟨c, r, rfl, by omega⟩
  · intro ⟨h1, h2, h3⟩
    refine ⟨⟨h1, h2⟩, ?_⟩
    rcases h3 with h3 | ⟨c, r, rfl, hc⟩
    · exact .inl h3
    · exact .inr (by simp; omega)
def cutp (b : List Nat) : List Nat × List Nat := if 47 ∈ b then (b.takeWhile (· != 47), (b.dropWhile (· != 47)).tail) else (b, [49])
theorem cutp_no {b : List Nat} (h : 47 ∉ b) : cutp b = (b, [49]) := if_neg h
theorem tw {p q : List Nat} (h : 47 ∉ p) : (p ++ 47 :: q).takeWhile (· != 47) = p ∧ (p ++ 47 :: q).dropWhile (· != 47) = 47 :: q := by
  induction p with
  | nil => exact ⟨by simp, by simp⟩
  | cons c r ih =>
    have hc : (c != 47) = true := by
      rw [bne_iff_ne]; rintro rfl; exact h List.mem_cons_self
    obtain ⟨i1, i2⟩ := ih fun z => h (List.mem_cons_of_mem _ z)
    exact ⟨by rw [List.cons_append, List.takeWhile_cons, hc]; simp [i1], by rw [List.cons_append, List.dropWhile_cons, hc]; simp [i2]⟩
theorem cutp_yes {p q : List Nat} (h : 47 ∉ p) : cutp (p ++ 47 :: q) = (p, q) := by
  unfold cutp
  rw [if_pos (by simp), (tw h).1, (tw h).2]; rfl
def told (neg : Bool) (p q : List Nat) : Option (Int × Nat) := if (digL p && digL q && decide (val q ≠ 0)) = true then some (sg neg (val p / Nat.gcd (val p) (val q)), val q / Nat.gcd (val p) (val q)) else none
def tol (l : List Nat) : Option (Int × Nat) := told (ng l) (cutp (bl l)).1 (cutp (bl l)).2
def prog (l : List Nat) : Option (Int × Nat) := match tol l with
  | some (T, B) => if numT T B = l then some (T, B) else none
  | none => none
def lawOne (neg : Bool) (b : List Nat) : Option (Int × Nat) := if canB b = true then (if (neg && decide (val b = 0)) = true then none else some (sg neg (val b), 1)) else none
def lawTwo (neg : Bool) (p q : List Nat) : Option (Int × Nat) := if (canB p && canB q) = true then (if val q = 0 ∨ val q = 1 ∨ 1 < Nat.gcd (val p) (val q) ∨ val p = 0 then none else some (sg neg (val p), val q)) else none
def lawR (l : List Nat) : Option (Int × Nat) := if 47 ∈ bl l then (if 47 ∈ (cutp (bl l)).2 then none else lawTwo (ng l) (cutp (bl l)).1 (cutp (bl l)).2) else lawOne (ng l) (bl l)
theorem first {l : List Nat} (h : 47 ∈ l) : ∃ p q, l = p ++ 47 :: q ∧ 47 ∉ p := by
  induction l with
  | nil => cases h
  | cons c r ih =>
    by_cases e : c = 47
    · exact ⟨[], r, by rw [e]; rfl, by simp⟩
    · rcases List.mem_cons.mp h with z | z
      · exact absurd z.symm e
      · obtain ⟨p, q, h1, h2⟩ := ih z
        exact ⟨c :: p, q, by rw [h1]; rfl, fun m => (List.mem_cons.mp m).elim (fun z => e z.symm) h2⟩
theorem agree (l : List Nat) : prog l = lawR l := by
  have el := sg_bl l
  unfold prog tol lawR
  generalize ng l = neg at *
  generalize bl l = b at *
  by_cases h : 47 ∈ b
  · obtain ⟨p, q, rfl, hp⟩ := first h
    rw [if_pos h, cutp_yes hp]
    dsimp only
    by_cases hq : 47 ∈ q
    · have dq : digL q = false := by
        cases e : digL q with
        | false => rfl
        | true => exact absurd hq (no47 (digL_iff.mp e).2)
      rw [if_pos hq, told, dq]
      simp
    · rw [if_neg hq]
      by_cases hd : (digL p && digL q && decide (val q ≠ 0)) = true
      · have hd' := hd
        rw [Bool.and_eq_true, Bool.and_eq_true, digL_iff, digL_iff, decide_eq_true_iff] at hd
        obtain ⟨⟨⟨np, ap⟩, ⟨nq, aq⟩⟩, v0⟩ := hd
        have key := two_parts (neg := neg) ap aq v0
        rw [told, if_pos hd']
        dsimp only
        rw [← el]
        unfold lawTwo
        by_cases acc : Can p ∧ Can q ∧ val q ≠ 1 ∧ Nat.gcd (val p) (val q) = 1 ∧ val p ≠ 0
        · rw [if_pos (key.mpr acc)]
          obtain ⟨c1, c2, b1, g1, n0⟩ := acc
          rw [if_pos (by rw [Bool.and_eq_true]; exact ⟨canB_iff.mpr ⟨np, ap, c1⟩, canB_iff.mpr ⟨nq, aq, c2⟩⟩), if_neg (by omega), g1, Nat.div_one, Nat.div_one]
        · rw [if_neg fun z => acc (key.mp z)]
          split
          · rename_i hc
            rw [Bool.and_eq_true, canB_iff, canB_iff] at hc
            rw [if_pos]
            by_cases z1 : val q = 1
            · exact .inr (.inl z1)
            · by_cases z2 : val p = 0
              · exact .inr (.inr (.inr z2))
              · refine .inr (.inr (.inl ?_))
                have gpos : 0 < Nat.gcd (val p) (val q) := Nat.pos_of_ne_zero fun z => v0 (Nat.eq_zero_of_gcd_eq_zero_right z)
                have : Nat.gcd (val p) (val q) ≠ 1 := fun z3 => acc ⟨hc.1.2.2, hc.2.2.2, z1, z3, z2⟩
                omega
          · rfl
      · rw [told, if_neg hd]
        dsimp only
        unfold lawTwo
        split
        · rename_i hc
          rw [Bool.and_eq_true, canB_iff, canB_iff] at hc
          rw [if_pos]
          refine .inl ?_
          apply Classical.byContradiction
          intro v0
          exact hd (by rw [Bool.and_eq_true, Bool.and_eq_true, digL_iff, digL_iff, decide_eq_true_iff]; exact ⟨⟨⟨hc.1.1, hc.1.2.1⟩, ⟨hc.2.1, hc.2.2.1⟩⟩, v0⟩)
        · rfl
  · rw [if_neg h, cutp_no h]
    dsimp only
    have v1 : val [49] = 1 := rfl
    have d1 : digL [49] = true := by decide
    unfold lawOne told
    rw [v1, d1]
    by_cases hd : digL b = true
    · have hd' := digL_iff.mp hd
      have key := one_part (neg := neg) hd'.2 hd'.1
      rw [if_pos (by rw [hd]; rfl)]
      dsimp only
      rw [Nat.gcd_one_right, Nat.div_one, Nat.div_one]
      have en : numT (sg neg (val b)) 1 = iT (sg neg (val b)) := if_pos rfl
      rw [en, ← el]
      by_cases acc : Can b ∧ ¬ (neg = true ∧ val b = 0)
      · rw [if_pos (key.mpr acc), if_pos (canB_iff.mpr ⟨hd'.1, hd'.2, acc.1⟩), if_neg (by rw [Bool.and_eq_true, decide_eq_true_iff]; exact acc.2)]
      · rw [if_neg fun z => acc (key.mp z)]
        split
        · rename_i hc
          rw [if_pos]
          rw [Bool.and_eq_true, decide_eq_true_iff]
          apply Classical.byContradiction
          intro z
          exact acc ⟨(canB_iff.mp hc).2.2, z⟩
        · rfl
    · rw [if_neg (by rw [Bool.and_eq_true, Bool.and_eq_true]; exact fun z => hd z.1.1)]
      dsimp only
      rw [if_neg fun z => hd (digL_iff.mpr ⟨(canB_iff.mp z).1, (canB_iff.mp z).2.1⟩)]
theorem foldl_lt : ∀ (l : List Nat) (a : Nat), AllDigits l → l.foldl (fun acc c => acc * 10 + (c - 48)) a < (a + 1) * 10 ^ l.length
  | [], a, _ => by simp
  | c :: r, a, h => by
    have hc := h.head
    have := foldl_lt r (a * 10 + (c - 48)) h.tail
    show r.foldl _ (a * 10 + (c - 48)) < _
    refine Nat.lt_of_lt_of_le this ?_
    rw [List.length_cons, Nat.pow_succ, Nat.mul_comm (10 ^ r.length) 10, ← Nat.mul_assoc]
    exact Nat.mul_le_mul_right _ (by omega)
theorem val_lt {l : List Nat} (h : AllDigits l) : val l < 10 ^ l.length := by
  have := foldl_lt l 0 h
  rw [Nat.zero_add, Nat.one_mul] at this
  exact this
end Nm

set_option Elab.async false
set_option linter.all false
set_option maxRecDepth 100000
set_option maxHeartbeats 4000000
/-! K03a: the Ratio's own defs, the numbers' helpers. -/
namespace K03
open PySem PySem.Spec PyProof.Rows L2 Fd
def pT : Pos := ⟨0, 0, 0, 0⟩
def top (i : Nat) : Stmt := PySem.Challenge.pw_everylist_k03_texts_of_numbers.main.body.getD i (.Pass pT)
def inCls (st : Stmt) (j : Nat) : Stmt := match st with
  | .ClassDef _ _ _ body _ _ _ _ _ _ _ => body.getD j (.Pass pT)
  | s => s
def sIsInt : Stmt := top 4
def sInit : Stmt := inCls (top 10) 0
def sPlain : Stmt := top 14
def sNeg : Stmt := inCls (top 10) 7
def sStr : Stmt := inCls (top 10) 10
def sDig : Stmt := top 5
def sRead : Stmt := top 15
def sTold : Stmt := top 16
/-- the divisor that __init__ divides by -/
def dv (t b : Int) : Int := if b < 0 then -((Nat.gcd t.natAbs b.natAbs : Nat) : Int) else ((Nat.gcd t.natAbs b.natAbs : Nat) : Int)
def rF (t b : Int) : List D := [.int (t.fdiv (dv t b)), .int (b.fdiv (dv t b))]
def rN : List Str := ["top", "bottom"]
def pInit (ds : List D) (ns : List Str) (xs : List D) : Prop := ∃ t b : Int, ds = [.int t, .int b] ∧ b ≠ 0 ∧ b.natAbs.log2 < 9000 ∧ ns = rN ∧ xs = rF t b
theorem scInit : FnScope ["self", "top", "bottom", "divisor"] ["self", "top", "bottom"] (defScope sInit) := ⟨rfl, rfl, rfl, by decide +kernel, rfl, by decide +kernel, by decide +kernel⟩
theorem dv_ok {t b : Int} (hb : b ≠ 0) (hl : b.natAbs.log2 < 9000) : dv t b ≠ 0 ∧ (dv t b).natAbs.log2 < 9000 := by
  have g0 : Nat.gcd t.natAbs b.natAbs ≠ 0 := fun z => hb (by have := Nat.eq_zero_of_gcd_eq_zero_right z; omega)
  have gl : Nat.gcd t.natAbs b.natAbs ≤ b.natAbs := Nat.le_of_dvd (by omega) (Nat.gcd_dvd_right _ _)
  have e : (dv t b).natAbs = Nat.gcd t.natAbs b.natAbs := by unfold dv; split <;> omega
  refine ⟨fun z => g0 (by rw [← e, z]; rfl), ?_⟩
  rw [e]
  refine Nat.lt_of_le_of_lt ?_ hl
  rw [Nat.le_log2 (by omega)]
  exact Nat.le_trans ((Nat.le_log2 g0).mp (Nat.le_refl _)) gl
section
variable {T : List (Addr × Str)} {P : Program} {w : World} {K : PySem.W.Frag} {mg : Str → Option Value} {base : Heap} {C f : Addr} {fd : FuncData}
theorem ok_init {cdv : Value} (F : FunZ K "__init__" "Ratio.__init__" sInit f fd cdv) (cl : Cls K C) (nt : NoAttr K C "top") (nb : NoAttr K C "bottom") (hg : mg "gcd" = some (.builtin "math.gcd")) : FnOk P w K mg base CX0 1 f fd ["self", "top", "bottom"] (spM T K C 2 pInit) := by
  refine init_ok F scInit rfl fun A outer s H E p ds ns xs hr _ ⟨t, b, e1, hb, hl, e2, e3⟩ => ?_
  subst e1; subst e2; subst e3
  obtain ⟨h1, h2⟩ := dv_ok (t := t) hb hl
  refine svs_cons (sv_if (TV.cast (tv_eqI (ev_var 2 rfl) ev_int) (decide_eq_false hb)) (fun z => nomatch z) (fun _ => svs_nil ?_))
  refine svs_cons (sv_set 3 (ev_gcd (ev_var 1 rfl) (ev_var 2 rfl) hg) ?_ scInit.nd)
  refine svs_cons (sv_if (tv_lt (ev_var 2 rfl) ev_int) (fun z => ?_) (fun z => ?_))
  · have hneg : b < 0 := by simpa using z
    have ed : dv t b = -((Nat.gcd t.natAbs b.natAbs : Nat) : Int) := if_pos hneg
    refine svs_one (sv_set 3 (d := .int (dv t b)) (EV.cast (ev_neg (ev_var 3 rfl)) (by rw [ed])) ?_ scInit.nd)
    refine svs_cons (sv_fldO 0 rfl (ev_fdivX ⟨h1, h2⟩ (ev_var 1 rfl) (ev_var 3 rfl)) ?_ cl nt (by decide) (by decide))
    exact svs_one (sv_fldO 0 rfl (ev_fdivX ⟨h1, h2⟩ (ev_var 2 rfl) (ev_var 3 rfl)) rfl cl nb (by decide) (by decide))
  · have hpos : ¬ b < 0 := by simpa using z
    have ed : dv t b = ((Nat.gcd t.natAbs b.natAbs : Nat) : Int) := if_neg hpos
    refine svs_nil ?_
    rw [← ed]
    refine svs_cons (sv_fldO 0 rfl (ev_fdivX ⟨h1, h2⟩ (ev_var 1 rfl) (ev_var 3 rfl)) ?_ cl nt (by decide) (by decide))
    exact svs_one (sv_fldO 0 rfl (ev_fdivX ⟨h1, h2⟩ (ev_var 2 rfl) (ev_var 3 rfl)) rfl cl nb (by decide) (by decide))
end
end K03

set_option Elab.async false
set_option linter.all false
set_option maxRecDepth 100000
set_option maxHeartbeats 4000000
/-! K03b: what the top has made of Ratio; plain, -x, str. -/
namespace K03
open PySem PySem.Spec PyProof.Rows L2 Fd
structure Rt (K : PySem.W.Frag) (mg : Str → Option Value) (C : Addr) : Prop where
  mgR : mg "Ratio" = some (.ref C)
  ik : InK K C
  nt : NoAttr K C "top"
  nb : NoAttr K C "bottom"
  kI : PySem.W.kitOne K (.ref C) (.type "int") = some false
  kB : PySem.W.kitOne K (.ref C) (.type "bool") = some false
  kO : PySem.W.kitOne K (.type "int") (.ref C) = some false
  kR : PySem.W.kitOne K (.ref C) (.ref C) = some true
  bIs : mg "isinstance" = none
  bInt : mg "int" = none
  bBool : mg "bool" = none
  bStr : mg "str" = none
  bAll : mg "all" = none
def rat (C : Addr) (t b : Int) : D := .ins C rN [.int t, .int b]
def Nu (C : Addr) (x : D) (t b : Int) : Prop := (x = .int t ∧ b = 1) ∨ x = rat C t b
def plainD (C : Addr) (x : D) (t b : Int) : D := if b = 1 then .int t else x
def pPlain (C : Addr) (ds : List D) (d : D) : Prop := ∃ x t b, ds = [x] ∧ Nu C x t b ∧ d = plainD C x t b
def Sm (t : Int) : Prop := t.natAbs < 2 ^ 400
theorem sm_mul {a b : Int} (ha : Sm a) (hb : Sm b) : CMulW a b := wide_mul ha hb (by decide) (by decide) (by decide)
theorem sm_log1 {a : Int} (ha : Sm a) : a.natAbs.log2 < 1920 := Nat.lt_of_lt_of_le (PySem.Flt.log2_lt_of (by decide) ha) (by decide)
def pNeg (C : Addr) (ds : List D) (d : D) : Prop := ∃ t b, ds = [rat C t b] ∧ Sm b ∧ b ≠ 0 ∧ d = .ins C rN (rF (-t) b)
def sI (i : Int) : Str := toString i
def strR (t b : Int) : Str := if b = 1 then sI t else Str.empty ++ sI t ++ ("/" : Str) ++ sI b
def pStr (C : Addr) (ds : List D) (d : D) : Prop := ∃ t b, ds = [rat C t b] ∧ Sm t ∧ Sm b ∧ d = .str (strR t b)
theorem scPlain : FnScope ["number"] ["number"] (defScope sPlain) := ⟨rfl, rfl, rfl, by decide +kernel, rfl, by decide +kernel, by decide +kernel⟩
theorem scNeg : FnScope ["self"] ["self"] (defScope sNeg) := ⟨rfl, rfl, rfl, by decide +kernel, rfl, by decide +kernel, by decide +kernel⟩
theorem scStr : FnScope ["self"] ["self"] (defScope sStr) := ⟨rfl, rfl, rfl, by decide +kernel, rfl, by decide +kernel, by decide +kernel⟩
theorem sI_len {i : Int} (h : Sm i) : (sI i).length ≤ 130 := by
  have h2 : i.natAbs < 10 ^ 121 := Nat.lt_of_lt_of_le h (by decide +kernel)
  have e := PySem.int_text_length_le10 (k := 121) (by decide) h2
  show (Str.ofString (toString i)).length ≤ 130
  rw [PySem.ofString_length]; omega
section
variable {T : List (Addr × Str)} {X : Cx} {ss : SS} {e e1 e2 : Expr} {pos p : Pos} {i j : Int} {k : Nat}
theorem ev_f1 (hz : i.natAbs.log2 < 1920) (he : EV T X e ss (.int i)) : EV T X (.JoinedStr [.FormattedValue e (-1) none p] pos) ss (.str (sI i)) :=
  EV.of (pe_joined1 (pe_fmt he)) fun B F H σ Q R q => ev_go R fun v F1 H1 n1 R1 i1 => .inr ⟨i, i1, hz, q _ F1 H1 n1 R1 rfl⟩
theorem ev_f3 {j0 : Nat} {p1 p2 p3 : Pos} (hi : Sm i) (hj : Sm j) (he : EV T X e1 ss (.int i)) (hf : EV T X e2 ss (.int j)) : EV T X (.JoinedStr [.FormattedValue e1 (-1) none p1, .Constant (.str "/") j0 p2, .FormattedValue e2 (-1) none p3] pos) ss (.str (Str.empty ++ sI i ++ ("/" : Str) ++ sI j)) :=
  EV.of (pe_joined (.cons (pe_fmt he) (.cons pe_str (.cons (pe_fmt hf) .nil)))) fun B F H σ Q R q => ev_go R fun v F1 H1 n1 R1 i1 => by
    have l1 := sI_len hi
    have l2 := sI_len hj
    have l3 : (("/" : Str)).length = 1 := by decide
    have l4 : (Str.empty : Str).length = 0 := by decide
    have la : ∀ a b : Str, (a ++ b).length = a.length + b.length := fun a b => Str.length_append a b
    refine .inr ⟨i, i1, sm_log1 hi, sI i, rfl, by rw [la, l4, sizeLine_eq]; omega, ("/" : Str), rfl, by rw [la, la, l4, l3, sizeLine_eq]; omega, ?_⟩
    refine ev_go R1 fun u F2 H2 n2 R2 i2 => .inr ⟨j, i2, sm_log1 hj, sI j, rfl, by rw [la, la, la, l4, l3, sizeLine_eq]; omega, q _ F2 H2 (n1.trans n2) R2 rfl⟩
end
section
variable {T : List (Addr × Str)} {P : Program} {w : World} {K : PySem.W.Frag} {mg : Str → Option Value} {base : Heap} {C f : Addr} {fd : FuncData}
theorem ok_plain (F : Fun K "plain" "plain" sPlain f fd) (R : Rt K mg C) : FnOk P w K mg base CX0 1 f fd ["number"] (spD T K 1 (pPlain C)) := by
  refine fd_ok F scPlain rfl fun cdv A outer s H E ds d hr _ ⟨x, t, b, e1, hx, e2⟩ => ?_
  subst e1; subst e2
  rcases hx with ⟨e, e'⟩ | e
  · subst e; subst e'
    refine svs_cons (sv_if (t := false) (TW.tv (tw_andB (t := false) (u := false) (tv_of (ev_isO (ev_var 0 rfl) rfl trivial R.kO R.mgR R.bIs)) (fun z => nomatch z))) (fun z => nomatch z) (fun _ => svs_nil (svs_one (sv_ret (ev_var 0 rfl) rfl))))
  · subst e
    refine svs_cons (sv_if (t := decide (b = 1)) (TV.cast (TW.tv (tw_andB (tv_of (ev_isO (ev_var 0 rfl) rfl R.ik R.kR R.mgR R.bIs)) fun _ => tw_and1 (tv_eqI (ev_fld (ev_var 0 rfl) R.ik.cl R.nb 1 rfl rfl (by decide)) ev_int))) (by simp)) (fun z => ?_) (fun z => ?_))
    · refine svs_one (sv_ret (ev_fld (ev_var 0 rfl) R.ik.cl R.nt 0 rfl rfl (by decide)) ?_)
      show D.int t = plainD C _ t b
      rw [plainD, if_pos (of_decide_eq_true z)]
    · refine svs_nil (svs_one (sv_ret (ev_var 0 rfl) ?_))
      show rat C t b = plainD C _ t b
      rw [plainD, if_neg (of_decide_eq_false z)]
theorem ok_str (F : Fun K "__str__" "Ratio.__str__" sStr f fd) (R : Rt K mg C) : FnOk P w K mg base CX0 1 f fd ["self"] (spD T K 1 (pStr C)) := by
  refine fd_ok F scStr rfl fun cdv A outer s H E ds d hr _ ⟨t, b, e1, h1, h2, e2⟩ => ?_
  subst e1; subst e2
  refine svs_cons (sv_if (tv_eqI (ev_fld (d := .int b) (ev_var 0 rfl) R.ik.cl R.nb 1 rfl rfl (by decide)) ev_int) (fun z => ?_) (fun z => ?_))
  · refine svs_one (sv_ret (ev_f1 (sm_log1 h1) (ev_fld (d := .int t) (ev_var 0 rfl) R.ik.cl R.nt 0 rfl rfl (by decide))) ?_)
    show D.str _ = D.str (strR t b)
    rw [strR, if_pos (of_decide_eq_true z)]
  · refine svs_nil (svs_one (sv_ret (ev_f3 h1 h2 (ev_fld (d := .int t) (ev_var 0 rfl) R.ik.cl R.nt 0 rfl rfl (by decide)) (ev_fld (d := .int b) (ev_var 0 rfl) R.ik.cl R.nb 1 rfl rfl (by decide))) ?_))
    show D.str _ = D.str (strR t b)
    rw [strR, if_neg (of_decide_eq_false z)]
theorem ok_neg (F : Fun K "__neg__" "Ratio.__neg__" sNeg f fd) (R : Rt K mg C) (M : MD T P w K mg base "Ratio" C 2 1 pInit) : FnOk P w K mg base CX0 3 f fd ["self"] (spD T K 1 (pNeg C)) := by
  refine fd_ok F scNeg rfl fun cdv A outer s H E ds d hr _ ⟨t, b, e1, s2, h0, e2⟩ => ?_
  subst e1; subst e2
  exact svs_one (sv_ret (ev_make M hr (evs_cons (ev_neg (ev_fld (d := .int t) (ev_var 0 rfl) R.ik.cl R.nt 0 rfl rfl (by decide))) (evs_cons (ev_fld (d := .int b) (ev_var 0 rfl) R.ik.cl R.nb 1 rfl rfl (by decide)) evs_nil)) ⟨-t, b, rfl, h0, Nat.lt_of_lt_of_le (sm_log1 s2) (by decide), rfl, rfl⟩) rfl)
end
end K03

set_option Elab.async false
set_option linter.all false
set_option maxRecDepth 100000
set_option maxHeartbeats 4000000
/-! K03c: are_digits, _number_told. -/
namespace K03
open PySem PySem.Spec PyProof.Rows L2 Fd Tx Nm PySem.NumText
def DIG : Str := "0123456789"
theorem dig_cps : DIG.cps.toList = [48, 49, 50, 51, 52, 53, 54, 55, 56, 57] := by decide +kernel
theorem mem_dig (c : Nat) : decide (c ∈ DIG.cps.toList) = decide (48 ≤ c ∧ c ≤ 57) := by
  rw [dig_cps]
  refine decide_eq_decide.mpr ⟨fun h => ?_, fun h => ?_⟩
  · simp at h; omega
  · simp; omega
def pDig (ds : List D) (d : D) : Prop := ∃ l, ds = [.str (S l)] ∧ l.length ≤ 200 ∧ d = .bl (digL l)
def tN : List Str := ["text", "top", "stroke", "bottom", "number"]
theorem scDig : FnScope ["text", "digit"] ["text"] (defScope sDig) := ⟨rfl, rfl, rfl, by decide +kernel, rfl, by decide +kernel, by decide +kernel⟩
theorem scTold : FnScope tN ["text"] (defScope sTold) := ⟨rfl, rfl, rfl, by decide +kernel, rfl, by decide +kernel, by decide +kernel⟩
theorem scRead : FnScope ["text", "number"] ["text"] (defScope sRead) := ⟨rfl, rfl, rfl, by decide +kernel, rfl, by decide +kernel, by decide +kernel⟩
theorem S_nil (l : List Nat) : decide (S l = Str.ofString "") = l.isEmpty := by
  cases l with
  | nil => decide
  | cons c r =>
    refine decide_eq_false fun h => ?_
    have := congrArg (fun x : Str => x.cps.toList) h
    have e : (Str.ofString "").cps.toList = [] := by decide
    rw [e] at this
    cases this
def inF : D → D
  | .str s => .bl (s.cps.toList.all fun c => decide (48 ≤ c ∧ c ≤ 57))
  | _ => .non
theorem outs_dig (l : List Nat) : outs (fun _ => true) inF (Fd.signs (S l)) = (l.map fun c => decide (48 ≤ c ∧ c ≤ 57)).map D.bl := by
  have h1 : (List.filter (fun _ => true) (Fd.signs (S l))) = Fd.signs (S l) := by simp
  unfold outs
  rw [h1]
  unfold Fd.signs
  rw [show (S l).cps.toList = l from rfl, List.map_map, List.map_map]
  refine List.map_congr_left fun c _ => ?_
  simp [inF]
section
variable {T : List (Addr × Str)} {P : Program} {w : World} {K : PySem.W.Frag} {mg : Str → Option Value} {base : Heap} {C f : Addr} {fd : FuncData} {tk : Tok}
theorem ok_dig (F : Fun K "are_digits" "are_digits" sDig f fd) (hA : mg "all" = none) (hD : mg "DIGITS" = some (.str DIG tk)) : FnOk P w K mg base CX0 2 f fd ["text"] (spD T K 1 pDig) := by
  refine fd_ok F scDig rfl fun cdv A outer s H E ds d hr _ ⟨l, e1, hl, e2⟩ => ?_
  subst e1; subst e2
  refine svs_one (sv_ret (EV.cast (ev_andB (ev_neS (ev_var 0 rfl) ev_str) fun _ => ev_one (ev_all (bs := l.map fun c => decide (48 ≤ c ∧ c ≤ 57)) (EV.cast (ev_lc [("digit", 1)] (.one 1) (fun _ => true) inF (iv_str (ev_var 0 rfl))
    (id (α := BlkOk ["text", "digit"] (defScope sDig) _ [("digit", 1)]) ⟨rfl, by decide +kernel, by decide +kernel, by decide +kernel, by decide +kernel⟩)
    (fun s H C cl fp => pg_name (i := 1) scDig.nd rfl (Or.inl rfl))
    (fun s H C cl fp y hy => ts_nil) (fun s H C' cl fp y hy _ => ?_) scDig.nd (fun _ _ => rfl) (by show ((S l).cps.toList.map _).length ≤ _; rw [List.length_map, show (S l).cps.toList = l from rfl]; omega)) (congrArg D.lst (outs_dig l))) hA)) ?_) rfl)
  · obtain ⟨c, _, rfl⟩ := List.mem_map.mp hy
    refine EV.cast (ev_inC (ev_var 1 rfl) (ev_glS hD)) ?_
    rw [mem_dig]
    simp [inF]
  · show D.bl _ = D.bl (digL l)
    congr 1
    unfold digL
    rw [S_nil, List.all_map]
    rfl
/-- the number T / B as it is handed back -/
def numD (C : Addr) (T : Int) (B : Nat) : D := if B = 1 then .int T else rat C T B
def tolD (C : Addr) : Option (Int × Nat) → D
  | some (T, B) => numD C T B
  | none => .non
def pTold (C : Addr) (ds : List D) (d : D) : Prop := ∃ l, ds = [.str (S l)] ∧ l.length ≤ 100 ∧ d = tolD C (tol l)
theorem rF_nat {a b : Nat} (hb : b ≠ 0) : rF (a : Int) (b : Int) = [.int ((a / Nat.gcd a b : Nat) : Int), .int ((b / Nat.gcd a b : Nat) : Int)] := by
  have e : dv (a : Int) (b : Int) = ((Nat.gcd a b : Nat) : Int) := by
    unfold dv
    rw [if_neg (by omega)]
    rfl
  unfold rF
  rw [e, Int.fdiv_eq_ediv_of_dvd (Int.natCast_dvd_natCast.mpr (Nat.gcd_dvd_left a b)), Int.fdiv_eq_ediv_of_dvd (Int.natCast_dvd_natCast.mpr (Nat.gcd_dvd_right a b))]
  rfl
theorem rF_neg {a b : Nat} (hb : b ≠ 0) (h : Nat.gcd a b = 1) : rF (-(a : Int)) (b : Int) = [.int (-(a : Int)), .int (b : Int)] := by
  have e : dv (-(a : Int)) (b : Int) = 1 := by
    unfold dv
    rw [if_neg (by omega), Int.natAbs_neg]
    show ((Nat.gcd a b : Nat) : Int) = 1
    rw [h]; rfl
  unfold rF
  rw [e, Int.fdiv_one, Int.fdiv_one]
theorem smN {a : Nat} (h : a < 10 ^ 100) : Sm (a : Int) := by
  unfold Sm
  rw [Int.natAbs_natCast]
  exact Nat.lt_of_lt_of_le h (by decide +kernel)
theorem val_sm {l : List Nat} (h : AllDigits l) (hl : l.length ≤ 100) : val l < 10 ^ 100 := Nat.lt_of_lt_of_le (val_lt h) (Nat.pow_le_pow_right (by decide) hl)
theorem int_S {l : List Nat} (h : AllDigits l) (hn : l ≠ []) (hl : l.length ≤ 100) : PySem.intText? (S l) = some ((val l : Nat) : Int) := PySem.intText_digits (x := S l) h hn (by rw [len_S]; omega)
theorem bl_len (l : List Nat) : (bl l).length ≤ l.length := by
  unfold bl; split
  · rw [List.length_tail]; omega
  · exact Nat.le_refl _
/-- what the def reads and calls -/
structure TE' (T : List (Addr × Str)) (P : Program) (w : World) (K : PySem.W.Frag) (mg : Str → Option Value) (base : Heap) (C : Addr) : Prop where
  R : Rt K mg C
  M : MD T P w K mg base "Ratio" C 2 1 pInit
  dig : FD T P w K mg base "are_digits" 1 2 pDig
  plain : FD T P w K mg base "plain" 1 1 (pPlain C)
  neg : ∃ f, OwnM T P w K mg base C "__neg__" 1 3 (pNeg C) f
  kS : PySem.W.kitOne K (.type "str") (.type "str") = some true
end
section
variable {T : List (Addr × Str)} {X : Cx} {ss : SS} {C : Addr} {e : Expr} {p pos : Pos} {l : List Nat}
theorem e_dig (V : TE' T X.prog X.w X.K X.mg X.base C) (hr : Room 2 X.A) (hl : l.length ≤ 200) (he : EV T X e ss (.str (S l))) (hg : Gl X "are_digits" := by rfl) (hs : starEach [e] X.env = [(false, eval e X.env)] := by rfl) : EV T X (.Call (.Name "are_digits" p) [e] [] pos) ss (.bl (digL l)) :=
  ev_call V.dig hr (evs_cons he evs_nil hs) ⟨l, rfl, hl, rfl⟩ rfl hg (by decide) hs
end
end K03

set_option Elab.async false
set_option linter.all false
set_option maxRecDepth 100000
set_option maxHeartbeats 4000000
/-! K03d: _number_told's body; the texts that str makes. -/
namespace Fd
open PySem PySem.Spec PyProof.Rows L2
theorem TW.cast {T : List (Addr × Str)} {X : Cx} {ss : SS} {e : Expr} {t u : Bool} (h : TW T X e ss t) (q : t = u) : TW T X e ss u := by subst q; exact h
end Fd
namespace K03
open PySem PySem.Spec PyProof.Rows L2 Fd Tx Nm PySem.NumText
theorem tl_sI (i : Int) : (sI i).cps.toList = iT i := by
  show TL.tl (Str.ofString (toString i)) = iT i
  rw [TL.tl_ofString]
  cases i with
  | ofNat m =>
    show (Nat.repr m).toList.map Char.toNat = _
    rw [Nat.toList_repr]
    unfold iT
    rw [if_neg (show ¬ Int.ofNat m < 0 from Int.not_lt.mpr (Int.natCast_nonneg m))]
    rfl
  | negSucc m =>
    show ("-" ++ Nat.repr (m + 1)).toList.map Char.toNat = _
    rw [String.toList_append, Nat.toList_repr, List.map_append]
    unfold iT
    rw [if_pos (Int.negSucc_lt_zero m)]
    rfl
theorem sI_S (i : Int) : sI i = S (iT i) := S_of _ _ (tl_sI i)
theorem iT_nat (B : Nat) : iT (B : Int) = nT B := by
  unfold iT; rw [if_neg (by omega)]; rfl
theorem strR_S {T : Int} {B : Nat} (h : B ≠ 1) : strR T (B : Int) = S (numT T B) := by
  unfold strR numT
  rw [if_neg (by omega), if_neg h]
  refine S_of _ _ ?_
  rw [TL.tl_append, TL.tl_append, TL.tl_append]
  have e1 : TL.tl (Str.empty : Str) = [] := by decide
  have e3 : TL.tl (sI T) = iT T := tl_sI T
  have e4 : TL.tl (sI (B : Int)) = nT B := (tl_sI _).trans (iT_nat B)
  rw [e1, e3, e4, slash_tl]; simp
theorem S_49 : (Str.ofString "1") = S [49] := by decide
theorem S_minus_prefix (l : List Nat) : Txt.removeprefix (S l) (Str.ofString "-") = S (bl l) := by
  have := unprefix_minus l
  unfold bl
  rw [show (Str.ofString "-") = ("-" : Str) from rfl, this]
  split <;> rfl
def oEq (x y : Str) : Prop := x = y
section
variable {T : List (Addr × Str)} {P : Program} {w : World} {K : PySem.W.Frag} {mg : Str → Option Value} {base : Heap} {C f : Addr} {fd : FuncData} {A : Around} {outer : List Env} {s : Shared} {H : Hp} {E : XK} {Q : Post} {cdv : Value}
abbrev tX (P : Program) (w : World) (K : PySem.W.Frag) (mg : Str → Option Value) (base : Heap) (f : Addr) (cdv : Value) (A : Around) (outer : List Env) (s : Shared) (H : Hp) (E : XK) : Cx := bodyX CX0 P w K mg base tN "_number_told" sTold f cdv A outer s H E
theorem told_tail (V : TE' T P w K mg base C) (hr : Room 3 (tX P w K mg base f cdv A outer s H E).A) {l p q : List Nat} {s2 s4 : Fd.S} (hl : l.length ≤ 100) (hp : p.length ≤ 100) (hq : q.length ≤ 100) (k : Q.rt (tolD C (told (ng l) p q))) :
    SVs T (tX P w K mg base f cdv A outer s H E) ((defBody sTold).drop 3) [.d (.str (S l)), .d (.str (S p)), s2, .d (.str (S q)), s4] Q := by
  have hr2 := hr.mono (show 2 ≤ 3 by decide)
  have hr1 := hr.mono (show 1 ≤ 3 by decide)
  refine svs_cons (sv_if (t := !(digL p && digL q && decide (val q ≠ 0))) (TV.cast (TW.tv (tw_orB (u := !(digL q && decide (val q ≠ 0))) (tv_not (tv_of (e_dig V hr2 (by omega) (ev_var 1 rfl)))) fun h1 => TW.cast (tw_orB (u := decide (val q = 0)) (tv_not (tv_of (e_dig V hr2 (by omega) (ev_var 3 rfl)))) fun h2 => tw_or1 ?_) ?_)) ?_) (fun z => ?_) (fun z => ?_))
  · have d2 := digL_iff.mp (show digL q = true by simpa using h2)
    exact TV.cast (tv_eqI (ev_intS (int_S d2.2 d2.1 hq) (by rw [len_S]; omega) (ev_var 3 rfl) V.R.bInt) ev_int) (decide_eq_decide.mpr (by omega))
  · cases digL q <;> simp
  · cases digL p <;> simp
  · refine svs_one (sv_ret ev_non ?_)
    have : told (ng l) p q = none := by
      unfold told
      rw [if_neg fun w => by rw [w] at z; cases z]
    rw [this] at k
    exact k
  · have hd : (digL p && digL q && decide (val q ≠ 0)) = true := by simpa using z
    have et : told (ng l) p q = some (sg (ng l) (val p / Nat.gcd (val p) (val q)), val q / Nat.gcd (val p) (val q)) := by unfold told; rw [if_pos hd]
    rw [Bool.and_eq_true, Bool.and_eq_true, digL_iff, digL_iff, decide_eq_true_iff] at hd
    obtain ⟨⟨⟨np, ap⟩, ⟨nq, aq⟩⟩, v0⟩ := hd
    rw [et] at k
    have gpos : 0 < Nat.gcd (val p) (val q) := Nat.pos_of_ne_zero fun z => v0 (Nat.eq_zero_of_gcd_eq_zero_right z)
    have cop : Nat.gcd (val p / Nat.gcd (val p) (val q)) (val q / Nat.gcd (val p) (val q)) = 1 := by
      rw [Nat.gcd_div (Nat.gcd_dvd_left _ _) (Nat.gcd_dvd_right _ _)]
      exact Nat.div_self gpos
    have B0 : val q / Nat.gcd (val p) (val q) ≠ 0 := by
      have := Nat.div_mul_cancel (Nat.gcd_dvd_right (val p) (val q))
      intro z
      rw [z, Nat.zero_mul] at this
      exact v0 this.symm
    have sq : val q < 10 ^ 100 := val_sm aq hq
    have sB : val q / Nat.gcd (val p) (val q) < 10 ^ 100 := Nat.lt_of_le_of_lt (Nat.div_le_self _ _) sq
    refine svs_nil (svs_cons (sv_set 4 (d := rat C ((val p / Nat.gcd (val p) (val q) : Nat) : Int) ((val q / Nat.gcd (val p) (val q) : Nat) : Int)) (EV.cast (ev_make (ns := rN) (xs := rF (val p : Int) (val q : Int)) V.M hr2 (evs_cons (ev_intS (int_S ap np hp) (by rw [len_S]; omega) (ev_var 1 rfl) V.R.bInt) (evs_cons (ev_intS (int_S aq nq hq) (by rw [len_S]; omega) (ev_var 3 rfl) V.R.bInt) evs_nil)) ⟨_, _, rfl, by omega, Nat.lt_of_lt_of_le (sm_log1 (smN sq)) (by decide), rfl, rfl⟩) (by rw [rF_nat v0]; rfl)) ?_ scTold.nd))
    generalize val p / Nat.gcd (val p) (val q) = T1 at *
    generalize val q / Nat.gcd (val p) (val q) = B1 at *
    obtain ⟨g, M⟩ := V.neg
    have fin : ∀ t : Int, plainD C (rat C t (B1 : Int)) t (B1 : Int) = numD C t B1 := fun t => by
      unfold plainD numD
      by_cases z : B1 = 1
      · subst z; rfl
      · rw [if_neg z, if_neg (by omega)]
    refine svs_one (sv_ret (EV.cast (ev_call V.plain hr1 (evs_cons (ev_if (t := ng l) (TV.cast (tv_of (ev_starts (ev_var 0 rfl) ev_str)) (starts_minus l)) (d := rat C (sg (ng l) T1) (B1 : Int)) (fun hn => ?_) fun hn => ?_) evs_nil) ⟨_, sg (ng l) T1, B1, rfl, .inr rfl, rfl⟩) (fin _)) k)
    · have e1 : sg (ng l) T1 = -(T1 : Int) := by rw [hn]; rfl
      rw [e1]
      exact EV.of (pe_un (un_own M hr) (ev_var 4 rfl)) fun B F H σ Q R q => ev_go R fun v F1 H1 n1 R1 i1 => ⟨F1, rN, _, _, R1.sub, R1.nt, R1.tb, i1, ⟨T1, B1, rfl, smN sB, by omega, rfl⟩, fun z F2 H2 n2 i2 => q z F2 H2 (n1.trans n2) (R1.grow n2) (by
        rw [rF_neg B0 cop] at i2; exact i2)⟩
    · have e1 : sg (ng l) T1 = (T1 : Int) := by rw [hn]; rfl
      rw [e1]
      exact ev_var 4 rfl
theorem ok_told (F : Fun K "_number_told" "_number_told" sTold f fd) (V : TE' T P w K mg base C) : FnOk P w K mg base CX0 4 f fd ["text"] (spD T K 1 (pTold C)) := by
  refine fd_ok F scTold rfl fun cdv A outer s H E ds d hr _ ⟨l, e1, hl, e2⟩ => ?_
  subst e1; subst e2
  have hbl := bl_len l
  refine svs_cons (sv_if (t := false) (tv_not (k := true) (tv_of (ev_isT (ev_var 0 rfl) rfl trivial V.kS V.R.bStr (by decide +kernel) V.R.bIs))) (fun z => nomatch z) fun _ => svs_nil ?_)
  by_cases h : 47 ∈ bl l
  · obtain ⟨p, q, e, hp⟩ := first h
    have lp : p.length ≤ 100 ∧ q.length ≤ 100 := by
      have := congrArg List.length e
      rw [List.length_append, List.length_cons] at this
      omega
    refine svs_cons (sv_tup3 1 2 3 (d1 := .str (S p)) (d2 := .str ("/" : Str)) (d3 := .str (S q)) (EV.cast (ev_part (x := S (bl l)) (by decide) (by rw [len_S]; omega) (EV.cast (ev_unprefix (by rw [len_S]; omega) (ev_var 0 rfl) ev_str) (by rw [S_minus_prefix])) ev_str) (by rw [e, show (Str.ofString "/") = ("/" : Str) from rfl, part_yes hp])) ?_ scTold.nd)
    refine svs_cons (sv_if (t := false) (TV.cast (tv_eqS (ev_var 2 rfl) ev_str) (by decide)) (fun z => nomatch z) fun _ => svs_nil ?_)
    exact told_tail V hr hl lp.1 lp.2 (by
      show tolD C (told (ng l) p q) = tolD C (tol l)
      unfold tol; rw [e, cutp_yes hp])
  · refine svs_cons (sv_tup3 1 2 3 (d1 := .str (S (bl l))) (d2 := .str Str.empty) (d3 := .str Str.empty) (EV.cast (ev_part (x := S (bl l)) (by decide) (by rw [len_S]; omega) (EV.cast (ev_unprefix (by rw [len_S]; omega) (ev_var 0 rfl) ev_str) (by rw [S_minus_prefix])) ev_str) (by rw [show (Str.ofString "/") = ("/" : Str) from rfl, part_no h])) ?_ scTold.nd)
    refine svs_cons (sv_if (t := true) (TV.cast (tv_eqS (ev_var 2 rfl) ev_str) (by decide)) (fun _ => svs_one (sv_set 3 (d := .str (S [49])) (EV.cast ev_str (by rw [S_49])) ?_ scTold.nd)) fun z => nomatch z)
    exact told_tail V hr hl (by omega) (by decide) (by
      show tolD C (told (ng l) (bl l) [49]) = tolD C (tol l)
      unfold tol; rw [cutp_no h])
end
end K03

set_option Elab.async false
set_option linter.all false
set_option maxRecDepth 100000
set_option maxHeartbeats 4000000
/-! K03e: read_number, both ways. -/
namespace K03
open PySem PySem.Spec PyProof.Rows L2 Fd Tx Nm PySem.NumText PySem.ExS
def pRead (C : Addr) (ds : List D) (d : D) : Prop := ∃ l T B, ds = [.str (S l)] ∧ l.length ≤ 100 ∧ prog l = some (T, B) ∧ d = numD C T B
def pReadX (CN : Addr) (ds : List D) (J : Value → Option Addr → Hp → Prop) : Prop := ∃ l, ds = [.str (S l)] ∧ l.length ≤ 100 ∧ prog l = none ∧ J = Told CN "text" (.str (S l))
/-- what read_number calls -/
structure RE (T : List (Addr × Str)) (P : Program) (w : World) (K : PySem.W.Frag) (mg : Str → Option Value) (base : Heap) (C CN : Addr) : Prop where
  V : TE' T P w K mg base C
  told : FD T P w K mg base "_number_told" 1 4 (pTold C)
  str : ∃ f, OwnM T P w K mg base C "__str__" 1 1 (pStr C) f
  ex : ∃ fI cc cda, ExCls P K mg CN fI cc cda ∧ ExFn1 K CN fI cc cda "text" "text"
  mgN : mg "NoText" = some (.ref CN)
  rs1 : PySem.W.subIn K (.ref CN) (.type "BaseException") = some true
  rs2 : PySem.W.typeIn K (.ref CN) = some (.type "type")
theorem sg_abs (n : Bool) (m : Nat) : (sg n m).natAbs = m := by
  unfold sg; split <;> omega
theorem tol_bound {l : List Nat} (hl : l.length ≤ 100) {T : Int} {B : Nat} (h : tol l = some (T, B)) : T.natAbs < 10 ^ 100 ∧ B < 10 ^ 100 ∧ B ≠ 0 := by
  unfold tol told at h
  split at h
  · rename_i hd
    rw [Bool.and_eq_true, Bool.and_eq_true, digL_iff, digL_iff, decide_eq_true_iff] at hd
    obtain ⟨⟨⟨np, ap⟩, ⟨nq, aq⟩⟩, v0⟩ := hd
    have hb := bl_len l
    have lp : (cutp (bl l)).1.length ≤ 100 ∧ (cutp (bl l)).2.length ≤ 100 := by
      by_cases h47 : 47 ∈ bl l
      · obtain ⟨p, q, e, hp⟩ := first h47
        have := congrArg List.length e
        rw [List.length_append, List.length_cons] at this
        rw [e, cutp_yes hp]
        exact ⟨by show p.length ≤ 100; omega, by show q.length ≤ 100; omega⟩
      · rw [cutp_no h47]
        exact ⟨by show (bl l).length ≤ 100; omega, by show [49].length ≤ 100; decide⟩
    have s1 := val_sm ap lp.1
    have s2 := val_sm aq lp.2
    injection h with h
    injection h with h1 h2
    subst h1; subst h2
    refine ⟨?_, Nat.lt_of_le_of_lt (Nat.div_le_self _ _) s2, fun z => ?_⟩
    · have : (sg (ng l) (val (cutp (bl l)).1 / Nat.gcd (val (cutp (bl l)).1) (val (cutp (bl l)).2))).natAbs = val (cutp (bl l)).1 / Nat.gcd (val (cutp (bl l)).1) (val (cutp (bl l)).2) := by
        exact sg_abs _ _
      rw [this]
      exact Nat.lt_of_le_of_lt (Nat.div_le_self _ _) s1
    · have := Nat.div_mul_cancel (Nat.gcd_dvd_right (val (cutp (bl l)).1) (val (cutp (bl l)).2))
      rw [z, Nat.zero_mul] at this
      exact v0 this.symm
  · cases h
theorem smI {T : Int} (h : T.natAbs < 10 ^ 100) : Sm T := Nat.lt_of_lt_of_le h (by decide +kernel)
section
variable {T : List (Addr × Str)} {X : Cx} {ss : SS} {C CN : Addr} {e : Expr} {p pos : Pos} {t : Int} {b : Nat}
/-- str(number) -/
theorem e_strN (V : RE T X.prog X.w X.K X.mg X.base C CN) (hr : Room 3 X.A) (h1 : t.natAbs < 10 ^ 100) (h2 : b < 10 ^ 100) (he : EV T X e ss (numD C t b)) (hg : Gl X "str" := by rfl) (hs : starEach [e] X.env = [(false, eval e X.env)] := by rfl) : EV T X (.Call (.Name "str" p) [e] [] pos) ss (.str (S (numT t b))) := by
  by_cases hb : b = 1
  · subst hb
    exact EV.cast (ev_strI (sm_log1 (smI h1)) he V.V.R.bStr hg hs) (congrArg D.str (sI_S t))
  · obtain ⟨f, M⟩ := V.str
    have he' : EV T X e ss (rat C t (b : Int)) := EV.cast he (by unfold numD; rw [if_neg hb])
    exact EV.cast (ev_strO M hr he' ⟨t, (b : Int), rfl, smI h1, smI (by rw [Int.natAbs_natCast]; exact h2), rfl⟩ V.V.R.bStr hg hs) (congrArg D.str (strR_S hb))
theorem numD_ne : numD C t b ≠ .non := by unfold numD; split <;> (intro z; cases z)
end
section
variable {T : List (Addr × Str)} {P : Program} {w : World} {K : PySem.W.Frag} {mg : Str → Option Value} {base : Heap} {C CN f : Addr} {fd : FuncData} {cdv : Value}
theorem S_dec {a b : List Nat} : decide (S a = S b) = decide (a = b) := decide_eq_decide.mpr ⟨fun h => S_inj h, fun h => by rw [h]⟩
theorem ok_read (F : Fun K "read_number" "read_number" sRead f fd) (V : RE T P w K mg base C CN) : FnOk P w K mg base CX0 5 f fd ["text"] (spD T K 1 (pRead C)) := by
  refine fd_ok F scRead rfl fun cdv A outer s H E ds d hr _ ⟨l, t, b, e1, hl, hp, e2⟩ => ?_
  subst e1; subst e2
  have hr3 := hr.mono (show 3 ≤ 4 by decide)
  refine svs_cons (sv_set 1 (ev_call V.told hr (evs_cons (ev_var 0 rfl) evs_nil) ⟨l, rfl, hl, rfl⟩) ?_ scRead.nd)
  unfold prog at hp
  cases ht : tol l with
  | none => rw [ht] at hp; cases hp
  | some q =>
    obtain ⟨t', b'⟩ := q
    rw [ht] at hp
    dsimp only at hp
    split at hp
    · rename_i hn
      injection hp with hp
      injection hp with p1 p2
      subst p1; subst p2
      obtain ⟨s1, s2, _⟩ := tol_bound hl ht
      refine svs_cons (sv_if (t := false) (TW.tv (tw_orB (t := false) (u := false) (tv_isN false (d := numD C t' b') (ev_var 1 rfl) (.inr ⟨rfl, numD_ne⟩)) fun _ => tw_or1 (TV.cast (tv_neS (e_strN V hr3 s1 s2 (ev_var 1 rfl)) (ev_var 0 rfl)) (by rw [S_dec, decide_eq_true hn]; rfl)))) (fun z => nomatch z) fun _ => svs_nil (svs_one (sv_ret (ev_var 1 rfl) rfl)))
    · cases hp
theorem ok_readX (F : FunZ K "read_number" "read_number" sRead f fd cdv) (V : RE T P w K mg base C CN) : FnOk P w K mg base (L2.CX P w) 5 f fd ["text"] (spY T K 1 (pReadX CN)) := by
  refine fy_ok F scRead rfl fun A outer s H E ds J hr _ ⟨l, e1, hl, hp, e2⟩ tk => ?_
  subst e1; subst e2
  have hr3 := hr.mono (show 3 ≤ 4 by decide)
  obtain ⟨fI, cc, cda, EC, Fn⟩ := V.ex
  refine ry_cons (sv_set 1 (ev_call V.told hr (evs_cons (ev_var 0 rfl) evs_nil) ⟨l, rfl, hl, rfl⟩) ?_ scRead.nd)
  refine ry_ifT ?_ (ry_raise tk EC Fn (raises_own V.rs1 V.rs2) hr V.mgN (ev_var 0 rfl))
  unfold prog at hp
  cases ht : tol l with
  | none =>
    exact TW.tv (tw_orB (t := true) (u := false) (tv_isN true (d := .non) (EV.cast (ev_var 1 rfl) rfl) (.inl ⟨rfl, rfl⟩)) fun z => nomatch z)
  | some q =>
    obtain ⟨t', b'⟩ := q
    rw [ht] at hp
    dsimp only at hp
    obtain ⟨s1, s2, _⟩ := tol_bound hl ht
    have hv : EV T (xX P w K mg base ["text", "number"] "read_number" sRead f cdv A outer s H E) (.Name "number" ⟨0, 0, 0, 0⟩) [.d (.str (S l)), .d (tolD C (some (t', b')))] (numD C t' b') := ev_var 1 rfl
    split at hp
    · cases hp
    · rename_i hn
      exact TW.tv (tw_orB (t := false) (u := true) (tv_isN false (d := numD C t' b') (EV.cast (ev_var 1 rfl) rfl) (.inr ⟨rfl, numD_ne⟩)) fun _ => tw_or1 (TV.cast (tv_neS (e_strN V hr3 s1 s2 (EV.cast (ev_var 1 rfl) rfl)) (ev_var 0 rfl)) (by rw [S_dec, decide_eq_false hn]; rfl)))
end
end K03

set_option Elab.async false
set_option linter.all false
set_option maxRecDepth 100000
set_option maxHeartbeats 4000000
/-! K03f: the law's cells, rows, shares and lowest terms (as for k02). -/
namespace K03
open PySem PySem.Spec PyProof.Rows L2 Fd
def sCell : Stmt := top 18
def sRow : Stmt := top 19
def sShare : Stmt := top 20
def sLow : Stmt := top 21
theorem sm_log {a : Int} (ha : a.natAbs < 2 ^ 8000) : a.natAbs.log2 < 9000 := Nat.lt_of_lt_of_le (PySem.Flt.log2_lt_of (by decide) ha) (by decide)
def pCell (ds : List D) (d : D) : Prop := ∃ (ns : List Int) (i : Nat), ds = [.rdl (ns.map D.int), .int (i : Nat)] ∧ ns.length ≤ 63 ∧ d = .int (ns.getD i 0)
def pShare (ds : List D) (d : D) : Prop := ∃ a b : Int, ds = [.int a, .int b] ∧ d = .int ((Nat.gcd a.natAbs b.natAbs : Nat) : Int)
def pLow (ds : List D) (d : D) : Prop := ∃ t b : Int, ds = [.int t, .int b] ∧ b ≠ 0 ∧ b.natAbs.log2 < 9000 ∧ d = .tup (rF t b)
def pr (a b : Int) : D := .tup [.int a, .int b]
theorem scCell : FnScope ["_law_script", "_law_k"] ["_law_script", "_law_k"] (defScope sCell) := ⟨rfl, rfl, rfl, by decide +kernel, rfl, by decide +kernel, by decide +kernel⟩
theorem scShare : FnScope ["_law_one", "_law_two"] ["_law_one", "_law_two"] (defScope sShare) := ⟨rfl, rfl, rfl, by decide +kernel, rfl, by decide +kernel, by decide +kernel⟩
theorem scLow : FnScope ["_law_upper", "_law_lower", "_law_part"] ["_law_upper", "_law_lower"] (defScope sLow) := ⟨rfl, rfl, rfl, by decide +kernel, rfl, by decide +kernel, by decide +kernel⟩
/-- the great cell by mixed radix -/
def rowBig (c : Int) : List Int → List Int
  | [] => []
  | z :: zs => c % z :: rowBig (c / z) zs
def mix (s : Int) (k : Nat) (z : Int) : Int := ((s + 7919 * (k : Int) + 104729) ^ 5 % 2147483647 + (k : Int)) * 40692 % 2147483629 % z
def rowSm (s : Int) : Nat → List Int → List Int
  | _, [] => []
  | k, z :: zs => mix s k z :: rowSm s (k + 1) zs
def rowL (c : Int) (zs : List Int) : List Int := if 10 ^ 18 ≤ c then rowBig c zs else rowSm (c % 2147483647) 0 zs
def pRow (ds : List D) (d : D) : Prop := ∃ (c : Int) (zs : List Int), ds = [.int c, .lst (zs.map D.int)] ∧ zs.length ≤ 1000 ∧ (∀ z ∈ zs, 0 < z ∧ z ≤ 10 ^ 30) ∧ d = .lst ((rowL c zs).map D.int)
theorem scRow : FnScope ["_law_cell_here", "_law_sizes", "_law_out", "_law_size", "_law_seed", "_law_k", "_law_mixed"] ["_law_cell_here", "_law_sizes"] (defScope sRow) := ⟨rfl, rfl, rfl, by decide +kernel, rfl, by decide +kernel, by decide +kernel⟩
def cAt (c : Int) (zs : List Int) (i : Nat) : Int := (zs.take i).foldl (· / ·) c
theorem rowBig_get : ∀ (zs : List Int) (c : Int) (i : Nat) (z : Int), zs[i]? = some z → (rowBig c zs)[i]? = some (cAt c zs i % z)
  | [], _, _, _, h => by simp at h
  | y :: ys, c, 0, z, h => by
    simp at h; subst h; rfl
  | y :: ys, c, i + 1, z, h => by
    simp at h
    have := rowBig_get ys (c / y) i z h
    simpa [rowBig, cAt] using this
theorem rowBig_len : ∀ (zs : List Int) (c : Int), (rowBig c zs).length = zs.length
  | [], _ => rfl
  | y :: ys, c => by simp [rowBig, rowBig_len ys]
theorem cAt_succ {c : Int} {zs : List Int} {i : Nat} {z : Int} (h : zs[i]? = some z) : cAt c zs (i + 1) = cAt c zs i / z := by
  unfold cAt
  rw [List.take_add_one, h, List.foldl_append]
  rfl
theorem rowSm_get (s : Int) : ∀ (zs : List Int) (k i : Nat) (z : Int), zs[i]? = some z → (rowSm s k zs)[i]? = some (mix s (k + i) z)
  | [], _, _, _, h => by simp at h
  | y :: ys, k, 0, z, h => by
    simp at h; subst h; rfl
  | y :: ys, k, i + 1, z, h => by
    simp at h
    have := rowSm_get s ys (k + 1) i z h
    have e : k + 1 + i = k + (i + 1) := by omega
    rw [e] at this
    simpa [rowSm] using this
theorem rowSm_len (s : Int) : ∀ (zs : List Int) (k : Nat), (rowSm s k zs).length = zs.length
  | [], _ => rfl
  | y :: ys, k => by simp [rowSm, rowSm_len s ys]
theorem take_snoc {α : Type} {l : List α} {i : Nat} {x : α} (h : l[i]? = some x) : l.take i ++ [x] = l.take (i + 1) := by
  rw [List.take_add_one, h]; rfl
section
variable {T : List (Addr × Str)} {P : Program} {w : World} {K : PySem.W.Frag} {mg : Str → Option Value} {base : Heap} {C f : Addr} {fd : FuncData}
theorem ok_cell (F : Fun K "_law_cell" "_law_cell" sCell f fd) (hL : mg "len" = none) : FnOk P w K mg base CX0 1 f fd ["_law_script", "_law_k"] (spD T K 2 pCell) := by
  refine fd_ok F scCell rfl fun cdv A outer s H E ds d hr _ ⟨ns, i, e1, e3, e2⟩ => ?_
  subst e1; subst e2
  refine svs_cons (sv_if (tv_lt (ev_var 1 rfl) (ev_len (n := ns.length) (by simp [D.len]) (ev_var 0 rfl) hL)) (fun h => ?_) (fun h => ?_))
  · have hlt : i < ns.length := by simpa using h
    refine svs_one (sv_ret (ev_ixR ⟨i, rfl, ?_⟩ (ev_var 0 rfl) (ev_var 1 rfl)) rfl)
    rw [List.getElem?_map, List.getElem?_eq_getElem hlt, List.getD_eq_getElem?_getD, List.getElem?_eq_getElem hlt]
    rfl
  · have hlt : ns.length ≤ i := by simpa using h
    refine svs_nil (svs_one (sv_ret ev_int ?_))
    show D.int 0 = D.int (ns.getD i 0)
    rw [List.getD_eq_getElem?_getD, List.getElem?_eq_none hlt]
    rfl
theorem ok_share (F : Fun K "_law_share" "_law_share" sShare f fd) (hA : mg "abs" = none) (hI : mg "int" = none) : FnOk P w K mg base CX0 1 f fd ["_law_one", "_law_two"] (spD T K 2 pShare) := by
  refine fd_ok F scShare rfl fun cdv A outer s H E ds d hr _ ⟨a, b, e1, e2⟩ => ?_
  subst e1; subst e2
  have ha : ∀ z : Int, (if z < 0 then -z else z) = (z.natAbs : Int) := fun z => by split <;> omega
  refine svs_cons (sv_par 0 1 (evs_cons (ev_abs (ev_var 0 rfl) hA) (evs_cons (ev_abs (ev_var 1 rfl) hA) evs_nil)) ?_ scShare.nd)
  rw [ha, ha]
  refine svs_cons (sv_while (fun ss => ∃ m n : Nat, ss = [.d (.int m), .d (.int n)] ∧ Nat.gcd m n = Nat.gcd a.natAbs b.natAbs) (fun ss => match ss with | [_, .d (.int n)] => n.toNat | _ => 0) ⟨_, _, rfl, rfl⟩ ?_)
  rintro ss' ⟨m, n, rfl, hg⟩
  refine ⟨_, tv_gt (ev_var 1 rfl) ev_int, fun h => ?_, fun h => ?_⟩
  · have hn : 0 < n := by simpa using h
    refine svs_one (sv_par 0 1 (evs_cons (ev_var 1 rfl) (evs_cons (ev_mod (by omega) (ev_int1 (ev_var 0 rfl) hI) (ev_var 1 rfl)) evs_nil)) ?_ scShare.nd)
    refine ⟨⟨n, m % n, rfl, ?_⟩, ?_⟩
    · rw [← hg, Nat.gcd_comm m n, Nat.gcd_rec n m, Nat.gcd_comm]
    · show ((m : Int) % (n : Int)).toNat < (n : Int).toNat
      have := Nat.mod_lt m hn
      omega
  · have hn : n = 0 := by simpa using h
    subst hn
    refine svs_one (sv_ret (ev_var 0 rfl) ?_)
    show D.int (m : Int) = D.int _
    rw [← hg, Nat.gcd_zero_right]
theorem ok_low (F : Fun K "_law_low" "_law_low" sLow f fd) (G : FD T P w K mg base "_law_share" 2 1 pShare) : FnOk P w K mg base CX0 2 f fd ["_law_upper", "_law_lower"] (spD T K 2 pLow) := by
  refine fd_ok F scLow rfl fun cdv A outer s H E ds d hr _ ⟨t, b, e1, hb, hl, e2⟩ => ?_
  subst e1; subst e2
  obtain ⟨h1, h2⟩ := dv_ok (t := t) hb hl
  refine svs_cons (sv_set 2 (ev_call G hr (evs_cons (ev_var 0 rfl) (evs_cons (ev_var 1 rfl) evs_nil)) ⟨t, b, rfl, rfl⟩) ?_ scLow.nd)
  refine svs_cons (sv_if (tv_lt (ev_var 1 rfl) ev_int) (fun z => ?_) (fun z => ?_))
  · have hneg : b < 0 := by simpa using z
    have ed : dv t b = -((Nat.gcd t.natAbs b.natAbs : Nat) : Int) := if_pos hneg
    refine svs_one (sv_set 2 (d := .int (dv t b)) (EV.cast (ev_neg (ev_var 2 rfl)) (by rw [ed])) ?_ scLow.nd)
    exact svs_one (sv_ret (ev_tup (evs_cons (ev_fdivX ⟨h1, h2⟩ (ev_var 0 rfl) (ev_var 2 rfl)) (evs_cons (ev_fdivX ⟨h1, h2⟩ (ev_var 1 rfl) (ev_var 2 rfl)) evs_nil))) rfl)
  · have hpos : ¬ b < 0 := by simpa using z
    have ed : dv t b = ((Nat.gcd t.natAbs b.natAbs : Nat) : Int) := if_neg hpos
    refine svs_nil ?_
    rw [← ed]
    exact svs_one (sv_ret (ev_tup (evs_cons (ev_fdivX ⟨h1, h2⟩ (ev_var 0 rfl) (ev_var 2 rfl)) (evs_cons (ev_fdivX ⟨h1, h2⟩ (ev_var 1 rfl) (ev_var 2 rfl)) evs_nil))) rfl)
theorem ok_row (F : Fun K "_law_row" "_law_row" sRow f fd) (hI : mg "int" = none) (hR : mg "range" = none) (hL : mg "len" = none) : FnOk P w K mg base CX0 1 f fd ["_law_cell_here", "_law_sizes"] (spD T K 2 pRow) := by
  refine fd_ok F scRow rfl fun cdv A outer s H E ds d hr _ ⟨c, zs, e1, hlen, hz, e2⟩ => ?_
  subst e1; subst e2
  have hm : ∀ {l : List Int} {i : Nat} {z : Int}, l[i]? = some z → (l.map D.int)[i]? = some (.int z) := fun h => by rw [List.getElem?_map, h]; rfl
  refine svs_cons (sv_setOwn 2 evs_nil ?_ scRow.nd)
  refine svs_cons (sv_if (tv_ge (ev_var 0 rfl) (ev_pow ⟨by decide, by decide, by decide⟩ ev_int ev_int)) (fun h => ?_) (fun h => ?_))
  · have hc : 10 ^ 18 ≤ c := by simpa using h
    have er : rowL c zs = rowBig c zs := if_pos hc
    refine svs_cons (sv_for (.one 3) (fun i ss => i ≤ zs.length ∧ ∃ s3, ss = [.d (.int (cAt c zs i)), .d (.lst (zs.map D.int)), .own (((rowBig c zs).take i).map D.int), s3, .no, .no, .no]) (iv_list (ev_var 1 rfl)) (pg_name (i := 3) scRow.nd rfl (Or.inl rfl)) ⟨Nat.zero_le _, _, rfl⟩ ?_ ?_)
    · rintro i x ss' hx ⟨hi, s3, rfl⟩
      obtain ⟨z, hz1, rfl⟩ : ∃ z, zs[i]? = some z ∧ D.int z = x := by
        rw [List.getElem?_map] at hx
        exact Option.map_eq_some_iff.mp hx
      have hlt : i < zs.length := (List.getElem?_eq_some_iff.mp hz1).1
      obtain ⟨p1, p2⟩ := hz z (List.mem_of_getElem? hz1)
      refine ⟨rfl, svs_cons (sv_append 2 rfl (ev_mod p1 (ev_int1 (ev_var 0 rfl) hI) (ev_var 3 rfl)) ?_ (by simp [rowBig_len]; omega))⟩
      refine svs_one (sv_set 0 (ev_fdivW ⟨p1, sm_log (Nat.lt_of_le_of_lt (show z.natAbs ≤ 10 ^ 30 by omega) (by decide +kernel))⟩ (ev_var 0 rfl) (ev_var 3 rfl)) ⟨hlt, .d (.int z), ?_⟩ scRow.nd)
      rw [cAt_succ hz1, ← take_snoc (rowBig_get zs c i z hz1), List.map_append]
      rfl
    rintro ss' ⟨_, s3, rfl⟩
    refine svs_freeze 2 rfl (svs_one (sv_ret (ev_var 2 rfl) ?_))
    show D.lst _ = D.lst _
    rw [er, List.length_map, List.take_of_length_le (by rw [rowBig_len]; exact Nat.le_refl _)]
  · have hc : ¬ 10 ^ 18 ≤ c := by simpa using h
    have er : rowL c zs = rowSm (c % 2147483647) 0 zs := if_neg hc
    refine svs_nil (svs_cons (sv_set 4 (ev_mod (by decide) (ev_int1 (ev_var 0 rfl) hI) ev_int) ?_ scRow.nd))
    generalize hs : c % 2147483647 = sd
    have hsd : 0 ≤ sd ∧ sd < 2147483647 := by omega
    rw [hs] at er
    refine svs_cons (sv_for (.one 5) (fun i ss => i ≤ zs.length ∧ ∃ s5 s6, ss = [.d (.int c), .d (.lst (zs.map D.int)), .own (((rowSm sd 0 zs).take i).map D.int), .no, .d (.int sd), s5, s6]) (iv_range1 (n := zs.length) (ev_len (n := zs.length) (by simp [D.len]) (ev_var 1 rfl) hL) (by omega) hR) (pg_name (i := 5) scRow.nd rfl (Or.inl rfl)) ⟨Nat.zero_le _, _, _, rfl⟩ ?_ ?_)
    · rintro i x ss' hx ⟨hi, s5, s6, rfl⟩
      have hlt : i < zs.length := by
        have := (List.getElem?_eq_some_iff.mp hx).1
        simpa [rng_len] using this
      have hx : (rng 0 zs.length)[i]? = some x := hx
      rw [rng_get hlt, Int.zero_add] at hx
      obtain rfl : D.int (i : Int) = x := Option.some.inj hx
      have hz1 : zs[i]? = some zs[i] := List.getElem?_eq_getElem hlt
      generalize zs[i] = z at hz1
      obtain ⟨p1, p2⟩ := hz z (List.mem_of_getElem? hz1)
      have hb : (sd + 7919 * (i : Int) + 104729).natAbs < 2 ^ 64 := by omega
      refine ⟨rfl, svs_cons (sv_set 6 (ev_add (ev_mod (by decide) (ev_int1 (ev_pow ⟨by decide, by decide, hb⟩ (ev_add (ev_add (ev_var 4 rfl) (ev_mul (.inl (by decide)) ev_int (ev_var 5 rfl))) ev_int) ev_int) hI) ev_int) (ev_var 5 rfl)) ?_ scRow.nd)⟩
      refine svs_one (sv_append 2 rfl (ev_mod p1 (ev_int1 (ev_mod (by decide) (ev_int1 (ev_mul (.inr (by decide)) (ev_var 6 rfl) ev_int) hI) ev_int) hI) (ev_ixL ⟨i, rfl, hm hz1⟩ (ev_var 1 rfl) (ev_var 5 rfl))) ⟨hlt, .d (.int (i : Nat)), .d (.int ((sd + 7919 * (i : Int) + 104729) ^ (5 : Int).toNat % 2147483647 + (i : Int))), ?_⟩ (by simp [rowSm_len]; omega))
      have := rowSm_get sd zs 0 i z hz1
      rw [Nat.zero_add] at this
      rw [← take_snoc this, List.map_append]
      rfl
    rintro ss' ⟨_, s5, s6, rfl⟩
    refine svs_freeze 2 rfl (svs_one (sv_ret (ev_var 2 rfl) ?_))
    show D.lst _ = D.lst _
    rw [er, rng_len, List.take_of_length_le (by rw [rowSm_len]; exact Nat.le_refl _)]
end
end K03

set_option Elab.async false
set_option linter.all false
set_option maxRecDepth 100000
set_option maxHeartbeats 4000000
/-! K03g: the law's numbers' texts, signs, spoilt texts. -/
namespace K03
open PySem PySem.Spec PyProof.Rows L2 Fd Tx Nm PySem.NumText
def sIs : Stmt := top 25
def sNtx : Stmt := top 26
def sSign : Stmt := top 27
def sSpo : Stmt := top 28
theorem scIs : FnScope ["_law_number", "_law_x"] ["_law_number", "_law_x"] (defScope sIs) := ⟨rfl, rfl, rfl, by decide +kernel, rfl, by decide +kernel, by decide +kernel⟩
theorem scNtx : FnScope ["_law_x"] ["_law_x"] (defScope sNtx) := ⟨rfl, rfl, rfl, by decide +kernel, rfl, by decide +kernel, by decide +kernel⟩
theorem scSign : FnScope ["_law_k", "_law_signs"] ["_law_k"] (defScope sSign) := ⟨rfl, rfl, rfl, by decide +kernel, rfl, by decide +kernel, by decide +kernel⟩
theorem scSpo : FnScope ["_law_text", "_law_kind", "_law_place", "_law_k", "_law_at"] ["_law_text", "_law_kind", "_law_place", "_law_k"] (defScope sSpo) := ⟨rfl, rfl, rfl, by decide +kernel, rfl, by decide +kernel, by decide +kernel⟩
def pIs (C : Addr) (ds : List D) (d : D) : Prop := ∃ (t : Int) (b : Nat), ds = [numD C t b, pr t b] ∧ d = .bl true
def pNtx (ds : List D) (d : D) : Prop := ∃ (t : Int) (b : Nat), ds = [pr t b] ∧ t.natAbs < 10 ^ 100 ∧ b < 10 ^ 100 ∧ d = .str (S (numT t b))
/-- the law's signs -/
def sgA : Str := Str.ofString " !\"#$&'()*+,-./0123456789:;<=>?@ABCDEFGHIJKLMNOPQRSTUVWXYZ[\\]^_`"
def sgB : Str := Str.ofString "abcdefghijklmnopqrstuvwxyz{|}~\n"
def SIG : List Nat := TL.tl sgA ++ TL.tl sgB
def sgn (k : Int) : Nat := SIG.getD (k % 95).toNat 0
def pSign (ds : List D) (d : D) : Prop := ∃ k : Int, ds = [.int k] ∧ d = .str (S [sgn k])
theorem eqv_pr (t c a b : Int) : PyData.eqv (.tuple [.int t, .int c]) (.tuple [.int a, .int b]) = (decide (t = a) && decide (c = b)) := by
  by_cases h1 : t = a <;> by_cases h2 : c = b <;> simp [PyData.eqv, PyData.eqvAll, h1, h2]
theorem sig_lt : ∀ c ∈ SIG, c < 128 := by decide +kernel
theorem sig_len : SIG.length = 95 := by decide +kernel
theorem sgn_lt (k : Int) : sgn k < 128 := by
  have h := Int.emod_lt_of_pos k (show (0 : Int) < 95 by decide)
  have h0 := Int.emod_nonneg k (show (95 : Int) ≠ 0 by decide)
  have hl : (k % 95).toNat < SIG.length := by rw [sig_len]; omega
  unfold sgn
  rw [List.getD_eq_getElem?_getD, List.getElem?_eq_getElem hl]
  exact sig_lt _ (List.getElem_mem hl)
theorem sig_a : sgA ++ sgB = S SIG := S_of _ _ (TL.tl_append _ _)
theorem sigA_len : sgA.length + sgB.length ≤ 100 := by decide +kernel
theorem cut_take {l : List Nat} {n : Nat} (h : n ≤ l.length) : cutS (S l) none (some (n : Int)) = S (l.take n) := by
  unfold cutS
  show S _ = S _
  congr 1
  rw [HT.sIx_none, HT.sIx_nat, len_S, Nat.sub_zero, Nat.min_eq_left h]
  rfl
theorem cut_drop {l : List Nat} {n : Nat} : cutS (S l) (some (n : Int)) none = S (l.drop n) := by
  unfold cutS
  show S _ = S _
  congr 1
  rw [HT.sIx_none, HT.sIx_nat, len_S]
  show (l.drop (min n l.length)).take (l.length - min n l.length) = _
  by_cases h : n ≤ l.length
  · rw [Nat.min_eq_left h]
    exact List.take_of_length_le (by rw [List.length_drop]; omega)
  · rw [Nat.min_eq_right (by omega), List.drop_length, List.drop_of_length_le (by omega)]
    simp
theorem cut_mid {l : List Nat} {n : Nat} (h : n ≤ l.length) : cutS (S l) (some (n : Int)) (some ((n + 1 : Nat) : Int)) = S ((l.drop n).take 1) := by
  unfold cutS
  show S _ = S _
  congr 1
  rw [HT.sIx_nat, HT.sIx_nat, len_S, Nat.min_eq_left h]
  show (l.drop n).take (min (n + 1) l.length - n) = _
  by_cases h2 : n + 1 ≤ l.length
  · rw [Nat.min_eq_left h2]
    congr 1
    omega
  · have : l.drop n = [] := List.drop_of_length_le (by omega)
    rw [this]; simp
/-- a text spoilt at the place n -/
def spo (l : List Nat) (kind : Int) (n : Nat) (c : Nat) : List Nat :=
  if kind = 0 then l else if kind = 1 then l.take n ++ [c] ++ l.drop n else if kind = 2 then l.take n ++ l.drop (n + 1) else if kind = 3 then l.take n ++ [c] ++ l.drop (n + 1) else l.take n ++ (l.drop n).take 1 ++ l.drop n
theorem spo_len {l : List Nat} {kind : Int} {n c : Nat} (h : n ≤ l.length) : (spo l kind n c).length ≤ l.length + 1 := by
  unfold spo
  split
  · omega
  split
  · simp only [List.length_append, List.length_take, List.length_drop, List.length_singleton]; omega
  split
  · simp only [List.length_append, List.length_take, List.length_drop]; omega
  split
  · simp only [List.length_append, List.length_take, List.length_drop, List.length_singleton]; omega
  · simp only [List.length_append, List.length_take, List.length_drop]; omega
theorem spo_all {l : List Nat} {kind : Int} {n c : Nat} {p : Nat → Prop} (h : ∀ x ∈ l, p x) (hc : p c) : ∀ x ∈ spo l kind n c, p x := by
  intro x hx
  unfold spo at hx
  have t : ∀ {y}, y ∈ l.take n → p y := fun hy => h _ (List.mem_of_mem_take hy)
  have d : ∀ {m y}, y ∈ l.drop m → p y := fun hy => h _ (List.mem_of_mem_drop hy)
  repeat' split at hx
  · exact h x hx
  · simp only [List.mem_append, List.mem_singleton] at hx
    rcases hx with (hx | rfl) | hx
    · exact t hx
    · exact hc
    · exact d hx
  · simp only [List.mem_append] at hx
    rcases hx with hx | hx
    · exact t hx
    · exact d hx
  · simp only [List.mem_append, List.mem_singleton] at hx
    rcases hx with (hx | rfl) | hx
    · exact t hx
    · exact hc
    · exact d hx
  · simp only [List.mem_append] at hx
    rcases hx with (hx | hx) | hx
    · exact t hx
    · exact d (List.mem_of_mem_take hx)
    · exact d hx
def pSpo (ds : List D) (d : D) : Prop := ∃ (l : List Nat) (kind pl k : Int), ds = [.str (S l), .int kind, .int pl, .int k] ∧ l.length ≤ 100 ∧ d = .str (S (spo l kind (pl % (l.length + 1 : Nat)).toNat (sgn k)))
section
variable {T : List (Addr × Str)} {P : Program} {w : World} {K : PySem.W.Frag} {mg : Str → Option Value} {base : Heap} {C CN f : Addr} {fd : FuncData}
theorem ok_is (F : Fun K "_law_is" "_law_is" sIs f fd) (R : Rt K mg C) : FnOk P w K mg base CX0 1 f fd ["_law_number", "_law_x"] (spD T K 2 (pIs C)) := by
  refine fd_ok F scIs rfl fun cdv A outer s H E ds d hr _ ⟨t, b, e1, e2⟩ => ?_
  subst e1; subst e2
  by_cases hb : b = 1
  · subst hb
    have e : numD C t 1 = .int t := if_pos rfl
    rw [e]
    refine svs_cons (sv_if (t := true) (TV.cast (tv_eqI (ev_ixT (d := .int 1) ⟨1, rfl, rfl⟩ (ev_var 1 rfl) ev_int) ev_int) rfl) (fun _ => svs_one (sv_ret (EV.cast (ev_andB (t := true) (u := true) (ev_isT (ev_var 0 rfl) rfl trivial (kit_ty (show kitB "int" "int" = some true by decide +kernel)) R.bInt (by decide +kernel) R.bIs) fun _ => EV.cast (ev_andB (t := true) (u := true) (EV.cast (ev_not (ev_isT (ev_var 0 rfl) rfl trivial (kit_ty (show kitB "int" "bool" = some false by decide +kernel)) R.bBool (by decide +kernel) R.bIs)) rfl) fun _ => ev_one (EV.cast (ev_eqI (ev_var 0 rfl) (ev_ixT (d := .int t) ⟨0, rfl, rfl⟩ (ev_var 1 rfl) ev_int)) (by simp))) rfl) rfl) rfl)) fun z => nomatch z)
  · have e : numD C t b = rat C t b := if_neg hb
    rw [e]
    refine svs_cons (sv_if (t := false) (TV.cast (tv_eqI (ev_ixT (d := .int b) ⟨1, rfl, rfl⟩ (ev_var 1 rfl) ev_int) ev_int) (decide_eq_false (by omega))) (fun z => nomatch z) fun _ => svs_nil (svs_one (sv_ret (EV.cast (ev_andB (t := true) (ev_isO (ev_var 0 rfl) rfl R.ik R.kR R.mgR R.bIs) fun _ => ev_one (ev_cmpD (opD_eq hr) (ev_tup (evs_cons (ev_fld (d := .int t) (ev_var 0 rfl) R.ik.cl R.nt 0 rfl rfl (by decide)) (evs_cons (ev_fld (d := .int b) (ev_var 0 rfl) R.ik.cl R.nb 1 rfl rfl (by decide)) evs_nil))) (ev_var 1 rfl) ⟨_, _, rfl, rfl, rfl, rfl, rfl⟩)) (by rw [eqv_pr]; simp)) rfl)))
theorem ok_ntx (F : Fun K "_law_number_text" "_law_number_text" sNtx f fd) (hS : mg "str" = none) : FnOk P w K mg base CX0 1 f fd ["_law_x"] (spD T K 1 pNtx) := by
  refine fd_ok F scNtx rfl fun cdv A outer s H E ds d hr _ ⟨t, b, e1, h1, h2, e2⟩ => ?_
  subst e1; subst e2
  have st := smI h1
  have sb : Sm (b : Int) := smI (by rw [Int.natAbs_natCast]; exact h2)
  by_cases hb : b = 1
  · subst hb
    exact svs_cons (sv_if (t := true) (TV.cast (tv_eqI (ev_ixT (d := .int 1) ⟨1, rfl, rfl⟩ (ev_var 0 rfl) ev_int) ev_int) rfl) (fun _ => svs_one (sv_ret (EV.cast (ev_strI (sm_log1 st) (ev_ixT (d := .int t) ⟨0, rfl, rfl⟩ (ev_var 0 rfl) ev_int) hS) (congrArg D.str (sI_S t))) rfl)) fun z => nomatch z)
  · have l1 : (iT t).length ≤ 130 := by rw [← len_S, ← sI_S]; exact sI_len st
    have l2 : (nT b).length ≤ 130 := by rw [← iT_nat, ← len_S, ← sI_S]; exact sI_len sb
    have l3 : (Str.ofString "/").length = 1 := by decide
    have e3 : Str.ofString "/" = S [47] := by decide
    refine svs_cons (sv_if (t := false) (TV.cast (tv_eqI (ev_ixT (d := .int b) ⟨1, rfl, rfl⟩ (ev_var 0 rfl) ev_int) ev_int) (decide_eq_false (by omega))) (fun z => nomatch z) fun _ => svs_nil (svs_one (sv_ret (EV.cast (ev_addS (x := S (iT t ++ [47])) (y := S (nT b)) (by rw [len_S, len_S, List.length_append, sizeLine_eq]; simp; omega) (EV.cast (ev_addS (x := S (iT t)) (y := S [47]) (by rw [len_S, len_S, sizeLine_eq]; simp; omega) (EV.cast (ev_strI (sm_log1 st) (ev_ixT (d := .int t) ⟨0, rfl, rfl⟩ (ev_var 0 rfl) ev_int) hS) (congrArg D.str (sI_S t))) (EV.cast ev_str (by rw [e3]))) (by rw [S_app])) (EV.cast (ev_strI (sm_log1 sb) (ev_ixT (d := .int b) ⟨1, rfl, rfl⟩ (ev_var 0 rfl) ev_int) hS) (congrArg D.str ((sI_S _).trans (by rw [iT_nat]))))) (by rw [S_app]; unfold numT; rw [if_neg hb]; simp)) rfl)))
theorem ok_sign (F : Fun K "_law_sign" "_law_sign" sSign f fd) : FnOk P w K mg base CX0 1 f fd ["_law_k"] (spD T K 1 pSign) := by
  refine fd_ok F scSign rfl fun cdv A outer s H E ds d hr _ ⟨k, e1, e2⟩ => ?_
  subst e1; subst e2
  have h := Int.emod_lt_of_pos k (show (0 : Int) < 95 by decide)
  have h0 := Int.emod_nonneg k (show (95 : Int) ≠ 0 by decide)
  have hl : (k % 95).toNat < SIG.length := by rw [sig_len]; omega
  refine svs_cons (sv_set 1 (d := .str sgA) ev_str ?_ scSign.nd)
  refine svs_cons (sv_set 1 (d := .str (S SIG)) (EV.cast (ev_addS (x := sgA) (y := sgB) (by have := sigA_len; rw [sizeLine_eq]; omega) (ev_var 1 rfl) ev_str) (by rw [sig_a])) ?_ scSign.nd)
  refine svs_one (sv_ret (ev_sign (x := S SIG) ⟨(k % 95).toNat, by omega, ?_⟩ (by rw [len_S, sig_len]; decide) (ev_var 1 rfl) (ev_mod (by decide) (ev_var 0 rfl) ev_int)) rfl)
  show SIG[(k % 95).toNat]? = some (sgn k)
  unfold sgn
  rw [List.getD_eq_getElem?_getD, List.getElem?_eq_getElem hl]; rfl
end
end K03

set_option Elab.async false
set_option linter.all false
set_option maxRecDepth 100000
set_option maxHeartbeats 4000000
/-! K03h: the law's spoilt texts, its digits, its reading. -/
namespace K03
open PySem PySem.Spec PyProof.Rows L2 Fd Tx Nm PySem.NumText
def sRd : Stmt := top 29
def sDg : Stmt := top 30
def sLt : Stmt := top 31
def sDue : Stmt := top 32
def rN' : List Str := ["_law_text", "_law_body", "_law_parts", "_law_upper", "_law_lower", "_law_part"]
theorem scRd : FnScope rN' ["_law_text"] (defScope sRd) := ⟨rfl, rfl, rfl, by decide +kernel, rfl, by decide +kernel, by decide +kernel⟩
theorem scDg : FnScope ["_law_part", "_law_sign_here"] ["_law_part"] (defScope sDg) := ⟨rfl, rfl, rfl, by decide +kernel, rfl, by decide +kernel, by decide +kernel⟩
theorem scLt : FnScope ["_law_text", "e"] ["_law_text"] (defScope sLt) := ⟨rfl, rfl, rfl, by decide +kernel, rfl, by decide +kernel, by decide +kernel⟩
theorem scDue : FnScope ["_law_text", "_law_due", "_law_told_here"] ["_law_text"] (defScope sDue) := ⟨rfl, rfl, rfl, by decide +kernel, rfl, by decide +kernel, by decide +kernel⟩
def pDg (ds : List D) (d : D) : Prop := ∃ l, ds = [.str (S l)] ∧ l.length ≤ 200 ∧ d = .bl (canB l)
def outS (l : List Nat) : List D := (l.filter fun c => !decide (48 ≤ c ∧ c ≤ 57)).map fun c => .str ⟨#[c]⟩
section
variable {T : List (Addr × Str)} {P : Program} {w : World} {K : PySem.W.Frag} {mg : Str → Option Value} {base : Heap} {C CN f : Addr} {fd : FuncData}
theorem ok_spo (F : Fun K "_law_spoilt" "_law_spoilt" sSpo f fd) (G : FD T P w K mg base "_law_sign" 1 1 pSign) (hL : mg "len" = none) : FnOk P w K mg base CX0 2 f fd ["_law_text", "_law_kind", "_law_place", "_law_k"] (spD T K 4 pSpo) := by
  refine fd_ok F scSpo rfl fun cdv A outer s H E ds d hr _ ⟨l, kind, pl, k, e1, hl, e2⟩ => ?_
  subst e1; subst e2
  have hm : 0 < ((l.length + 1 : Nat) : Int) := by omega
  have h0 := Int.emod_nonneg pl (show ((l.length + 1 : Nat) : Int) ≠ 0 by omega)
  have h1 := Int.emod_lt_of_pos pl hm
  obtain ⟨n, hn, hnl⟩ : ∃ n : Nat, pl % (l.length + 1 : Nat) = n ∧ n ≤ l.length := ⟨(pl % (l.length + 1 : Nat)).toNat, by omega, by omega⟩
  have et : (pl % (l.length + 1 : Nat)).toNat = n := by omega
  rw [et]
  refine svs_cons (sv_set 4 (d := .int (n : Int)) (EV.cast (ev_mod hm (ev_var 2 rfl) (EV.cast (ev_add (ev_len (n := l.length) (by show (if (S l).length ≤ sizeLine then some (S l).length else none) = some l.length; rw [if_pos (by rw [len_S, sizeLine_eq]; omega), len_S]) (ev_var 0 rfl) hL) ev_int) (by rfl))) (congrArg D.int hn)) ?_ scSpo.nd)
  have zl : ∀ a : List Nat, a.length ≤ 200 → (S a).length ≤ 100000 := fun a h => by rw [len_S]; omega
  have z0 := zl l (by omega)
  have lim : ∀ a b : List Nat, a.length ≤ 1000 → b.length ≤ 1000 → (S a).length + (S b).length ≤ sizeLine := fun a b h1 h2 => by rw [len_S, len_S, sizeLine_eq]; omega
  have ltk : ∀ m, (l.take m).length ≤ 100 := fun m => by rw [List.length_take]; omega
  have ldr : ∀ m, (l.drop m).length ≤ 100 := fun m => by rw [List.length_drop]; omega
  have es : (1 : Int) = ((1 : Nat) : Int) := rfl
  refine svs_cons (sv_if (tv_eqI (ev_var 1 rfl) ev_int) (fun h => ?_) fun h => svs_nil ?_)
  · have hk : kind = 0 := by simpa using h
    refine svs_one (sv_ret (ev_var 0 rfl) ?_)
    show D.str _ = D.str _
    unfold spo; rw [if_pos hk]
  have k0 : kind ≠ 0 := by simpa using h
  refine svs_cons (sv_if (tv_eqI (ev_var 1 rfl) ev_int) (fun h => ?_) fun h => svs_nil ?_)
  · have hk : kind = 1 := by simpa using h
    refine svs_one (sv_ret (EV.cast (ev_addS (x := S (l.take n ++ [sgn k])) (y := S (l.drop n)) (lim _ _ (by have := ltk n; simp; omega) (by have := ldr n; omega)) (EV.cast (ev_addS (x := S (l.take n)) (y := S [sgn k]) (lim _ _ (by have := ltk n; omega) (by simp)) (EV.cast (ev_cut z0 (ev_var 0 rfl) pv_none (pv_some (ev_var 4 rfl))) (by rw [cut_take hnl])) (ev_call G hr (evs_cons (ev_var 3 rfl) evs_nil) ⟨k, rfl, rfl⟩)) (by rw [S_app])) (EV.cast (ev_cut z0 (ev_var 0 rfl) (pv_some (ev_var 4 rfl)) pv_none) (by rw [cut_drop]))) (by rw [S_app])) ?_)
    show D.str _ = D.str _
    unfold spo; rw [if_neg k0, if_pos hk]
  have k1 : kind ≠ 1 := by simpa using h
  refine svs_cons (sv_if (tv_eqI (ev_var 1 rfl) ev_int) (fun h => ?_) fun h => svs_nil ?_)
  · have hk : kind = 2 := by simpa using h
    refine svs_one (sv_ret (EV.cast (ev_addS (x := S (l.take n)) (y := S (l.drop (n + 1))) (lim _ _ (by have := ltk n; omega) (by have := ldr (n + 1); omega)) (EV.cast (ev_cut z0 (ev_var 0 rfl) pv_none (pv_some (ev_var 4 rfl))) (by rw [cut_take hnl])) (EV.cast (ev_cut z0 (ev_var 0 rfl) (pv_some (i := ((n + 1 : Nat) : Int)) (EV.cast (ev_add (ev_var 4 rfl) ev_int) rfl)) pv_none) (by rw [cut_drop]))) (by rw [S_app])) ?_)
    show D.str _ = D.str _
    unfold spo; rw [if_neg k0, if_neg k1, if_pos hk]
  have k2 : kind ≠ 2 := by simpa using h
  refine svs_cons (sv_if (tv_eqI (ev_var 1 rfl) ev_int) (fun h => ?_) fun h => svs_nil ?_)
  · have hk : kind = 3 := by simpa using h
    refine svs_one (sv_ret (EV.cast (ev_addS (x := S (l.take n ++ [sgn k])) (y := S (l.drop (n + 1))) (lim _ _ (by have := ltk n; simp; omega) (by have := ldr (n + 1); omega)) (EV.cast (ev_addS (x := S (l.take n)) (y := S [sgn k]) (lim _ _ (by have := ltk n; omega) (by simp)) (EV.cast (ev_cut z0 (ev_var 0 rfl) pv_none (pv_some (ev_var 4 rfl))) (by rw [cut_take hnl])) (ev_call G hr (evs_cons (ev_var 3 rfl) evs_nil) ⟨k, rfl, rfl⟩)) (by rw [S_app])) (EV.cast (ev_cut z0 (ev_var 0 rfl) (pv_some (i := ((n + 1 : Nat) : Int)) (EV.cast (ev_add (ev_var 4 rfl) ev_int) rfl)) pv_none) (by rw [cut_drop]))) (by rw [S_app])) ?_)
    show D.str _ = D.str _
    unfold spo; rw [if_neg k0, if_neg k1, if_neg k2, if_pos hk]
  have k3 : kind ≠ 3 := by simpa using h
  refine svs_one (sv_ret (EV.cast (ev_addS (x := S (l.take n ++ (l.drop n).take 1)) (y := S (l.drop n)) (lim _ _ (by have := ltk n; have := ldr n; simp only [List.length_append, List.length_take]; omega) (by have := ldr n; omega)) (EV.cast (ev_addS (x := S (l.take n)) (y := S ((l.drop n).take 1)) (lim _ _ (by have := ltk n; omega) (by have := ldr n; rw [List.length_take]; omega)) (EV.cast (ev_cut z0 (ev_var 0 rfl) pv_none (pv_some (ev_var 4 rfl))) (by rw [cut_take hnl])) (EV.cast (ev_cut z0 (ev_var 0 rfl) (pv_some (ev_var 4 rfl)) (pv_some (i := ((n + 1 : Nat) : Int)) (EV.cast (ev_add (ev_var 4 rfl) ev_int) rfl))) (by rw [cut_mid hnl]))) (by rw [S_app])) (EV.cast (ev_cut z0 (ev_var 0 rfl) (pv_some (ev_var 4 rfl)) pv_none) (by rw [cut_drop]))) (by rw [S_app])) ?_)
  show D.str _ = D.str _
  unfold spo; rw [if_neg k0, if_neg k1, if_neg k2, if_neg k3]
theorem outs_not (l : List Nat) : outs (fun d => match d with | .str s => s.cps.toList.all fun c => !decide (48 ≤ c ∧ c ≤ 57) | _ => false) (fun d => d) (Fd.signs (S l)) = outS l := by
  unfold outs outS Fd.signs
  rw [show (S l).cps.toList = l from rfl]
  induction l with
  | nil => rfl
  | cons c r ih =>
    rw [List.map_cons, List.filter_cons, List.filter_cons]
    have e : (match (D.str ⟨#[c]⟩) with | .str s => s.cps.toList.all fun c => !decide (48 ≤ c ∧ c ≤ 57) | _ => false) = !decide (48 ≤ c ∧ c ≤ 57) := by simp
    rw [e]
    by_cases q : (!decide (48 ≤ c ∧ c ≤ 57)) = true
    · rw [if_pos q, if_pos q, List.map_cons, List.map_cons]
      exact congrArg _ ih
    · rw [if_neg q, if_neg q]
      exact ih
theorem outS_py (l : List Nat) : ∃ ps, D.pys (outS l) = some ps ∧ ps = (l.filter fun c => !decide (48 ≤ c ∧ c ≤ 57)).map (fun c => .str ⟨#[c]⟩) := by
  unfold outS
  induction (l.filter fun c => !decide (48 ≤ c ∧ c ≤ 57)) with
  | nil => exact ⟨_, rfl, rfl⟩
  | cons c r ih =>
    obtain ⟨ps, h1, h2⟩ := ih
    refine ⟨.str ⟨#[c]⟩ :: ps, ?_, by rw [h2]; rfl⟩
    rw [List.map_cons]
    unfold D.pys
    rw [h1]; rfl
end
end K03

set_option Elab.async false
set_option linter.all false
set_option maxRecDepth 100000
set_option maxHeartbeats 4000000
/-! K03i: the law's digits and its reading. -/
namespace K03
open PySem PySem.Spec PyProof.Rows L2 Fd Tx Nm PySem.NumText
def As (l : List Nat) : Prop := ∀ c ∈ l, c < 128
theorem strOk_S {l : List Nat} (h : As l) : PyData.strOk (S l) = true := by
  unfold PyData.strOk
  rw [Array.all_eq_true']
  intro c hc
  have : c ∈ l := by
    have h2 : c ∈ (Tx.S l).cps.toList := Array.mem_toList_iff.mpr hc
    exact h2
  exact decide_eq_true (by have := h c this; omega)
theorem shaped_strs : ∀ {cs : List Nat}, As cs → PyData.canLayAll0 (cs.map fun c => PyData.str ⟨#[c]⟩) = true ∧ PyData.depthAll (cs.map fun c => PyData.str ⟨#[c]⟩) = 0
  | [], _ => ⟨rfl, rfl⟩
  | c :: r, h => by
    obtain ⟨h1, h2⟩ := shaped_strs (cs := r) fun d hd => h d (List.mem_cons_of_mem _ hd)
    have hc := h c List.mem_cons_self
    refine ⟨?_, ?_⟩
    · rw [List.map_cons]
      unfold PyData.canLayAll0
      rw [h1, Bool.and_true]
      unfold PyData.canLay0
      exact strOk_S (l := [c]) fun d hd => by simp at hd; subst hd; exact hc
    · rw [List.map_cons]
      unfold PyData.depthAll
      rw [h2]
      rfl
theorem shaped_lst {cs : List Nat} (h : As cs) : SeqAt.shaped (.list (cs.map fun c => PyData.str ⟨#[c]⟩)) = true := by
  obtain ⟨h1, h2⟩ := shaped_strs h
  unfold SeqAt.shaped PyData.canLay0
  rw [h1]
  have : PyData.depth (.list (cs.map fun c => PyData.str ⟨#[c]⟩)) = 1 := by
    unfold PyData.depth
    rw [h2]
  rw [this]; rfl
theorem eqv_nil (ps : List PyData) : PyData.eqv (.list ps) (.list []) = ps.isEmpty := by
  cases ps <;> rfl
theorem flt_empty (l : List Nat) : (l.filter fun c => !decide (48 ≤ c ∧ c ≤ 57)).isEmpty = l.all fun c => decide (48 ≤ c ∧ c ≤ 57) := by
  induction l with
  | nil => rfl
  | cons c r ih =>
    rw [List.filter_cons, List.all_cons]
    cases decide (48 ≤ c ∧ c ≤ 57) with
    | true => simpa using ih
    | false => rfl
def pDg' (ds : List D) (d : D) : Prop := ∃ l, ds = [.str (S l)] ∧ l.length ≤ 200 ∧ As l ∧ d = .bl (canB l)
theorem S_eq {a b : List Nat} {x : Str} (h : x = S b) : decide (S a = x) = decide (a = b) := by subst h; exact decide_eq_decide.mpr ⟨fun h => S_inj h, fun h => by rw [h]⟩
theorem e_0 : Str.ofString "0" = S [48] := by decide
theorem e_m : Str.ofString "-" = S [45] := by decide
section
variable {T : List (Addr × Str)} {P : Program} {w : World} {K : PySem.W.Frag} {mg : Str → Option Value} {base : Heap} {C CN f : Addr} {fd : FuncData}
theorem ok_dg (F : Fun K "_law_digits" "_law_digits" sDg f fd) : FnOk P w K mg base CX0 1 f fd ["_law_part"] (spD T K 1 pDg') := by
  refine fd_ok F scDg rfl fun cdv A outer s H E ds d hr _ ⟨l, e1, hl, ha, e2⟩ => ?_
  subst e1; subst e2
  obtain ⟨ps, hp, eps⟩ := outS_py l
  have haf : As (l.filter fun c => !decide (48 ≤ c ∧ c ≤ 57)) := fun c hc => ha c (List.mem_filter.mp hc).1
  refine svs_cons (sv_if (t := !digL l) (TV.cast (TW.tv (tw_orB (tv_eqS (ev_var 0 rfl) ev_str) fun _ => tw_or1 (tv_neD (p := .list ps) (q := .list []) hr (EV.cast (ev_lc [("_law_sign_here", 1)] (.one 1) (fun d => match d with | .str s => s.cps.toList.all fun c => !decide (48 ≤ c ∧ c ≤ 57) | _ => false) (fun d => d) (iv_str (ev_var 0 rfl))
    (id (α := BlkOk ["_law_part", "_law_sign_here"] (defScope sDg) _ [("_law_sign_here", 1)]) ⟨rfl, by decide +kernel, by decide +kernel, by decide +kernel, by decide +kernel⟩)
    (fun s H C cl fp => pg_name (i := 1) scDg.nd rfl (Or.inl rfl)) (fun s H C' cl fp y hy => ?_) (fun s H C' cl fp y hy hk => ?_) scDg.nd (fun _ _ => rfl) (by show ((S l).cps.toList.map _).length ≤ _; rw [List.length_map, show (S l).cps.toList = l from rfl]; omega)) (congrArg D.lst (outs_not l))) (ev_lst evs_nil) (by unfold D.py; rw [hp]; rfl) rfl (by rw [eps]; exact shaped_lst haf) rfl))) ?_) (fun h => ?_) fun h => svs_nil ?_)
  · obtain ⟨c, _, rfl⟩ := List.mem_map.mp hy
    refine ts_one (TV.cast (tv_notInC (ev_var 1 rfl) ev_str) ?_)
    have := mem_dig c
    show (!decide (c ∈ DIG.cps.toList)) = _
    rw [this]; simp
  · obtain ⟨c, _, rfl⟩ := List.mem_map.mp hy
    exact ev_var 1 rfl
  · rw [S_nil, eqv_nil, eps]
    unfold digL
    have := flt_empty l
    rw [← this]
    cases l.isEmpty <;> cases (l.filter fun c => !decide (48 ≤ c ∧ c ≤ 57)) <;> rfl
  · refine svs_one (sv_ret ev_bl ?_)
    show D.bl false = D.bl (canB l)
    unfold canB
    have : digL l = false := by simpa using h
    rw [this]; rfl
  · have hd : digL l = true := by simpa using h
    obtain ⟨hn, had⟩ := digL_iff.mp hd
    cases l with
    | nil => exact absurd rfl hn
    | cons c r =>
      refine svs_one (sv_ret (EV.cast (ev_orB (ev_eqS (ev_var 0 rfl) ev_str) fun _ => ev_one (ev_neS (ev_sign (c := c) ⟨0, rfl, rfl⟩ (by rw [len_S]; omega) (ev_var 0 rfl) ev_int) ev_str)) ?_) rfl)
      show D.bl _ = D.bl (canB (c :: r))
      congr 1
      unfold canB
      rw [hd, Bool.true_and, S_eq e_0, show (⟨#[c]⟩ : Str) = S [c] from rfl, S_eq e_0]
      congr 1
      by_cases q : c = 48 <;> simp [q]
end
end K03

set_option Elab.async false
set_option linter.all false
set_option maxRecDepth 100000
set_option maxHeartbeats 4000000
/-! K03j: the law's reading of a text. -/
namespace K03
open PySem PySem.Spec PyProof.Rows L2 Fd Tx Nm PySem.NumText
def lawD : Option (Int × Nat) → D
  | some (t, b) => pr t b
  | none => .non
def pRd (ds : List D) (d : D) : Prop := ∃ l, ds = [.str (S l)] ∧ l.length ≤ 100 ∧ As l ∧ d = lawD (lawR l)
theorem take1_minus (l : List Nat) : decide (S (l.take 1) = Str.ofString "-") = ng l := by
  rw [S_eq e_m]
  unfold ng
  cases l with
  | nil => rfl
  | cons c r => by_cases q : c = 45 <;> simp [q]
/-- what the comprehension over the parts tells -/
def dgF : D → D
  | .str s => .bl (canB s.cps.toList)
  | _ => .non
theorem ev_ixLast {T : List (Addr × Str)} {X : Cx} {ss : SS} {a b : Expr} {pos : Pos} {xs : List D} {d x : D} (hx : xs = [x, d]) (ha : EV T X a ss (.lst xs)) (hb : EV T X b ss (.int (-1))) (hs : PlainIx b := by exact fun _ _ => rfl) : EV T X (.Subscript a b pos) ss d :=
  EV.of (pe_ix ix_list ha hb hs) fun B F H σ Q R q => ev_go R fun v F1 H1 n1 R1 i1 => ev_go R1 fun u F2 H2 n2 R2 i2 => by
    subst hx
    obtain ⟨p, vs, rfl, e2, e3⟩ := i1
    obtain ⟨w1, w2, rfl, _, iw⟩ := isL2 e3
    exact ⟨p, _, _, w2, rfl, i2, SqL.of (R2.sub _ _ (n2.f _ _ e2)), atI_last [w1] w2, q _ _ _ (n1.trans n2) R2 (Is.mono n2.f _ iw)⟩
structure RdE (T : List (Addr × Str)) (P : Program) (w : World) (K : PySem.W.Frag) (mg : Str → Option Value) (base : Heap) : Prop where
  dg : FD T P w K mg base "_law_digits" 1 1 pDg'
  sh : FD T P w K mg base "_law_share" 2 1 pShare
  bLen : mg "len" = none
  bAll : mg "all" = none
  bInt : mg "int" = none
section
variable {T : List (Addr × Str)} {P : Program} {w : World} {K : PySem.W.Frag} {mg : Str → Option Value} {base : Heap} {f : Addr} {fd : FuncData} {A : Around} {outer : List Env} {s : Shared} {H : Hp} {E : XK} {Q : Post} {cdv : Value}
abbrev rX (P : Program) (w : World) (K : PySem.W.Frag) (mg : Str → Option Value) (base : Heap) (f : Addr) (cdv : Value) (A : Around) (outer : List Env) (s : Shared) (H : Hp) (E : XK) : Cx := bodyX CX0 P w K mg base rN' "_law_read" sRd f cdv A outer s H E
def rdT (neg : Bool) (u v n : Nat) : Option (Int × Nat) := if v = 0 ∨ (n = 2 ∧ v = 1) ∨ (1 < Nat.gcd u v ∧ n = 2) then none else if (neg = true ∧ u = 0) ∨ (u = 0 ∧ n = 2) then none else some (sg neg u, v)
theorem read_tail (V : RdE T P w K mg base) (hr : Room 1 (rX P w K mg base f cdv A outer s H E).A) {l : List Nat} {ps : List D} {u v : Nat} {s1 s5 : Fd.S} (hl : l.length ≤ 100) (hps : ps.length ≤ 100) (k : Q.rt (lawD (rdT (ng l) u v ps.length))) :
    SVs T (rX P w K mg base f cdv A outer s H E) ((defBody sRd).drop 4) [.d (.str (S l)), s1, .d (.lst ps), .d (.int u), .d (.int v), s5] Q := by
  have z0 : (S l).length ≤ 100000 := by rw [len_S]; omega
  have e1 : (1 : Int) = ((1 : Nat) : Int) := rfl
  have elen : D.len (.lst ps) = some ps.length := rfl
  refine svs_cons (sv_if (t := decide (v = 0 ∨ (ps.length = 2 ∧ v = 1) ∨ (1 < Nat.gcd u v ∧ ps.length = 2))) (TV.cast (TW.tv (tw_orB (tv_eqI (ev_var 4 rfl) ev_int) fun _ => tw_orB (TW.tv (tw_andB (tv_eqI (ev_len elen (ev_var 2 rfl) V.bLen) ev_int) fun _ => tw_and1 (tv_eqI (ev_var 4 rfl) ev_int))) fun _ => tw_or1 (TW.tv (tw_andB (tv_gt (ev_call V.sh hr (evs_cons (ev_var 3 rfl) (evs_cons (ev_var 4 rfl) evs_nil)) ⟨u, v, rfl, rfl⟩) ev_int) fun _ => tw_and1 (tv_eqI (ev_len elen (ev_var 2 rfl) V.bLen) ev_int))))) ?_) (fun h => ?_) fun h => svs_nil ?_)
  · rw [Int.natAbs_natCast, Int.natAbs_natCast, Bool.eq_iff_iff]
    simp only [Bool.or_eq_true, Bool.and_eq_true, decide_eq_true_eq]
    constructor
    · rintro (h | ⟨h1, h2⟩ | ⟨h1, h2⟩)
      · exact .inl (Int.ofNat.inj h)
      · exact .inr (.inl ⟨Int.ofNat.inj h1, Int.ofNat.inj h2⟩)
      · exact .inr (.inr ⟨Int.ofNat_lt.mp h1, Int.ofNat.inj h2⟩)
    · rintro (h | ⟨h1, h2⟩ | ⟨h1, h2⟩)
      · exact .inl (congrArg Int.ofNat h)
      · exact .inr (.inl ⟨congrArg Int.ofNat h1, congrArg Int.ofNat h2⟩)
      · exact .inr (.inr ⟨Int.ofNat_lt.mpr h1, congrArg Int.ofNat h2⟩)
  · refine svs_one (sv_ret ev_non ?_)
    have e : rdT (ng l) u v ps.length = none := if_pos (of_decide_eq_true h)
    rw [e] at k; exact k
  · have h4 := of_decide_eq_false h
    refine svs_cons (sv_if (t := decide ((ng l = true ∧ u = 0) ∨ (u = 0 ∧ ps.length = 2))) (TV.cast (TW.tv (tw_orB (TW.tv (tw_andB (t := ng l) (TV.cast (tv_eqS (EV.cast (ev_cut z0 (ev_var 0 rfl) pv_none (pv_some ev_int)) (congrArg D.str (cut_head l))) ev_str) (take1_minus l)) fun _ => tw_and1 (tv_eqI (ev_var 3 rfl) ev_int))) fun _ => tw_or1 (TW.tv (tw_andB (tv_eqI (ev_var 3 rfl) ev_int) fun _ => tw_and1 (tv_eqI (ev_len elen (ev_var 2 rfl) V.bLen) ev_int))))) ?_) (fun h => ?_) fun h => svs_nil ?_)
    · rw [Bool.eq_iff_iff]
      simp only [Bool.or_eq_true, Bool.and_eq_true, decide_eq_true_eq]
      constructor
      · rintro (⟨h1, h2⟩ | ⟨h1, h2⟩)
        · exact .inl ⟨h1, Int.ofNat.inj h2⟩
        · exact .inr ⟨Int.ofNat.inj h1, Int.ofNat.inj h2⟩
      · rintro (⟨h1, h2⟩ | ⟨h1, h2⟩)
        · exact .inl ⟨h1, congrArg Int.ofNat h2⟩
        · exact .inr ⟨congrArg Int.ofNat h1, congrArg Int.ofNat h2⟩
    · refine svs_one (sv_ret ev_non ?_)
      have e : rdT (ng l) u v ps.length = none := by unfold rdT; rw [if_neg h4, if_pos (of_decide_eq_true h)]
      rw [e] at k; exact k
    · have h5 := of_decide_eq_false h
      have e : rdT (ng l) u v ps.length = some (sg (ng l) u, v) := by unfold rdT; rw [if_neg h4, if_neg h5]
      rw [e] at k
      refine svs_one (sv_ret (ev_tup (evs_cons (d := .int (sg (ng l) u)) (ev_if (t := ng l) (TV.cast (tv_eqS (EV.cast (ev_cut z0 (ev_var 0 rfl) pv_none (pv_some ev_int)) (congrArg D.str (cut_head l))) ev_str) (take1_minus l)) (fun hn => EV.cast (ev_neg (ev_var 3 rfl)) (by rw [hn]; rfl)) fun hn => EV.cast (ev_var 3 rfl) (by rw [hn]; rfl)) (evs_cons (ev_var 4 rfl) evs_nil))) k)
theorem As.bl {l : List Nat} (h : As l) : As (bl l) := by
  unfold Nm.bl
  split
  · exact fun c hc => h c (List.mem_of_mem_tail hc)
  · exact h
theorem ok_rd (F : Fun K "_law_read" "_law_read" sRd f fd) (V : RdE T P w K mg base) : FnOk P w K mg base CX0 2 f fd ["_law_text"] (spD T K 1 pRd) := by
  refine fd_ok F scRd rfl fun cdv A outer s H E ds d hr _ ⟨l, e1, hl, ha, e2⟩ => ?_
  subst e1; subst e2
  have z0 : (S l).length ≤ 100000 := by rw [len_S]; omega
  have hbl := bl_len l
  have hab := ha.bl
  refine svs_cons (sv_set 1 (d := .str (S (bl l))) (ev_if (t := ng l) (TV.cast (tv_eqS (EV.cast (ev_cut z0 (ev_var 0 rfl) pv_none (pv_some ev_int)) (congrArg D.str (cut_head l))) ev_str) (take1_minus l)) (fun hn => EV.cast (ev_cut z0 (ev_var 0 rfl) (pv_some ev_int) pv_none) ?_) fun hn => EV.cast (ev_var 0 rfl) ?_) ?_ scRd.nd)
  · rw [cut_tail, List.drop_one]
    unfold Nm.bl
    rw [if_pos (of_decide_eq_true hn)]
  · unfold Nm.bl
    rw [if_neg (of_decide_eq_false hn)]
  refine svs_cons (sv_set 2 (ev_split (by decide) (by rw [len_S]; omega) (ev_var 1 rfl) ev_str) ?_ scRd.nd)
  rw [show Str.ofString "/" = ("/" : Str) from rfl]

  by_cases h : 47 ∈ bl l
  · obtain ⟨p, q, e, hp⟩ := first h
    have lp : p.length ≤ 100 ∧ q.length ≤ 100 := by
      have := congrArg List.length e
      rw [List.length_append, List.length_cons] at this
      omega
    have hap : As p ∧ As q := by
      rw [e] at hab
      exact ⟨fun c hc => hab c (by simp [hc]), fun c hc => hab c (by simp [hc])⟩
    have er : lawR l = if 47 ∈ q then none else lawTwo (ng l) p q := by
      unfold lawR
      rw [if_pos h, e, cutp_yes hp]
    rw [er]
    by_cases hq : 47 ∈ q
    · rw [if_pos hq, e]
      have hm := split_many hp hq
      refine svs_cons (sv_if (t := true) (TW.tv (tw_orB (t := true) (u := false) (TV.cast (tv_gt (ev_len (n := (Txt.split (S (p ++ 47 :: q)) "/").length) (by show some _ = some _; rw [List.length_map]) (ev_var 2 rfl) V.bLen) ev_int) (decide_eq_true (by omega))) fun z => nomatch z)) (fun _ => svs_one (sv_ret ev_non rfl)) fun z => nomatch z)
    · rw [if_neg hq, e, split_two hp hq]
      refine svs_cons (sv_if (t := !(canB p && canB q)) (TV.cast (TW.tv (tw_orB (t := false) (TV.cast (tv_gt (ev_len (n := 2) rfl (ev_var 2 rfl) V.bLen) ev_int) (by decide)) fun _ => tw_or1 (tv_not (tv_of (ev_all (bs := [canB p, canB q]) (EV.cast (ev_lc [("_law_part", 5)] (.one 5) (fun _ => true) dgF (iv_list (ev_var 2 rfl))
        (id (α := BlkOk rN' (defScope sRd) _ [("_law_part", 5)]) ⟨rfl, by decide +kernel, by decide +kernel, by decide +kernel, by decide +kernel⟩)
        (fun s H C cl fp => pg_name (i := 5) scRd.nd rfl (Or.inl rfl)) (fun s H C' cl fp y hy => ts_nil) (fun s H C' cl fp y hy hk => ?_) scRd.nd (fun _ _ => rfl) (Nat.le_of_ble_eq_true rfl)) rfl) V.bAll))))) ?_) (fun hz => ?_) fun hz => svs_nil ?_)
      · have hy' : y = .str (S p) ∨ y = .str (S q) := by simpa using hy
        rcases hy' with rfl | rfl
        · exact ev_call V.dg hr (evs_cons (ev_var 5 rfl) evs_nil) ⟨p, rfl, by omega, hap.1, rfl⟩
        · exact ev_call V.dg hr (evs_cons (ev_var 5 rfl) evs_nil) ⟨q, rfl, by omega, hap.2, rfl⟩
      · cases canB p <;> cases canB q <;> rfl
      · refine svs_one (sv_ret ev_non ?_)
        have : lawTwo (ng l) p q = none := by
          unfold lawTwo
          rw [if_neg (by intro w; rw [w] at hz; cases hz)]
        rw [this]; rfl
      · have hc : (canB p && canB q) = true := by simpa using hz
        have hc' := hc
        rw [Bool.and_eq_true, canB_iff, canB_iff] at hc
        refine svs_cons (sv_par 3 4 (d1 := .int (val p)) (d2 := .int (val q)) (evs_cons (ev_intS (int_S hc.1.2.1 hc.1.1 lp.1) (by rw [len_S]; omega) (ev_ixL ⟨0, rfl, rfl⟩ (ev_var 2 rfl) ev_int) V.bInt) (evs_cons (ev_if (t := true) (TV.cast (tv_eqI (ev_len (n := 2) rfl (ev_var 2 rfl) V.bLen) ev_int) (by decide)) (fun _ => ev_intS (int_S hc.2.2.1 hc.2.1 lp.2) (by rw [len_S]; omega) (ev_ixLast rfl (ev_var 2 rfl) (EV.cast (ev_neg ev_int) rfl)) V.bInt) fun z => nomatch z) evs_nil)) ?_ scRd.nd)
        refine read_tail V hr hl (by simp) ?_
        have : rdT (ng l) (val p) (val q) 2 = lawTwo (ng l) p q := by
          unfold rdT lawTwo
          rw [if_pos hc']
          by_cases z1 : val q = 0 ∨ val q = 1 ∨ 1 < Nat.gcd (val p) (val q) ∨ val p = 0
          · rw [if_pos z1]
            by_cases z2 : val q = 0 ∨ 2 = 2 ∧ val q = 1 ∨ 1 < Nat.gcd (val p) (val q) ∧ 2 = 2
            · rw [if_pos z2]
            · rw [if_neg z2, if_pos (by omega)]
          · rw [if_neg z1, if_neg (by omega), if_neg (by omega)]
        show lawD _ = lawD _
        rw [← this]; rfl
  · have er : lawR l = lawOne (ng l) (bl l) := by
      unfold lawR
      rw [if_neg h]
    rw [er, split_no h]
    refine svs_cons (sv_if (t := !canB (bl l)) (TV.cast (TW.tv (tw_orB (t := false) (TV.cast (tv_gt (ev_len (n := 1) rfl (ev_var 2 rfl) V.bLen) ev_int) (by decide)) fun _ => tw_or1 (tv_not (tv_of (ev_all (bs := [canB (bl l)]) (EV.cast (ev_lc [("_law_part", 5)] (.one 5) (fun _ => true) dgF (iv_list (ev_var 2 rfl))
      (id (α := BlkOk rN' (defScope sRd) _ [("_law_part", 5)]) ⟨rfl, by decide +kernel, by decide +kernel, by decide +kernel, by decide +kernel⟩)
      (fun s H C cl fp => pg_name (i := 5) scRd.nd rfl (Or.inl rfl)) (fun s H C' cl fp y hy => ts_nil) (fun s H C' cl fp y hy hk => ?_) scRd.nd (fun _ _ => rfl) (Nat.le_of_ble_eq_true rfl)) rfl) V.bAll))))) ?_) (fun hz => ?_) fun hz => svs_nil ?_)
    · have hy' : y = .str (S (bl l)) := by simpa using hy
      rcases hy' with rfl
      exact ev_call V.dg hr (evs_cons (ev_var 5 rfl) evs_nil) ⟨bl l, rfl, by omega, hab, rfl⟩
    · cases canB (bl l) <;> rfl
    · refine svs_one (sv_ret ev_non ?_)
      have : lawOne (ng l) (bl l) = none := by
        unfold lawOne
        rw [if_neg (by intro w; rw [w] at hz; cases hz)]
      rw [this]; rfl
    · have hc' : canB (bl l) = true := by simpa using hz
      have hc := canB_iff.mp hc'
      refine svs_cons (sv_par 3 4 (d1 := .int (val (bl l))) (d2 := .int ((1 : Nat) : Int)) (evs_cons (ev_intS (int_S hc.2.1 hc.1 (by omega)) (by rw [len_S]; omega) (ev_ixL ⟨0, rfl, rfl⟩ (ev_var 2 rfl) ev_int) V.bInt) (evs_cons (ev_if (t := false) (TV.cast (tv_eqI (ev_len (n := 1) rfl (ev_var 2 rfl) V.bLen) ev_int) (by decide)) (fun z => nomatch z) fun _ => ev_int) evs_nil)) ?_ scRd.nd)
      refine read_tail V hr hl (by simp) ?_
      have : rdT (ng l) (val (bl l)) 1 1 = lawOne (ng l) (bl l) := by
        unfold rdT lawOne
        rw [if_pos hc', if_neg (by omega)]
        by_cases z : ng l = true ∧ val (bl l) = 0
        · rw [if_pos (.inl z), if_pos (by rw [Bool.and_eq_true, decide_eq_true_iff]; exact z)]
        · rw [if_neg (fun w => w.elim z fun y => absurd y.2 (by decide)), if_neg (by rw [Bool.and_eq_true, decide_eq_true_iff]; exact z)]
      show lawD _ = lawD _
      rw [← this]; rfl
end
end K03

set_option Elab.async false
set_option linter.all false
set_option maxRecDepth 100000
set_option maxHeartbeats 4000000
/-! K03k: what is told of a text, and whether it is as due. -/
namespace K03
open PySem PySem.Spec PyProof.Rows L2 Fd Tx Nm PySem.NumText
def toD (C : Addr) (l : List Nat) : Option (Int × Nat) → D
  | some (t, b) => .tup [.str (Str.ofString "number"), numD C t b]
  | none => .tup [.str (Str.ofString "none"), .str (S l)]
def pLt (C : Addr) (ds : List D) (d : D) : Prop := ∃ l, ds = [.str (S l)] ∧ l.length ≤ 100 ∧ d = toD C l (prog l)
def pDue (ds : List D) (d : D) : Prop := ∃ l, ds = [.str (S l)] ∧ l.length ≤ 100 ∧ As l ∧ d = .bl true
structure XE' (K : PySem.W.Frag) (mg : Str → Option Value) (CN : Addr) : Prop where
  xf : XfC K CN
  no : PySem.W.findIn K (.ref CN) "text" = some none
  em : PySem.W.exmOne K (.ref CN) (.ref CN) = some true
  mg : mg "NoText" = some (.ref CN)
theorem shaped_pair {l : List Nat} (h : As l) : SeqAt.shaped (.tuple [.str (Str.ofString "none"), .str (S l)]) = true := by
  have h1 : PyData.strOk (Str.ofString "none") = true := by decide +kernel
  have h2 := strOk_S h
  unfold SeqAt.shaped
  have e : PyData.canLay0 (.tuple [.str (Str.ofString "none"), .str (S l)]) = true := by
    unfold PyData.canLay0 PyData.canLayAll0
    unfold PyData.canLay0 PyData.canLayAll0
    unfold PyData.canLay0 PyData.canLayAll0
    rw [h1, h2]; rfl
  rw [e]; rfl
theorem eqv_self (x : Str) : PyData.eqv (.tuple [.str (Str.ofString "none"), .str x]) (.tuple [.str (Str.ofString "none"), .str x]) = true := by
  simp [PyData.eqv, PyData.eqvAll]
section
variable {T : List (Addr × Str)} {P : Program} {w : World} {K : PySem.W.Frag} {mg : Str → Option Value} {base : Heap} {C CN f : Addr} {fd : FuncData}
theorem ok_lt (F : Fun K "_law_told" "_law_told" sLt f fd) (G : FD T P w K mg base "read_number" 1 5 (pRead C)) (GX : FY T P w K mg base "read_number" 1 5 (pReadX CN)) (XN : XE' K mg CN) : FnOk P w K mg base CX0 6 f fd ["_law_text"] (spD T K 1 (pLt C)) := by
  refine fd_ok F scLt rfl fun cdv A outer s H E ds d hr _ ⟨l, e1, hl, e2⟩ => ?_
  subst e1; subst e2
  cases hp : prog l with
  | some q =>
    obtain ⟨t, b⟩ := q
    exact svs_one (sv_tryN (svs_one (sv_ret (ev_tup (evs_cons ev_str (evs_cons (ev_call G hr (evs_cons (ev_var 0 rfl) evs_nil) ⟨l, t, b, rfl, hl, hp, rfl⟩) evs_nil))) rfl)))
  | none =>
    exact svs_one (sv_tryE (i := 1) (ds := [.str (S l)]) (C := CN) (f := "text") (z := S l) GX hr ⟨l, rfl, hl, hp, rfl⟩ (fun pn xe => evs_cons (ev_var 0 rfl) evs_nil) XN.xf XN.no XN.em XN.mg rfl rfl rfl scLt.nd rfl rfl (by show 1 < 2; decide) (Or.inl rfl) rfl rfl LamX.takes0)
theorem ok_due (F : Fun K "_law_as_due" "_law_as_due" sDue f fd) (GR : FD T P w K mg base "_law_read" 1 2 pRd) (GT : FD T P w K mg base "_law_told" 1 6 (pLt C)) (GI : FD T P w K mg base "_law_is" 2 1 (pIs C)) : FnOk P w K mg base CX0 7 f fd ["_law_text"] (spD T K 1 pDue) := by
  refine fd_ok F scDue rfl fun cdv A outer s H E ds d hr _ ⟨l, e1, hl, ha, e2⟩ => ?_
  subst e1; subst e2
  have hr2 := hr.mono (show 2 ≤ 6 by decide)
  have hr1 := hr.mono (show 1 ≤ 6 by decide)
  have ag := agree l
  refine svs_cons (sv_par 1 2 (evs_cons (ev_call GR hr2 (evs_cons (ev_var 0 rfl) evs_nil) ⟨l, rfl, hl, ha, rfl⟩) (evs_cons (ev_call GT hr (evs_cons (ev_var 0 rfl) evs_nil) ⟨l, rfl, hl, rfl⟩) evs_nil)) ?_ scDue.nd)
  rw [← ag]
  cases prog l with
  | none =>
    exact svs_cons (sv_if (t := true) (tv_isN true (d := .non) (ev_var 1 rfl) (.inl ⟨rfl, rfl⟩)) (fun _ => svs_one (sv_ret (EV.cast (ev_cmpD (opD_eq hr) (ev_var 2 rfl) (ev_tup (evs_cons ev_str (evs_cons (ev_var 0 rfl) evs_nil))) ⟨_, _, rfl, rfl, shaped_pair ha, shaped_pair ha, rfl⟩) (by rw [eqv_self])) rfl)) fun z => nomatch z)
  | some q =>
    obtain ⟨t, b⟩ := q
    exact svs_cons (sv_if (t := false) (tv_isN false (d := pr t b) (ev_var 1 rfl) (.inr ⟨rfl, by intro z; cases z⟩)) (fun z => nomatch z) fun _ => svs_nil (svs_one (sv_ret (EV.cast (ev_andB (t := true) (u := true) (EV.cast (ev_eqS (ev_ixT (d := .str (Str.ofString "number")) ⟨0, rfl, rfl⟩ (ev_var 2 rfl) ev_int) ev_str) (by simp)) fun _ => ev_one (ev_call GI hr1 (evs_cons (ev_ixT (d := numD C t b) ⟨1, rfl, rfl⟩ (ev_var 2 rfl) ev_int) (evs_cons (ev_var 1 rfl) evs_nil)) ⟨t, b, rfl, rfl⟩)) rfl) rfl)))
end
end K03

set_option Elab.async false
set_option linter.all false
set_option maxRecDepth 100000
set_option maxHeartbeats 4000000
/-! K03l: the law's def. -/
namespace K03
open PySem PySem.Spec PyProof.Rows L2 Fd Tx Nm PySem.NumText
theorem smOf {a : Int} (h : a.natAbs ≤ 10 ^ 30) : Sm a := Nat.lt_of_le_of_lt h (by decide +kernel)
structure Red (T B : Int) : Prop where
  sT : Sm T
  sB : Sm B
  pos : 0 < B
  cop : Nat.gcd T.natAbs B.natAbs = 1
theorem Red.ne {T B : Int} (h : Red T B) : B ≠ 0 := by have := h.pos; omega
def tT (t b : Int) : Int := t.fdiv (dv t b)
def tB (t b : Int) : Int := b.fdiv (dv t b)
theorem rF_t (t b : Int) : rF t b = [.int (tT t b), .int (tB t b)] := rfl
theorem red_of {t b : Int} (hb : b ≠ 0) (s1 : t.natAbs ≤ 10 ^ 30) (s2 : b.natAbs ≤ 10 ^ 30) : Red (tT t b) (tB t b) := by
  have g0 : 0 < Nat.gcd t.natAbs b.natAbs := Nat.pos_of_ne_zero fun z => hb (by have := Nat.eq_zero_of_gcd_eq_zero_right z; omega)
  have e : (dv t b).natAbs = Nat.gcd t.natAbs b.natAbs := by unfold dv; split <;> omega
  have d1 : dv t b ∣ t := Int.natAbs_dvd_natAbs.mp (by rw [e]; exact Nat.gcd_dvd_left _ _)
  have d2 : dv t b ∣ b := Int.natAbs_dvd_natAbs.mp (by rw [e]; exact Nat.gcd_dvd_right _ _)
  have n1 : (tT t b).natAbs = t.natAbs / Nat.gcd t.natAbs b.natAbs := by unfold tT; rw [Int.fdiv_eq_ediv_of_dvd d1, Int.natAbs_ediv_of_dvd d1, e]
  have n2 : (tB t b).natAbs = b.natAbs / Nat.gcd t.natAbs b.natAbs := by unfold tB; rw [Int.fdiv_eq_ediv_of_dvd d2, Int.natAbs_ediv_of_dvd d2, e]
  have l1 : (tT t b).natAbs ≤ t.natAbs := by rw [n1]; exact Nat.div_le_self _ _
  have l2 : (tB t b).natAbs ≤ b.natAbs := by rw [n2]; exact Nat.div_le_self _ _
  refine ⟨smOf (Nat.le_trans l1 s1), smOf (Nat.le_trans l2 s2), ?_, ?_⟩
  · obtain ⟨q, hq⟩ := d2
    have hd : dv t b ≠ 0 := fun z => by rw [z, Int.zero_mul] at hq; exact hb hq
    have eB : tB t b = q := by
      unfold tB
      conv => lhs; arg 1; rw [hq]
      exact Int.mul_fdiv_cancel_left q hd
    rw [eB]
    by_cases hn : b < 0
    · have ed : dv t b = -((Nat.gcd t.natAbs b.natAbs : Nat) : Int) := if_pos hn
      have hneg : dv t b < 0 := by rw [ed]; omega
      rcases Int.lt_trichotomy q 0 with z | z | z
      · have := Int.mul_pos_of_neg_of_neg hneg z
        omega
      · rw [z, Int.mul_zero] at hq; omega
      · exact z
    · have ed : dv t b = ((Nat.gcd t.natAbs b.natAbs : Nat) : Int) := if_neg hn
      have hpos : 0 < dv t b := by rw [ed]; omega
      rcases Int.lt_trichotomy q 0 with z | z | z
      · have := Int.mul_neg_of_pos_of_neg hpos z
        omega
      · rw [z, Int.mul_zero] at hq; omega
      · exact z
  · rw [n1, n2, Nat.gcd_div (Nat.gcd_dvd_left _ _) (Nat.gcd_dvd_right _ _)]
    exact Nat.div_self g0
theorem rF_red {T B : Int} (h : Red T B) : rF T B = [.int T, .int B] := by
  have e : dv T B = 1 := by
    unfold dv
    rw [if_neg (by have := h.pos; omega), h.cop]; rfl
  unfold rF
  rw [e, Int.fdiv_one, Int.fdiv_one]

def sLaw : Stmt := top 33
def lN : List Str := ["_law_script", "_law_row_here", "_law_upper", "_law_lower", "_law_x", "_law_text", "_law_odd", "_law_one"]
theorem scLaw : FnScope lN ["_law_script"] (defScope sLaw) := ⟨rfl, rfl, rfl, by decide +kernel, rfl, by decide +kernel, by decide +kernel⟩
def odA : List Str := [Str.ofString "", Str.ofString "-", Str.ofString "-0", Str.ofString "0", Str.ofString "00", Str.ofString "01", Str.ofString "1/1", Str.ofString "2/4", Str.ofString "0/5", Str.ofString "1/0", Str.ofString "-1/0", Str.ofString "3/", Str.ofString "/3", Str.ofString "1/02", Str.ofString "+1"]
def odB : List Str := [Str.ofString " 1", Str.ofString "1 ", Str.ofString "--1", Str.ofString "1/-2", Str.ofString "-1/2", Str.ofString "1//2", Str.ofString "1/2/3", Str.ofString "1.5", Str.ofString "1e3", Str.ofString "0x1", Str.ofString "1_0", Str.ofString "1\n"]
def odC : List Str := [Str.ofString "-7/3", Str.ofString "a", Str.ofString "-00", Str.ofString "7/7", Str.ofString "10"]

def Gd (x : Str) : Prop := (TL.tl x).length ≤ 100 ∧ As (TL.tl x)
theorem odd_len : (odA ++ odB ++ odC).length = 32 := by decide +kernel
theorem odd_gd : ∀ x ∈ odA ++ odB ++ odC, Gd x := by
  have h : ((odA ++ odB ++ odC).all fun x => decide ((TL.tl x).length ≤ 100) && (TL.tl x).all fun c => decide (c < 128)) = true := by decide +kernel
  intro x hx
  have := List.all_eq_true.mp h x hx
  rw [Bool.and_eq_true, decide_eq_true_iff, List.all_eq_true] at this
  exact ⟨this.1, fun c hc => of_decide_eq_true (this.2 c hc)⟩
theorem row6 (o : Int) : ∃ r0 r1 r2 r3 r4 r5 : Int, rowL o [2, 3, 5, 70, 95, 40] = [r0, r1, r2, r3, r4, r5] ∧ (0 ≤ r0 ∧ r0 < 2) ∧ 0 ≤ r4 ∧ 0 ≤ r5 := by
  unfold rowL
  split
  · exact ⟨_, _, _, _, _, _, rfl, by omega, by omega, by omega⟩
  · refine ⟨_, _, _, _, _, _, rfl, ?_, ?_, ?_⟩ <;> (unfold mix; omega)
structure LL (T : List (Addr × Str)) (P : Program) (w : World) (K : PySem.W.Frag) (mg : Str → Option Value) (base : Heap) (C CN : Addr) : Prop where
  E : RE T P w K mg base C CN
  cell : FD T P w K mg base "_law_cell" 2 1 pCell
  row : FD T P w K mg base "_law_row" 2 1 pRow
  low : FD T P w K mg base "_law_low" 2 2 pLow
  ntx : FD T P w K mg base "_law_number_text" 1 1 pNtx
  spo : FD T P w K mg base "_law_spoilt" 4 2 pSpo
  due : FD T P w K mg base "_law_as_due" 1 7 pDue
  bAbs : mg "abs" = none
  bLen : mg "len" = none
theorem strR_all (t : Int) (b : Nat) : strR t (b : Int) = S (numT t b) := by
  by_cases h : b = 1
  · subst h
    have e1 : strR t ((1 : Nat) : Int) = sI t := if_pos rfl
    rw [e1, sI_S]; rfl
  · exact strR_S h
theorem iT_len {i : Int} (h : i.natAbs < 10 ^ 29) : (iT i).length ≤ 30 := by
  have e := PySem.int_text_length_le10 (k := 29) (by decide) h
  rw [← len_S, ← sI_S]
  show (Str.ofString (toString i)).length ≤ 30
  rw [PySem.ofString_length]; omega
theorem numT_len {t : Int} {b : Nat} (h1 : t.natAbs < 10 ^ 29) (h2 : b < 10 ^ 29) : (numT t b).length ≤ 61 := by
  have l1 := iT_len h1
  have l2 : (nT b).length ≤ 30 := by rw [← iT_nat]; exact iT_len (by rw [Int.natAbs_natCast]; exact h2)
  unfold numT
  split
  · omega
  · rw [List.length_append, List.length_cons]; omega
theorem as_nT (m : Nat) : As (nT m) := fun c hc => by have := ad_nT m c hc; omega
theorem as_iT (i : Int) : As (iT i) := by
  unfold iT
  split
  · intro c hc
    rcases List.mem_cons.mp hc with rfl | hc
    · decide
    · exact as_nT _ c hc
  · exact as_nT _
theorem as_numT (t : Int) (b : Nat) : As (numT t b) := by
  unfold numT
  split
  · exact as_iT t
  · intro c hc
    rcases List.mem_append.mp hc with hc | hc
    · exact as_iT t c hc
    · rcases List.mem_cons.mp hc with rfl | hc
      · decide
      · exact as_nT _ c hc
def sg1 (r : Int) : Int := if r = 0 then 1 else -1
section
variable {T : List (Addr × Str)} {P : Program} {w : World} {K : PySem.W.Frag} {mg : Str → Option Value} {base : Heap} {C CN f : Addr} {fd : FuncData} {A : Around} {outer : List Env} {s : Shared} {H : Hp} {E : XK} {Q : Post} {cdv : Value}
abbrev lX (P : Program) (w : World) (K : PySem.W.Frag) (mg : Str → Option Value) (base : Heap) (f : Addr) (cdv : Value) (A : Around) (outer : List Env) (s : Shared) (H : Hp) (E : XK) : Cx := bodyX CX0 P w K mg base lN "law" sLaw f cdv A outer s H E
theorem e_due {X : Cx} {ss : SS} {e : Expr} {p pos : Pos} {x : Str} (V : LL T X.prog X.w X.K X.mg X.base C CN) (hr : Room 7 X.A) (h : Gd x) (he : EV T X e ss (.str x)) (hg : Gl X "_law_as_due" := by rfl) (hs : starEach [e] X.env = [(false, eval e X.env)] := by rfl) : EV T X (.Call (.Name "_law_as_due" p) [e] [] pos) ss (.bl true) :=
  ev_call V.due hr (evs_cons he evs_nil hs) ⟨TL.tl x, by rw [S_tl], h.1, h.2, rfl⟩ rfl hg (by decide) hs
theorem part2 (V : LL T P w K mg base C CN) (hr : Room 7 (lX P w K mg base f cdv A outer s H E).A) {ns : List Int} {r0 r1 r2 r3 r4 r5 : Int} {s2 s3 s6 s7 : Fd.S} {t : Int} {b : Nat} (h4 : 0 ≤ r4) (h5 : 0 ≤ r5) (ht : t.natAbs < 10 ^ 29) (hb : b < 10 ^ 29) (hk : Q.rt (.bl true)) :
    SVs T (lX P w K mg base f cdv A outer s H E) ((defBody sLaw).drop 7) [.d (.rdl (ns.map D.int)), .d (.lst ([r0, r1, r2, r3, r4, r5].map D.int)), s2, s3, .d (pr t b), .d (.str (S (numT t b))), s6, s7] Q := by
  have hr2 := hr.mono (show 2 ≤ 7 by decide)
  have ln := numT_len ht hb
  refine svs_cons (sv_set 6 (d := .lst (odA.map D.str)) (ev_lst (evs_cons ev_str (evs_cons ev_str (evs_cons ev_str (evs_cons ev_str (evs_cons ev_str (evs_cons ev_str (evs_cons ev_str (evs_cons ev_str (evs_cons ev_str (evs_cons ev_str (evs_cons ev_str (evs_cons ev_str (evs_cons ev_str (evs_cons ev_str (evs_cons ev_str evs_nil)))))))))))))))) ?_ scLaw.nd)
  refine svs_cons (sv_set 6 (d := .lst (odA.map D.str ++ odB.map D.str)) (ev_cat (by decide +kernel) (ev_var 6 rfl) (ev_lst (evs_cons ev_str (evs_cons ev_str (evs_cons ev_str (evs_cons ev_str (evs_cons ev_str (evs_cons ev_str (evs_cons ev_str (evs_cons ev_str (evs_cons ev_str (evs_cons ev_str (evs_cons ev_str (evs_cons ev_str evs_nil)))))))))))))) ?_ scLaw.nd)
  refine svs_cons (sv_set 6 (d := .lst ((odA ++ odB ++ odC).map D.str)) (EV.cast (ev_cat (xs := odA.map D.str ++ odB.map D.str) (ys := odC.map D.str) (by decide +kernel) (ev_var 6 rfl) (ev_lst (evs_cons ev_str (evs_cons ev_str (evs_cons ev_str (evs_cons ev_str (evs_cons ev_str evs_nil))))))) (by rw [List.map_append, List.map_append])) ?_ scLaw.nd)
  have pick : ∀ r : Int, 0 ≤ r → ∃ x, Gd x ∧ ∃ n : Nat, r % 32 = n ∧ ((odA ++ odB ++ odC).map D.str)[n]? = some (.str x) := fun r h0 => by
    have q1 := Int.emod_nonneg r (show (32 : Int) ≠ 0 by decide)
    have q2 := Int.emod_lt_of_pos r (show (0 : Int) < 32 by decide)
    have hl : (r % 32).toNat < (odA ++ odB ++ odC).length := by rw [odd_len]; omega
    exact ⟨(odA ++ odB ++ odC)[(r % 32).toNat], odd_gd _ (List.getElem_mem hl), (r % 32).toNat, by omega, by rw [List.getElem?_map, List.getElem?_eq_getElem hl]; rfl⟩
  obtain ⟨x2, g2, i2⟩ := pick r5 h5
  obtain ⟨x3, g3, i3⟩ := pick r4 h4
  have hpl : (r3 % ((numT t b).length + 1 : Nat)).toNat ≤ (numT t b).length := by
    have q1 := Int.emod_nonneg r3 (show (((numT t b).length + 1 : Nat) : Int) ≠ 0 by omega)
    have q2 := Int.emod_lt_of_pos r3 (show (0 : Int) < (((numT t b).length + 1 : Nat) : Int) by omega)
    omega
  have g1 : Gd (S (spo (numT t b) r2 (r3 % ((numT t b).length + 1 : Nat)).toNat (sgn r4))) := ⟨by
    have := spo_len (kind := r2) (c := sgn r4) hpl
    show (spo _ _ _ _).length ≤ 100
    omega, spo_all (p := fun c => c < 128) (as_numT t b) (sgn_lt r4)⟩
  have hlen : D.len (.lst ((odA ++ odB ++ odC).map D.str)) = some 32 := by
    show some ((odA ++ odB ++ odC).map D.str).length = some 32
    rw [List.length_map, odd_len]
  refine svs_cons (sv_for (.one 7) (fun i ss => ∃ s7, ss = [.d (.rdl (ns.map D.int)), .d (.lst ([r0, r1, r2, r3, r4, r5].map D.int)), s2, s3, .d (pr t b), .d (.str (S (numT t b))), .d (.lst ((odA ++ odB ++ odC).map D.str)), s7])
    (iv_list (xs := [.str (S (spo (numT t b) r2 (r3 % ((numT t b).length + 1 : Nat)).toNat (sgn r4))), .str x2, .str x3]) (ev_lst (evs_cons (ev_call V.spo hr2 (evs_cons (ev_var 5 rfl) (evs_cons (ev_ixL (d := .int r2) ⟨2, rfl, rfl⟩ (ev_var 1 rfl) ev_int) (evs_cons (ev_ixL (d := .int r3) ⟨3, rfl, rfl⟩ (ev_var 1 rfl) ev_int) (evs_cons (ev_ixL (d := .int r4) ⟨4, rfl, rfl⟩ (ev_var 1 rfl) ev_int) evs_nil)))) ⟨numT t b, r2, r3, r4, rfl, by omega, rfl⟩)
      (evs_cons (ev_ixL i2 (ev_var 6 rfl) (ev_mod (by decide) (ev_ixL (d := .int r5) ⟨5, rfl, rfl⟩ (ev_var 1 rfl) ev_int) (ev_len hlen (ev_var 6 rfl) V.bLen))) (evs_cons (ev_ixL i3 (ev_var 6 rfl) (ev_mod (by decide) (ev_ixL (d := .int r4) ⟨4, rfl, rfl⟩ (ev_var 1 rfl) ev_int) (ev_len hlen (ev_var 6 rfl) V.bLen))) evs_nil)))))
    (pg_name (i := 7) scLaw.nd rfl (Or.inl rfl)) ⟨_, rfl⟩ ?_ ?_)
  · rintro i x ss' hx ⟨s7, rfl⟩
    have hm := List.mem_of_getElem? hx
    simp only [List.mem_cons, List.not_mem_nil, or_false] at hm
    have one : ∀ z : Str, Gd z → x = .str z → (Tg.one 7).fits x = true ∧ SVs T (lX P w K mg base f cdv A outer s H E) (match (defBody sLaw).getD 10 (.Pass pT) with | .For _ _ bd _ _ => bd | _ => []) ((Tg.one 7).put x [.d (.rdl (ns.map D.int)), .d (.lst ([r0, r1, r2, r3, r4, r5].map D.int)), s2, s3, .d (pr t b), .d (.str (S (numT t b))), .d (.lst ((odA ++ odB ++ odC).map D.str)), s7]) ⟨fun ss => ∃ s7, ss = [.d (.rdl (ns.map D.int)), .d (.lst ([r0, r1, r2, r3, r4, r5].map D.int)), s2, s3, .d (pr t b), .d (.str (S (numT t b))), .d (.lst ((odA ++ odB ++ odC).map D.str)), s7], Q.rt, fun ss => SVs T (lX P w K mg base f cdv A outer s H E) ((defBody sLaw).drop 11) ss Q, fun ss => ∃ s7, ss = [.d (.rdl (ns.map D.int)), .d (.lst ([r0, r1, r2, r3, r4, r5].map D.int)), s2, s3, .d (pr t b), .d (.str (S (numT t b))), .d (.lst ((odA ++ odB ++ odC).map D.str)), s7]⟩ := fun z gz ez => by
      subst ez
      exact ⟨rfl, svs_cons (sv_if (t := false) (TW.tv (tw_orB (t := false) (u := false) (tv_not (k := true) (tv_of (e_due V hr gz (ev_var 7 rfl)))) fun _ => tw_or1 (tv_not (k := true) (tv_of (e_due V hr gz (ev_var 7 rfl)))))) (fun z => nomatch z) fun _ => svs_nil (svs_nil ⟨_, rfl⟩))⟩
    rcases hm with rfl | rfl | rfl
    · exact one _ g1 rfl
    · exact one _ g2 rfl
    · exact one _ g3 rfl
  rintro ss' ⟨s7, rfl⟩
  exact svs_one (sv_ret ev_bl hk)
end
end K03

set_option Elab.async false
set_option linter.all false
set_option maxRecDepth 100000
set_option maxHeartbeats 4000000
/-! K03m: the law's def, whole. -/
namespace K03
open PySem PySem.Spec PyProof.Rows L2 Fd Tx Nm PySem.NumText
theorem t_le {t b : Int} (hb : b ≠ 0) : (tT t b).natAbs ≤ t.natAbs ∧ (tB t b).natAbs ≤ b.natAbs := by
  have e : (dv t b).natAbs = Nat.gcd t.natAbs b.natAbs := by unfold dv; split <;> omega
  have d1 : dv t b ∣ t := Int.natAbs_dvd_natAbs.mp (by rw [e]; exact Nat.gcd_dvd_left _ _)
  have d2 : dv t b ∣ b := Int.natAbs_dvd_natAbs.mp (by rw [e]; exact Nat.gcd_dvd_right _ _)
  refine ⟨?_, ?_⟩
  · unfold tT; rw [Int.fdiv_eq_ediv_of_dvd d1, Int.natAbs_ediv_of_dvd d1]; exact Nat.div_le_self _ _
  · unfold tB; rw [Int.fdiv_eq_ediv_of_dvd d2, Int.natAbs_ediv_of_dvd d2]; exact Nat.div_le_self _ _
section
variable {T : List (Addr × Str)} {P : Program} {w : World} {K : PySem.W.Frag} {mg : Str → Option Value} {base : Heap} {C CN f : Addr} {fd : FuncData} {A : Around} {outer : List Env} {s : Shared} {H : Hp} {E : XK} {Q : Post} {cdv : Value}
theorem part1 (V : LL T P w K mg base C CN) (hr : Room 7 (lX P w K mg base f cdv A outer s H E).A) {ns : List Int} {r0 r1 r2 r3 r4 r5 U W : Int} {s4 s5 s6 s7 : Fd.S} (h0 : 0 ≤ r0 ∧ r0 < 2) (h4 : 0 ≤ r4) (h5 : 0 ≤ r5) (hk : Q.rt (.bl true)) :
    SVs T (lX P w K mg base f cdv A outer s H E) ((defBody sLaw).drop 4) [.d (.rdl (ns.map D.int)), .d (.lst ([r0, r1, r2, r3, r4, r5].map D.int)), .d (.int U), .d (.int W), s4, s5, s6, s7] Q := by
  have hr3 := hr.mono (show 3 ≤ 7 by decide)
  have hr2 := hr.mono (show 2 ≤ 7 by decide)
  have hr1 := hr.mono (show 1 ≤ 7 by decide)
  have bI := V.E.V.R.bInt
  have hs : ∃ n : Nat, r0 = n ∧ ([1, -1].map D.int)[n]? = some (.int (sg1 r0)) := by
    unfold sg1
    split
    · rename_i h; exact ⟨0, by omega, rfl⟩
    · rename_i h; exact ⟨1, by omega, rfl⟩
  have p1 := Int.emod_nonneg U (show (10 : Int) ^ 28 ≠ 0 by decide)
  have p2 := Int.emod_lt_of_pos U (show (0 : Int) < 10 ^ 28 by decide)
  have q1 := Int.emod_nonneg (W - 1) (show (10 : Int) ^ 28 ≠ 0 by decide)
  have q2 := Int.emod_lt_of_pos (W - 1) (show (0 : Int) < 10 ^ 28 by decide)
  have hT : (U % 10 ^ 28 * sg1 r0).natAbs < 10 ^ 28 := by unfold sg1; split <;> omega
  have hB : ((W - 1) % 10 ^ 28 + 1).natAbs ≤ 10 ^ 28 := by omega
  have hB0 : (W - 1) % 10 ^ 28 + 1 ≠ 0 := by omega
  refine svs_cons (sv_set 4 (d := .tup (rF (U % 10 ^ 28 * sg1 r0) ((W - 1) % 10 ^ 28 + 1))) (ev_call V.low hr2 (evs_cons (ev_mul (j := sg1 r0) (.inr (by unfold sg1; split <;> decide)) (ev_mod (by decide) (ev_int1 (ev_var 2 rfl) bI) (ev_pow ⟨by decide, by decide, by decide⟩ ev_int ev_int)) (ev_ixL hs (ev_lst (evs_cons ev_int (evs_cons (EV.cast (ev_neg ev_int) rfl) evs_nil))) (ev_ixL (d := .int r0) ⟨0, rfl, rfl⟩ (ev_var 1 rfl) ev_int)))
    (evs_cons (ev_add (ev_mod (by decide) (ev_sub (ev_int1 (ev_var 3 rfl) bI) ev_int) (ev_pow ⟨by decide, by decide, by decide⟩ ev_int ev_int)) ev_int) evs_nil)) ⟨_, _, rfl, hB0, sm_log (Nat.lt_of_le_of_lt hB (by decide +kernel)), rfl⟩) ?_ scLaw.nd)
  generalize U % 10 ^ 28 * sg1 r0 = t0 at *
  generalize (W - 1) % 10 ^ 28 + 1 = b0 at *
  have R := red_of hB0 (t := t0) (by omega) (by omega)
  obtain ⟨le1, le2⟩ := t_le hB0 (t := t0)
  rw [rF_t]
  generalize tT t0 b0 = t at *
  obtain ⟨b, hb⟩ : ∃ b : Nat, tB t0 b0 = (b : Int) := ⟨(tB t0 b0).toNat, by have := R.pos; omega⟩
  rw [hb] at R le2 ⊢
  have ht : t.natAbs < 10 ^ 29 := by omega
  have hbl : b < 10 ^ 29 := by rw [Int.natAbs_natCast] at le2; omega
  have ht2 : t.natAbs < 10 ^ 100 := Nat.lt_of_lt_of_le ht (by decide +kernel)
  have hb2 : b < 10 ^ 100 := Nat.lt_of_lt_of_le hbl (by decide +kernel)
  have bne : (b : Int) ≠ 0 := R.ne
  refine svs_cons (sv_set 5 (ev_call V.ntx hr1 (evs_cons (ev_var 4 rfl) evs_nil) ⟨t, b, rfl, ht2, hb2, rfl⟩) ?_ scLaw.nd)
  have ln := numT_len ht hbl
  have gd : Gd (S (numT t b)) := ⟨by show (numT t b).length ≤ 100; omega, as_numT t b⟩
  obtain ⟨g, M⟩ := V.E.str
  refine svs_cons (sv_if (t := false) (TW.tv (tw_orB (t := false) (u := false) (TV.cast (tv_neS (ev_strO (z := S (numT t b)) M hr3 (EV.cast (ev_make (ns := rN) (xs := rF t (b : Int)) V.E.V.M hr2 (evs_cons (ev_ixT (d := .int t) ⟨0, rfl, rfl⟩ (ev_var 4 rfl) ev_int) (evs_cons (ev_ixT (d := .int (b : Int)) ⟨1, rfl, rfl⟩ (ev_var 4 rfl) ev_int) evs_nil)) ⟨t, b, rfl, bne, Nat.lt_of_lt_of_le (sm_log1 R.sB) (by decide), rfl, rfl⟩) (show D.ins C rN (rF t (b : Int)) = rat C t b by rw [rF_red R]; rfl)) ⟨t, (b : Int), rfl, R.sT, R.sB, by rw [strR_all]⟩ V.E.V.R.bStr) (ev_var 5 rfl)) (by simp)) fun _ =>
    tw_orB (t := false) (u := false) (TV.cast (tv_neS (e_strN (t := t) (b := b) V.E hr3 ht2 hb2 (EV.cast (ev_call V.E.V.plain hr1 (evs_cons (EV.cast (ev_make (ns := rN) (xs := rF t (b : Int)) V.E.V.M hr2 (evs_cons (ev_ixT (d := .int t) ⟨0, rfl, rfl⟩ (ev_var 4 rfl) ev_int) (evs_cons (ev_ixT (d := .int (b : Int)) ⟨1, rfl, rfl⟩ (ev_var 4 rfl) ev_int) evs_nil)) ⟨t, b, rfl, bne, Nat.lt_of_lt_of_le (sm_log1 R.sB) (by decide), rfl, rfl⟩) (show D.ins C rN (rF t (b : Int)) = rat C t b by rw [rF_red R]; rfl)) evs_nil) ⟨rat C t b, t, b, rfl, .inr rfl, rfl⟩) ?_)) (ev_var 5 rfl)) (by simp)) fun _ =>
    tw_or1 (tv_not (k := true) (tv_of (e_due V hr gd (ev_var 5 rfl)))))) (fun z => nomatch z) fun _ => svs_nil ?_)
  · unfold plainD numD
    by_cases z : b = 1
    · subst z; rfl
    · rw [if_neg z, if_neg (by omega)]
  exact part2 V hr h4 h5 ht hbl hk
theorem ok_law (F : Fun K "law" "law" sLaw f fd) (V : LL T P w K mg base C CN) : FnOk P w K mg base CX0 8 f fd ["_law_script"] (spD T K 1 pLaw) := by
  refine fd_ok F scLaw rfl fun cdv A outer s H E ds d hr _ ⟨ns, e1, hlen, e2⟩ => ?_
  subst e1; subst e2
  have hr1 := hr.mono (show 1 ≤ 7 by decide)
  have bI := V.E.V.R.bInt
  refine svs_cons (sv_set 1 (ev_call V.row hr1 (evs_cons (ev_call V.cell hr1 (evs_cons (ev_var 0 rfl) (evs_cons ev_int evs_nil)) ⟨ns, 2, rfl, hlen, rfl⟩) (evs_cons (ev_lst (evs_cons ev_int (evs_cons ev_int (evs_cons ev_int (evs_cons ev_int (evs_cons ev_int (evs_cons ev_int evs_nil))))))) evs_nil)) ⟨ns.getD 2 0, [2, 3, 5, 70, 95, 40], rfl, by decide, by decide, rfl⟩) ?_ scLaw.nd)
  obtain ⟨r0, r1, r2, r3, r4, r5, er, h0, h4, h5⟩ := row6 (ns.getD 2 0)
  rw [er]
  refine svs_cons (sv_par 2 3 (evs_cons (ev_call V.cell hr1 (evs_cons (ev_var 0 rfl) (evs_cons ev_int evs_nil)) ⟨ns, 0, rfl, hlen, rfl⟩) (evs_cons (ev_add (ev_abs (ev_call V.cell hr1 (evs_cons (ev_var 0 rfl) (evs_cons ev_int evs_nil)) ⟨ns, 1, rfl, hlen, rfl⟩) V.bAbs) ev_int) evs_nil)) ?_ scLaw.nd)
  have tl3 : ∀ U W : Int, SVs T (bodyX CX0 P w K mg base lN "law" sLaw f cdv A outer s H E) ((defBody sLaw).drop 3) [.d (.rdl (ns.map D.int)), .d (.lst ([r0, r1, r2, r3, r4, r5].map D.int)), .d (.int U), .d (.int W), .no, .no, .no, .no] { nx := fun _ => D.bl true = .non, rt := fun d' => d' = D.bl true } := fun U W => by
    refine svs_cons (sv_if (tv_eqI (ev_ixL (d := .int r1) ⟨1, rfl, rfl⟩ (ev_var 1 rfl) ev_int) ev_int) (fun _ => svs_one (sv_set 3 ev_int ?_ scLaw.nd)) fun _ => svs_nil ?_)
    · exact part1 V hr h0 h4 h5 rfl
    · exact part1 V hr h0 h4 h5 rfl
  refine svs_cons (sv_if (tv_eqI (ev_ixL (d := .int r0) ⟨0, rfl, rfl⟩ (ev_var 1 rfl) ev_int) ev_int) (fun _ => svs_one (sv_par 2 3 (evs_cons (ev_sub (ev_mod (by decide) (ev_int1 (ev_var 2 rfl) bI) ev_int) ev_int) (evs_cons (ev_add (ev_mod (by decide) (ev_int1 (ev_var 3 rfl) bI) ev_int) ev_int) evs_nil)) ?_ scLaw.nd)) fun _ => svs_nil ?_)
  · exact tl3 _ _
  · exact tl3 _ _
end
end K03

set_option Elab.async false
set_option linter.all false
set_option maxRecDepth 100000
set_option maxHeartbeats 4000000
/-! K03n: from the facts of the top to the law's contract. -/
namespace K03
open PySem PySem.Spec PyProof.Rows L2 Fd PySem.ExS
def bm (L : Addr) : List Value := [.ref L, .type "ValueError", .type "Exception", .type "BaseException", .type "object"]
/-- one class of errors, as the top has made it -/
structure One (prog : Program) (K : PySem.W.Frag) (mg : Str → Option Value) (L : Addr) (x : Str) (C fI cc cda : Addr) : Prop where
  mgC : mg x = some (.ref C)
  ex : ExCls prog K mg C fI cc cda
  is : ExIs K C
  cd : ∃ cd, PySem.W.clsIn K C = some cd ∧ cd.name = x ∧ cd.mro = .ref C :: bm L
  ty : PySem.W.typeIn K (.ref C) = some (.type "type")
section
variable {P : Program} {w : World} {K : PySem.W.Frag} {mg : Str → Option Value} {h : Heap} {L : Addr}
theorem one_mk (X : K.In h) (G : h.Ns mainGlobals mg) {x nq : Str} {C fI cc cda N : Addr} {bs : List Value} {sn : List Str} {sub : List Value} {ab : Bool} {col : Option Bool} {dd : Option Addr} {k0 k1 k2 k3 k5 : Option Value}
    {cl ccl : Value} {cld cdd : Option Addr} {csl ccs : Array (Option Value)} {vs : Array Value} {file : Str} {tf : Tok}
    (aC : PySem.W.nsIn K mainGlobals x = some (some (.ref C)))
    (xL : K.lookup C = some (excClassObj x nq C N bs (bm L) true sn sub ab col dd k0 k1 k2 k3 k5 "ValueError.__new__"))
    (sa : PySem.W.findIn K (.ref C) "__setattr__" = some (some (.builtin "object.__setattr__")))
    (ga : PySem.W.findIn K (.ref C) "__getattribute__" = some (some (.builtin "BaseException.__getattribute__")))
    (gg : PySem.W.findIn K (.ref C) "__getattr__" = some none)
    (iC : PySem.W.findIn K (.ref C) "__init__" = some (some (.ref fI))) (tI : PySem.W.typeIn K (.ref fI) = some (.type "function")) (kC : PySem.W.keepIn K (.ref C) = true) (ty : PySem.W.typeIn K (.ref C) = some (.type "type"))
    (ce : K.lookup cc = some ⟨cl, cld, .cell (some (.ref C)), csl⟩)
    (co : K.lookup cda = some ⟨ccl, cdd, .fields vs, ccs⟩) (v2 : vs[2]? = some (.str file tf)) (fi : ((P.main.file : Str) == file) = true)
    (sup : PySem.W.ks_superIn K C C "__init__" = some (some (.builtin "ValueError.__init__")))
    (opq : PySem.W.nsIn K cStatics "thirdparty.any" = some none) (mgs : PySem.W.nsIn K mainGlobals "super" = some none) (tp : (P.main.scope.names.lookup ("super" : Str)).isSome = false)
    (ca : PySem.W.findIn K (.ref C) "__class__" = some (some (.builtin "object.__class__")))
    (gd : PySem.W.specialIn K (.builtin "object.__class__") "__get__" = some (some (.builtin "getset_descriptor.__get__"))) (tk : PySem.W.takesIn K (.builtin "object.__class__") = some true) :
    One P K mg L x C fI cc cda := by
  have hcl : PySem.W.clsIn K C = some { name := x, bases := bs, mro := .ref C :: bm L, ns := N, qualname := nq, hasDict := true, slotNames := sn, subclasses := sub, abstract := ab, collection := col, hasDel := false } := by unfold PySem.W.clsIn; rw [xL] <;> rfl
  have hm : ∀ b, (Value.ref C :: bm L).contains b = true → PySem.W.mroIn K C b = some true := fun b q => by
    unfold PySem.W.mroIn
    rw [hcl]
    show (if (Value.ref C :: bm L).isEmpty then none else some ((Value.ref C :: bm L).contains b)) = some true
    rw [q]; rfl
  have c1 : PySem.W.mroIn K C (.type "BaseException") = some true := hm _ (by simp [bm])
  have c2 : PySem.W.mroIn K C (.type "ValueError") = some true := hm _ (by simp [bm])
  have c3 : PySem.W.mroIn K C (.type "object") = some true := hm _ (by simp [bm])
  have c4 : PySem.W.mroIn K C (.ref C) = some true := hm _ (by simp [bm])
  exact { mgC := PySem.W.mg_of X G aC, ty := ty, cd := ⟨_, hcl, rfl, rfl⟩
          ex := { cls := ⟨x, nq, N, bs, bm L, sn, sub, ab, col, dd, k0, k1, k2, k3, k5, xL, rfl⟩, sa := sa, ga := ga, gg := gg, iC := iC, tC := tI, kC := kC, exC := c1, veC := c2, seC := c4, tyC := ty, hdC := by unfold PySem.W.hasDictIn; rw [hcl] <;> rfl
                  cell := ⟨cl, cld, csl, ce⟩, code := ⟨ccl, cdd, vs, ccs, file, tf, co, v2, fi⟩, sup := sup, opq := opq, mgs := PySem.W.mg_none_of X G mgs, top := tp }
          is := { cl := by rw [hcl] <;> rfl, ga := ga, gg := gg, be := c1, ca := ca, gd := gd, tk := tk, ob := c3 } }
end
/-- what a parameter's name is asked for -/
structure YOk (y : Str) : Prop where
  ys : (("self" : Str) == y) = false
  yd : (y == ("__debug__" : Str)) = false
  nc : ∀ x ∈ (iS y).names, x.2 ≠ .cell
  l1 : (iS y).names.lookup ("self" : Str) = some .local
  l2 : (iS y).names.lookup y = some .local
  l3 : (iS y).names.lookup ("super" : Str) = some .globalImplicit
  l4 : (iS y).names.lookup ("__class__" : Str) = some .free
  bd : ∀ (qual : Str) (body : List Stmt) (doc pm : Value) (an : Option Addr) (cv ct : Value) (cc : Addr) (p1 p2 : Pos) (x : Addr) (v : Value), PySem.bindArgs (PySem.W.ksFn "__init__" qual (iA y p1 p2) body (iS y) .none .none doc pm an cv ct cc) ⟨[.ref x, v], []⟩ = pure [(("self" : Str), Value.ref x), (y, v)]

theorem y_text : YOk "text" := ⟨by decide +kernel, by decide +kernel, by decide +kernel, by decide +kernel, by decide +kernel, by decide +kernel, by decide +kernel, fun _ _ _ _ _ _ _ _ _ _ _ _ => rfl⟩
section
variable {K : PySem.W.Frag}
theorem fn1_mk {f y qual tx : Str} {j : Nat} {oc : Value} {od : Option Addr} {doc pm : Value} {an : Option Addr} {ct : Value} {osl : Array (Option Value)} {p1 p2 q1 q2 q3 q4 q5 q6 q7 q8 q9 qa : Pos} {C fI cc cda : Addr}
    (l1 : K.lookup fI = some ⟨oc, od, .func (PySem.W.ksFn "__init__" qual (iA y p1 p2) [supS tx j q1 q2 q3 q4 q5 q6, atS f y q7 q8 q9 qa] (iS y) .none .none doc pm an (.ref cda) ct cc), osl⟩) (cI : PySem.W.codeIn K (.ref cda) qual = true) (noN : PySem.W.findIn K (.ref C) f = some none) (Y : YOk y)
    (hev : ∀ L, eval (.Call (.Attribute (.Call (.Name "super" q1) [] [] q2) "__init__" q3) [.Constant (.str tx) j q4] [] q5) (PySem.W.ksEnv qual (iS y) L fI (.ref cda) cc) = (do
      let ov ← attributeBase (.Call (.Name "super" q1) [] [] q2) "__init__" (PySem.W.ksEnv qual (iS y) L fI (.ref cda) cc) (eval (.Call (.Name "super" q1) [] [] q2) (PySem.W.ksEnv qual (iS y) L fI (.ref cda) cc))
      standAt q3.atName
      let (f, first) ← holding [ov] (getMethod ov "__init__" (plS q1 q2 (PySem.W.ksEnv qual (iS y) L fI (.ref cda) cc)))
      callWith q5 f first (backTo q5 (starEach [.Constant (.str tx) j q4] (PySem.W.ksEnv qual (iS y) L fI (.ref cda) cc))) [])) : ExFn1 K C fI cc cda f y where
  fn := ⟨qual, tx, j, oc, od, doc, pm, an, ct, osl, p1, p2, q1, q2, q3, q4, q5, q6, q7, q8, q9, qa, l1, cI, fun _ => rfl, hev, fun _ => rfl⟩
  noN := noN
  ys := Y.ys
  yd := Y.yd
  nc := Y.nc
  l1 := Y.l1
  l2 := Y.l2
  l3 := Y.l3
  l4 := Y.l4
  bd := fun qual body doc pm an cv ct p1 p2 x v => Y.bd qual body doc pm an cv ct cc p1 p2 x v
end
section
variable {P : Program} {w : World} {K : PySem.W.Frag} {mg : Str → Option Value} {C CN fI fN cc cda L : Addr} {fdI : FuncData} {cI : Value}
theorem own_mk {T : List (Addr × Str)} {base : Heap} {m qual : Str} {st : Stmt} {f : Addr} {cdv : Value} {n k : Nat} {ps : List Str} {pre : List D → D → Prop} (M : Mz K C m qual st f cdv) (hn : ps.length = n) (hb : ∀ fd, Fun K m qual st f fd → Binds K fd ps []) (ok : ∀ fd, Fun K m qual st f fd → FnOk P w K mg base CX0 k f fd ps (spD T K n pre)) : OwnM T P w K mg base C m n k pre f := by
  obtain ⟨fd, F, _⟩ := M.fn
  exact ⟨M.me.at_, M.me.fn, M.me.kp, fd, ps, hb fd F, hn, ok fd F⟩
theorem fd_mk {T : List (Addr × Str)} {base : Heap} {x : Str} {st : Stmt} {f : Addr} {cdv : Value} {n k : Nat} {ps : List Str} {pre : List D → D → Prop} (M : Dz K mg x st f cdv) (hn : ps.length = n) (hb : ∀ fd, Fun K x x st f fd → Binds K fd ps []) (ok : ∀ fd, Fun K x x st f fd → FnOk P w K mg base CX0 k f fd ps (spD T K n pre)) : FD T P w K mg base x n k pre := by
  obtain ⟨fd, F, _⟩ := M.fn
  exact FD.mk M.at_ F.kp (hb fd F) hn (ok fd F)
theorem init_b0 (I : Iz K C "Ratio.__init__" sInit fI fdI cI) : Binds K fdI ["self", "top", "bottom"] [] := by
  obtain ⟨ds, v, b⟩ := FunD.binds1 (ps := ["self", "top", "bottom"]) I.d 3 1 (by simp) (by rfl) fun T kV doc pm an cdv ct us its l1 l2 => match us, its, l1, l2 with | [_, _, _], [_], _, _ => ⟨_, rfl, rfl⟩
  cases v
  exact b
/-- the built-in names that the text leaves free -/
structure Fre (mg : Str → Option Value) : Prop where
  len : mg "len" = none
  abs : mg "abs" = none
  int : mg "int" = none
  range : mg "range" = none
  str : mg "str" = none
  all : mg "all" = none
/-- all that is known of the top -/
structure Tp (P : Program) (K : PySem.W.Frag) (mg : Str → Option Value) (C fI : Addr) (fdI : FuncData) (cI : Value) (L CN fN cc cda : Addr) : Prop where
  R : Rt K mg C
  gcd : mg "gcd" = some (.builtin "math.gcd")
  I : Iz K C "Ratio.__init__" sInit fI fdI cI
  B : Fre mg
  dg : ∃ v tk, mg "DIGITS" = some v ∧ v = .str DIG tk
  kS : PySem.W.kitOne K (.type "str") (.type "str") = some true
  N : One P K mg L "NoText" CN fN cc cda
  N1 : ExFn1 K CN fN cc cda "text" "text"
  rs1 : PySem.W.subIn K (.ref CN) (.type "BaseException") = some true
  xf : XfC K CN
  em : PySem.W.exmOne K (.ref CN) (.ref CN) = some true
  m1 : ∃ f c, Mz K C "__neg__" "Ratio.__neg__" sNeg f c
  m2 : ∃ f c, Mz K C "__str__" "Ratio.__str__" sStr f c
  d1 : ∃ f c, Dz K mg "are_digits" sDig f c
  d2 : ∃ f c, Dz K mg "plain" sPlain f c
  d3 : ∃ f c, Dz K mg "read_number" sRead f c
  d4 : ∃ f c, Dz K mg "_number_told" sTold f c
  e1 : ∃ f c, Dz K mg "_law_cell" sCell f c
  e2 : ∃ f c, Dz K mg "_law_row" sRow f c
  e3 : ∃ f c, Dz K mg "_law_share" sShare f c
  e4 : ∃ f c, Dz K mg "_law_low" sLow f c
  e5 : ∃ f c, Dz K mg "_law_is" sIs f c
  e6 : ∃ f c, Dz K mg "_law_number_text" sNtx f c
  e7 : ∃ f c, Dz K mg "_law_sign" sSign f c
  e8 : ∃ f c, Dz K mg "_law_spoilt" sSpo f c
  e9 : ∃ f c, Dz K mg "_law_read" sRd f c
  g1 : ∃ f c, Dz K mg "_law_digits" sDg f c
  g2 : ∃ f c, Dz K mg "_law_told" sLt f c
  g3 : ∃ f c, Dz K mg "_law_as_due" sDue f c
  g4 : ∃ f c, Dz K mg "law" sLaw f c
theorem all_le {base : Heap} (t : Tp P K mg C fI fdI cI L CN fN cc cda) : LL [] P w K mg base C CN := by
  have I := t.I
  have b0 := init_b0 I
  have R := t.R
  have okI : FnOk P w K mg base CX0 1 fI fdI ["self", "top", "bottom"] (spM [] K C 2 pInit) := ok_init I.z R.ik.cl R.nt R.nb t.gcd
  have M : MD [] P w K mg base "Ratio" C 2 1 pInit := ⟨fI, fdI, _, R.mgR, I.mk', rfl, okI, b0⟩
  obtain ⟨_, _, d1⟩ := t.d1
  obtain ⟨_, _, d2⟩ := t.d2
  obtain ⟨_, _, d3⟩ := t.d3
  obtain ⟨_, _, d4⟩ := t.d4
  obtain ⟨_, _, e1⟩ := t.e1
  obtain ⟨_, _, e2⟩ := t.e2
  obtain ⟨_, _, e3⟩ := t.e3
  obtain ⟨_, _, e4⟩ := t.e4
  obtain ⟨_, _, e5⟩ := t.e5
  obtain ⟨_, _, e6⟩ := t.e6
  obtain ⟨_, _, e7⟩ := t.e7
  obtain ⟨_, _, e8⟩ := t.e8
  obtain ⟨_, _, e9⟩ := t.e9
  obtain ⟨_, _, g1⟩ := t.g1
  obtain ⟨_, _, g2⟩ := t.g2
  obtain ⟨_, _, g3⟩ := t.g3
  obtain ⟨_, _, m1⟩ := t.m1
  obtain ⟨_, _, m2⟩ := t.m2
  obtain ⟨_, _, dD, rfl⟩ := t.dg
  have GD : FD [] P w K mg base "are_digits" 1 2 pDig := fd_mk d1 rfl (fun fd F => F.binds fun _ _ _ _ _ _ us hl => match us, hl with | [_], _ => rfl) fun fd F => ok_dig F R.bAll dD
  have GP : FD [] P w K mg base "plain" 1 1 (pPlain C) := fd_mk d2 rfl (fun fd F => F.binds fun _ _ _ _ _ _ us hl => match us, hl with | [_], _ => rfl) fun fd F => ok_plain F R
  have o1 := own_mk (P := P) (w := w) (mg := mg) (T := []) (base := base) m1 rfl (fun fd F => F.binds fun _ _ _ _ _ _ us hl => match us, hl with | [_], _ => rfl) fun fd F => ok_neg F R M
  have o2 := own_mk (P := P) (w := w) (mg := mg) (T := []) (base := base) m2 rfl (fun fd F => F.binds fun _ _ _ _ _ _ us hl => match us, hl with | [_], _ => rfl) fun fd F => ok_str F R
  have V : TE' [] P w K mg base C := ⟨R, M, GD, GP, ⟨_, o1⟩, t.kS⟩
  have GT : FD [] P w K mg base "_number_told" 1 4 (pTold C) := fd_mk d4 rfl (fun fd F => F.binds fun _ _ _ _ _ _ us hl => match us, hl with | [_], _ => rfl) fun fd F => ok_told F V
  have E : RE [] P w K mg base C CN := ⟨V, GT, ⟨_, o2⟩, ⟨_, _, _, t.N.ex, t.N1⟩, t.N.mgC, t.rs1, t.N.ty⟩
  have GR : FD [] P w K mg base "read_number" 1 5 (pRead C) := fd_mk d3 rfl (fun fd F => F.binds fun _ _ _ _ _ _ us hl => match us, hl with | [_], _ => rfl) fun fd F => ok_read F E
  have GX : FY [] P w K mg base "read_number" 1 5 (pReadX CN) := by
    obtain ⟨fd, F, Z⟩ := d3.fn
    exact ⟨_, fd, ["text"], d3.at_, F.kp, F.binds fun _ _ _ _ _ _ us hl => match us, hl with | [_], _ => rfl, rfl, ok_readX Z E⟩
  have HC : FD [] P w K mg base "_law_cell" 2 1 pCell := fd_mk e1 rfl (fun fd F => F.binds fun _ _ _ _ _ _ us hl => match us, hl with | [_, _], _ => rfl) fun fd F => ok_cell F t.B.len
  have HR : FD [] P w K mg base "_law_row" 2 1 pRow := fd_mk e2 rfl (fun fd F => F.binds fun _ _ _ _ _ _ us hl => match us, hl with | [_, _], _ => rfl) fun fd F => ok_row F t.B.int t.B.range t.B.len
  have HS : FD [] P w K mg base "_law_share" 2 1 pShare := fd_mk e3 rfl (fun fd F => F.binds fun _ _ _ _ _ _ us hl => match us, hl with | [_, _], _ => rfl) fun fd F => ok_share F t.B.abs t.B.int
  have HL : FD [] P w K mg base "_law_low" 2 2 pLow := fd_mk e4 rfl (fun fd F => F.binds fun _ _ _ _ _ _ us hl => match us, hl with | [_, _], _ => rfl) fun fd F => ok_low F HS
  have HI : FD [] P w K mg base "_law_is" 2 1 (pIs C) := fd_mk e5 rfl (fun fd F => F.binds fun _ _ _ _ _ _ us hl => match us, hl with | [_, _], _ => rfl) fun fd F => ok_is F R
  have HN : FD [] P w K mg base "_law_number_text" 1 1 pNtx := fd_mk e6 rfl (fun fd F => F.binds fun _ _ _ _ _ _ us hl => match us, hl with | [_], _ => rfl) fun fd F => ok_ntx F t.B.str
  have HG : FD [] P w K mg base "_law_sign" 1 1 pSign := fd_mk e7 rfl (fun fd F => F.binds fun _ _ _ _ _ _ us hl => match us, hl with | [_], _ => rfl) fun fd F => ok_sign F
  have HP : FD [] P w K mg base "_law_spoilt" 4 2 pSpo := fd_mk e8 rfl (fun fd F => F.binds fun _ _ _ _ _ _ us hl => match us, hl with | [_, _, _, _], _ => rfl) fun fd F => ok_spo F HG t.B.len
  have HD : FD [] P w K mg base "_law_digits" 1 1 pDg' := fd_mk g1 rfl (fun fd F => F.binds fun _ _ _ _ _ _ us hl => match us, hl with | [_], _ => rfl) fun fd F => ok_dg F
  have HA : FD [] P w K mg base "_law_read" 1 2 pRd := fd_mk e9 rfl (fun fd F => F.binds fun _ _ _ _ _ _ us hl => match us, hl with | [_], _ => rfl) fun fd F => ok_rd F ⟨HD, HS, t.B.len, t.B.all, t.B.int⟩
  have HT : FD [] P w K mg base "_law_told" 1 6 (pLt C) := fd_mk g2 rfl (fun fd F => F.binds fun _ _ _ _ _ _ us hl => match us, hl with | [_], _ => rfl) fun fd F => ok_lt F GR GX ⟨t.xf, t.N1.noN, t.em, t.N.mgC⟩
  have HU : FD [] P w K mg base "_law_as_due" 1 7 pDue := fd_mk g3 rfl (fun fd F => F.binds fun _ _ _ _ _ _ us hl => match us, hl with | [_], _ => rfl) fun fd F => ok_due F HA HT HI
  exact ⟨E, HC, HR, HL, HN, HP, HU, t.B.abs, t.B.len⟩
theorem fin {fa : Addr} (t : Tp P K mg C fI fdI cI L CN fN cc cda) (hfa : mg "law" = some (.ref fa)) :
    ∃ fd : FuncData, (∀ (s : Shared) (u : Value), BindsTo s fd ⟨[u], []⟩ [("_law_script", u)]) ∧ ∀ base : Heap, K.In base → base.Ns mainGlobals mg → FnOk P w K mg base CX0 8 fa fd ["_law_script"] (spD [] K 1 pLaw) := by
  obtain ⟨f, c, g4⟩ := t.g4
  have e := hfa.symm.trans g4.at_
  cases e
  obtain ⟨fd, F, Z⟩ := g4.fn
  refine ⟨fd, fun s u => ?_, fun base _ _ => ok_law F (all_le t)⟩
  obtain ⟨oc, od, kV, doc, pm, an, cdv, ct, osl, rfl, _, _⟩ := F.ex
  exact .of_eq rfl
end
end K03

set_option Elab.async false
set_option linter.all false
set_option maxRecDepth 100000
open PySem PySem.W PyProof.Rows
set_option maxRecDepth 100000 in
set_option maxHeartbeats 0 in
theorem PySem.Challenge.cw_everylist_k03_texts_of_numbers_holds : PySem.Challenge.rw_everylist_k03_texts_of_numbers.Holds := by
  w_on; o_law; k_head; (case hw => w_witness2)
  k_fill
  refine Fd.walk (l := PySem.Challenge.rw_everylist_k03_texts_of_numbers) (x := "_law_script") 8 ⟨rfl, by decide, by decide⟩ rfl rfl (fun w h Y => PySem.W.kIn_of Y) ?F
  case F =>
    intro w mg fa h KX G hmg
    refine' K03.fin (K03.Tp.mk ?R ?gcd ?I ?B ?dg ?kS (K03.one_mk KX G ?aC_nt ?xL_nt ?nsa_nt ?nga_nt ?ngg_nt ?niC_nt ?tI_nt ?kC_nt ?ty_nt ?ce_nt ?co_nt ?v2_nt ?fi_nt ?sup_nt ?opq_nt ?mgs_nt ?tp_nt ?nca_nt ?ngd_nt ?ntk_nt) (K03.fn1_mk ?l1_nt ?cI_nt ?nN_nt K03.y_text ?hev_nt) ?rs1 ?xf ?em ?m1 ?m2 ?d1 ?d2 ?d3 ?d4 ?e1 ?e2 ?e3 ?e4 ?e5 ?e6 ?e7 ?e8 ?e9 ?g1 ?g2 ?g3 ?g4) hmg
    (case R => refine' ⟨PySem.W.mg_of KX G ?mgR, ⟨⟨?pg, ?hd, ?po, ?sa⟩, ?ca, ?gd, ?tk, ?ob⟩, ?nt, ?nb, ?kI, ?kB, ?kO, ?kR, PySem.W.mg_none_of KX G ?bIs, PySem.W.mg_none_of KX G ?bInt, PySem.W.mg_none_of KX G ?bBool, PySem.W.mg_none_of KX G ?bStr, PySem.W.mg_none_of KX G ?bAll⟩; (case mgR => k_is); (case pg => k_is); (case hd => k_is); (case po => k_is); (case sa => k_is); (case ca => k_is); (case gd => k_is); (case tk => k_is); (case ob => k_is); (case nt => unfold L2.NoAttr; k_is); (case nb => unfold L2.NoAttr; k_is); (case kI => kernel_rfl); (case kB => kernel_rfl); (case kO => kernel_rfl); (case kR => kernel_rfl); (case bIs => k_is); (case bInt => k_is); (case bBool => k_is); (case bStr => k_is); (case bAll => k_is))
    (case gcd => refine' PySem.W.mg_of KX G ?_; k_is)
    (case I => refine' Fd.iz_mk ?i1 ?i2 ?i3 ?i4 ?i5 ?i6 ?i7 ?i8 ?i9; (case i1 => k_is); (case i2 => k_is); (case i3 => k_is); (case i4 => k_is); (case i5 => k_is); (case i6 => k_is); (case i7 => k_is); (case i8 => k_is); (case i9 => exact ⟨_, rfl⟩))
    (case B => refine' ⟨PySem.W.mg_none_of KX G ?z_len, PySem.W.mg_none_of KX G ?z_abs, PySem.W.mg_none_of KX G ?z_int, PySem.W.mg_none_of KX G ?z_range, PySem.W.mg_none_of KX G ?z_str, PySem.W.mg_none_of KX G ?z_all⟩; (case z_len => k_is); (case z_abs => k_is); (case z_int => k_is); (case z_range => k_is); (case z_str => k_is); (case z_all => k_is))
    (case dg => refine' ⟨_, _, PySem.W.mg_of KX G ?dgE, ?dgF⟩; (case dgE => k_is); (case dgF => first | exact rfl | (unfold K03.DIG; exact rfl)))
    (case kS => kernel_rfl)
    (case aC_nt => k_is)
    (case xL_nt => k_is)
    (case niC_nt => k_is)
    (case l1_nt => k_is)
    (case cI_nt => k_is)
    (case nN_nt => k_is)
    (case hev_nt => exact fun _ => rfl)
    (case ce_nt => k_is)
    (case co_nt => k_is)
    (case v2_nt => rfl)
    (case fi_nt => first | rfl | decide +kernel)
    (case sup_nt => ks_is)
    (case tp_nt => first | rfl | decide +kernel)
    (case nsa_nt => k_is)
    (case nga_nt => k_is)
    (case ngg_nt => k_is)
    (case tI_nt => k_is)
    (case kC_nt => k_is)
    (case ty_nt => k_is)
    (case opq_nt => k_is)
    (case mgs_nt => k_is)
    (case nca_nt => k_is)
    (case ngd_nt => k_is)
    (case ntk_nt => k_is)
    (case rs1 => k_is)
    (case xf => refine' ⟨?xga, ?xgg, ?xex, ?xhd⟩; (case xga => k_is); (case xgg => k_is); (case xex => k_is); (case xhd => k_is))
    (case em => kernel_rfl)
    (case m1 => refine' ⟨_, _, Fd.mz_mk ?a_m1 ?b_m1 ?l_m1 ?c_m1 ?k_m1⟩; (case a_m1 => k_is); (case b_m1 => k_is); (case l_m1 => k_is); (case c_m1 => k_is); (case k_m1 => k_is))
    (case m2 => refine' ⟨_, _, Fd.mz_mk ?a_m2 ?b_m2 ?l_m2 ?c_m2 ?k_m2⟩; (case a_m2 => k_is); (case b_m2 => k_is); (case l_m2 => k_is); (case c_m2 => k_is); (case k_m2 => k_is))
    (case d1 => refine' ⟨_, _, Fd.dz_mk KX G ?a_d1 ?l_d1 ?c_d1 ?k_d1⟩; (case a_d1 => k_is); (case l_d1 => k_is); (case c_d1 => k_is); (case k_d1 => k_is))
    (case d2 => refine' ⟨_, _, Fd.dz_mk KX G ?a_d2 ?l_d2 ?c_d2 ?k_d2⟩; (case a_d2 => k_is); (case l_d2 => k_is); (case c_d2 => k_is); (case k_d2 => k_is))
    (case d3 => refine' ⟨_, _, Fd.dz_mk KX G ?a_d3 ?l_d3 ?c_d3 ?k_d3⟩; (case a_d3 => k_is); (case l_d3 => k_is); (case c_d3 => k_is); (case k_d3 => k_is))
    (case d4 => refine' ⟨_, _, Fd.dz_mk KX G ?a_d4 ?l_d4 ?c_d4 ?k_d4⟩; (case a_d4 => k_is); (case l_d4 => k_is); (case c_d4 => k_is); (case k_d4 => k_is))
    (case e1 => refine' ⟨_, _, Fd.dz_mk KX G ?a_e1 ?l_e1 ?c_e1 ?k_e1⟩; (case a_e1 => k_is); (case l_e1 => k_is); (case c_e1 => k_is); (case k_e1 => k_is))
    (case e2 => refine' ⟨_, _, Fd.dz_mk KX G ?a_e2 ?l_e2 ?c_e2 ?k_e2⟩; (case a_e2 => k_is); (case l_e2 => k_is); (case c_e2 => k_is); (case k_e2 => k_is))
    (case e3 => refine' ⟨_, _, Fd.dz_mk KX G ?a_e3 ?l_e3 ?c_e3 ?k_e3⟩; (case a_e3 => k_is); (case l_e3 => k_is); (case c_e3 => k_is); (case k_e3 => k_is))
    (case e4 => refine' ⟨_, _, Fd.dz_mk KX G ?a_e4 ?l_e4 ?c_e4 ?k_e4⟩; (case a_e4 => k_is); (case l_e4 => k_is); (case c_e4 => k_is); (case k_e4 => k_is))
    (case e5 => refine' ⟨_, _, Fd.dz_mk KX G ?a_e5 ?l_e5 ?c_e5 ?k_e5⟩; (case a_e5 => k_is); (case l_e5 => k_is); (case c_e5 => k_is); (case k_e5 => k_is))
    (case e6 => refine' ⟨_, _, Fd.dz_mk KX G ?a_e6 ?l_e6 ?c_e6 ?k_e6⟩; (case a_e6 => k_is); (case l_e6 => k_is); (case c_e6 => k_is); (case k_e6 => k_is))
    (case e7 => refine' ⟨_, _, Fd.dz_mk KX G ?a_e7 ?l_e7 ?c_e7 ?k_e7⟩; (case a_e7 => k_is); (case l_e7 => k_is); (case c_e7 => k_is); (case k_e7 => k_is))
    (case e8 => refine' ⟨_, _, Fd.dz_mk KX G ?a_e8 ?l_e8 ?c_e8 ?k_e8⟩; (case a_e8 => k_is); (case l_e8 => k_is); (case c_e8 => k_is); (case k_e8 => k_is))
    (case e9 => refine' ⟨_, _, Fd.dz_mk KX G ?a_e9 ?l_e9 ?c_e9 ?k_e9⟩; (case a_e9 => k_is); (case l_e9 => k_is); (case c_e9 => k_is); (case k_e9 => k_is))
    (case g1 => refine' ⟨_, _, Fd.dz_mk KX G ?a_g1 ?l_g1 ?c_g1 ?k_g1⟩; (case a_g1 => k_is); (case l_g1 => k_is); (case c_g1 => k_is); (case k_g1 => k_is))
    (case g2 => refine' ⟨_, _, Fd.dz_mk KX G ?a_g2 ?l_g2 ?c_g2 ?k_g2⟩; (case a_g2 => k_is); (case l_g2 => k_is); (case c_g2 => k_is); (case k_g2 => k_is))
    (case g3 => refine' ⟨_, _, Fd.dz_mk KX G ?a_g3 ?l_g3 ?c_g3 ?k_g3⟩; (case a_g3 => k_is); (case l_g3 => k_is); (case c_g3 => k_is); (case k_g3 => k_is))
    (case g4 => refine' ⟨_, _, Fd.dz_mk KX G ?a_g4 ?l_g4 ?c_g4 ?k_g4⟩; (case a_g4 => k_is); (case l_g4 => k_is); (case c_g4 => k_is); (case k_g4 => k_is))
